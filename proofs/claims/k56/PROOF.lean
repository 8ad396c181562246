import PyProof.Rows.All
import Wide.All
import OpenK.AllK
import Wide.FinOn
import Lean
import PyProof.EqAt
import PyProof.EqKinds
import PyProof.TupleCall
import PySem.Challenge.RW_fewrooms_k56_far_costs
set_option Elab.async false
set_option linter.all false
set_option maxRecDepth 100000
set_option maxHeartbeats 0
namespace Fw
open PySem
def top (i : Nat) : Stmt := PySem.Challenge.pw_fewrooms_k56_far_costs.main.body.getD i (.Pass ⟨0, 0, 0, 0⟩)
abbrev s_cost_of : Stmt := top 2
abbrev s_far_cost : Stmt := top 3
abbrev s_Lbegin : Stmt := top 5
abbrev s_Ltake : Stmt := top 6
abbrev s_Lsame : Stmt := top 7
abbrev s_Lcosts : Stmt := top 8
abbrev s_Lmoves : Stmt := top 9
abbrev s_law : Stmt := top 10
end Fw
set_option Elab.async false
set_option linter.all false
set_option maxRecDepth 100000
set_option maxHeartbeats 0
namespace Fw
open PySem
def dA (s : Stmt) : Arguments := match s with
  | .FunctionDef _ a _ _ _ _ _ _ _ _ => a
  | _ => { posonlyargs := [], args := [], vararg := none, kwonlyargs := [], kw_defaults := [], kwarg := none, defaults := [] }
def dB (s : Stmt) : List Stmt := match s with
  | .FunctionDef _ _ b _ _ _ _ _ _ _ => b
  | _ => []
def dS (s : Stmt) : Scope := match s with
  | .FunctionDef _ _ _ _ _ _ sc _ _ _ => sc
  | _ => { kind := .function, names := [], isGenerator := false, isCoroutine := false }
abbrev so (s : String) : Str := PySem.Str.ofString s
abbrev kh (P : Params) (s : Str) : Int := PySem.PyData.keyHash P s
abbrev hde (P : Params) (s : String) (n : Nat) (v : Value) : DictEntry := ⟨kh P (so s), .str (so s) n, v⟩
abbrev hvs (s : String) (n : Nat) : Value := .str (so s) n
abbrev hcut (n : Nat) : Value := hvs "/claim/cut.py" n
abbrev hfd (x q : String) (s : Stmt) (a b c d : Value) (e : Option Addr) (f g : Value) (i : Addr) : FuncData := ⟨so x, so q, dA s, .stmts (dB s), dS s, 3, [], a, b, c, d, e, f, g, i⟩
abbrev htp (d : Data) (s : Array (Option Value)) : Obj := ⟨.type "tuple", none, d, s⟩
abbrev hcd (d : Data) (s : Array (Option Value)) : Obj := ⟨.type "code", none, d, s⟩
abbrev hfn (d : Data) (s : Array (Option Value)) : Obj := ⟨.type "function", none, d, s⟩
def hpK : Params → PySem.W.Frag := fun P =>
  (nat_lit 2, Obj.mk .none .none (.dict #[]) #[]) ::
  (nat_lit 3, Obj.mk (.type "dict") .none (.dict #[hde P "__name__" 165 (hvs "law_fewrooms_k56_far_costs" 207), hde P "__doc__" 166 .none, hde P "__package__" 167 .none, hde P "__loader__" 168 (.builtin "__main__.__loader__#opaque"), hde P "__spec__" 169 .none, hde P "__annotations__" 170 (.ref 6), hde P "__builtins__" 171 (.ref 4), hde P "__file__" 173 (hcut 172), hde P "__cached__" 174 .none, hde P "WITH_COST" 192 (.ref 15), hde P "cost_of" 200 (.ref 22), hde P "far_cost" 206 (.ref 27), hde P "_law_begin" 216 (.ref 34), hde P "_law_take" 229 (.ref 41), hde P "_law_same" 235 (.ref 46), hde P "_law_costs" 241 (.ref 51), hde P "_law_moves" 247 (.ref 56), hde P "law" 253 (.ref 61)] 18) #[]) ::
  (nat_lit 6, Obj.mk (.type "dict") .none (.dict #[]) #[]) ::
  (nat_lit 15, htp (.seq #[hvs "do" 189, hvs "put" 190, hvs "fetch" 191]) #[]) ::
  (nat_lit 16, htp (.seq #[]) #[]) ::
  (nat_lit 18, htp (.seq #[hvs "move" 196, hvs "costs" 197]) #[]) ::
  (nat_lit 19, htp (.seq #[]) #[]) ::
  (nat_lit 21, hcd (.fields #[hvs "cost_of" 193, hvs "cost_of" 194, hcut 195, .int 3 0, .int 2 0, .int 0 0, .int 0 0, .int 3 0, .ref 16, .bool .true, .int 181 0, .ref 17, .none, .ref 18, .ref 19, .ref 20, .int 198 0, .int 3 0, hcut 199]) #[]) ::
  (nat_lit 22, hfn (.func (hfd "cost_of" "cost_of" s_cost_of .none .none .none (hvs "fewrooms.shelf" 187) .none (.ref 21) .none 0)) #[]) ::
  (nat_lit 23, htp (.seq #[]) #[]) ::
  (nat_lit 26, hcd (.fields #[hvs "far_cost" 201, hvs "far_cost" 202, hcut 203, .int 7 0, .int 2 0, .int 0 0, .int 0 0, .int 3 0, .ref 23, .bool .true, .int 181 0, .ref 24, .none, .none, .none, .ref 25, .int 204 0, .int 7 0, hcut 205]) #[]) ::
  (nat_lit 27, hfn (.func (hfd "far_cost" "far_cost" s_far_cost .none .none .none (hvs "fewrooms.shelf" 187) .none (.ref 26) .none 0)) #[]) ::
  (nat_lit 28, htp (.seq #[]) #[]) ::
  (nat_lit 30, htp (.seq #[hvs "_law_script" 212, hvs "_law_cells" 213]) #[]) ::
  (nat_lit 31, htp (.seq #[]) #[]) ::
  (nat_lit 33, hcd (.fields #[hvs "_law_begin" 209, hvs "_law_begin" 210, hcut 211, .int 10 0, .int 1 0, .int 0 0, .int 0 0, .int 3 0, .ref 28, .bool .true, .int 181 0, .ref 29, .none, .ref 30, .ref 31, .ref 32, .int 214 0, .int 10 0, hcut 215]) #[]) ::
  (nat_lit 34, hfn (.func (hfd "_law_begin" "_law_begin" s_Lbegin .none .none .none (hvs "law_fewrooms_k56_far_costs" 207) .none (.ref 33) .none 0)) #[]) ::
  (nat_lit 35, htp (.seq #[]) #[]) ::
  (nat_lit 37, htp (.seq #[hvs "_law_state" 220, hvs "_law_many" 221, hvs "_law_turn" 222, hvs "_law_place" 223, hvs "_law_cell" 224, hvs "_law_digit" 225, hvs "_law_mixed" 226]) #[]) ::
  (nat_lit 38, htp (.seq #[]) #[]) ::
  (nat_lit 40, hcd (.fields #[hvs "_law_take" 217, hvs "_law_take" 218, hcut 219, .int 15 0, .int 2 0, .int 0 0, .int 0 0, .int 3 0, .ref 35, .bool .true, .int 181 0, .ref 36, .none, .ref 37, .ref 38, .ref 39, .int 227 0, .int 15 0, hcut 228]) #[]) ::
  (nat_lit 41, hfn (.func (hfd "_law_take" "_law_take" s_Ltake .none .none .none (hvs "law_fewrooms_k56_far_costs" 207) .none (.ref 40) .none 0)) #[]) ::
  (nat_lit 42, htp (.seq #[]) #[]) ::
  (nat_lit 45, hcd (.fields #[hvs "_law_same" 230, hvs "_law_same" 231, hcut 232, .int 26 0, .int 2 0, .int 0 0, .int 0 0, .int 3 0, .ref 42, .bool .true, .int 181 0, .ref 43, .none, .none, .none, .ref 44, .int 233 0, .int 26 0, hcut 234]) #[]) ::
  (nat_lit 46, hfn (.func (hfd "_law_same" "_law_same" s_Lsame .none .none .none (hvs "law_fewrooms_k56_far_costs" 207) .none (.ref 45) .none 0)) #[]) ::
  (nat_lit 47, htp (.seq #[]) #[]) ::
  (nat_lit 50, hcd (.fields #[hvs "_law_costs" 236, hvs "_law_costs" 237, hcut 238, .int 38 0, .int 1 0, .int 0 0, .int 0 0, .int 3 0, .ref 47, .bool .true, .int 181 0, .ref 48, .none, .none, .none, .ref 49, .int 239 0, .int 38 0, hcut 240]) #[]) ::
  (nat_lit 51, hfn (.func (hfd "_law_costs" "_law_costs" s_Lcosts .none .none .none (hvs "law_fewrooms_k56_far_costs" 207) .none (.ref 50) .none 0)) #[]) ::
  (nat_lit 52, htp (.seq #[]) #[]) ::
  (nat_lit 55, hcd (.fields #[hvs "_law_moves" 242, hvs "_law_moves" 243, hcut 244, .int 41 0, .int 1 0, .int 0 0, .int 0 0, .int 3 0, .ref 52, .bool .true, .int 181 0, .ref 53, .none, .none, .none, .ref 54, .int 245 0, .int 41 0, hcut 246]) #[]) ::
  (nat_lit 56, hfn (.func (hfd "_law_moves" "_law_moves" s_Lmoves .none .none .none (hvs "law_fewrooms_k56_far_costs" 207) .none (.ref 55) .none 0)) #[]) ::
  (nat_lit 57, htp (.seq #[]) #[]) ::
  (nat_lit 60, hcd (.fields #[hvs "law" 248, hvs "law" 249, hcut 250, .int 45 0, .int 1 0, .int 0 0, .int 0 0, .int 3 0, .ref 57, .bool .true, .int 181 0, .ref 58, .none, .none, .none, .ref 59, .int 251 0, .int 45 0, hcut 252]) #[]) ::
  (nat_lit 61, hfn (.func (hfd "law" "law" s_law .none .none .none (hvs "law_fewrooms_k56_far_costs" 207) .none (.ref 60) .none 0)) #[]) ::
  []
def hpA : List Addr := [2, 3, 6, 15, 16, 18, 19, 21, 22, 23, 26, 27, 28, 30, 31, 33, 34, 35, 37, 38, 40, 41, 42, 45, 46, 47, 50, 51, 52, 55, 56, 57, 60, 61]
def hpQ : Program := PySem.W.view PySem.Challenge.pw_fewrooms_k56_far_costs [1, 2, 3, 5, 6, 7, 8, 9, 10]
def hpN : Nat := 880
theorem hpE (P : Params) : hpA = (hpK P).map (·.1) := by kernel_rfl
def hpX (s : Shared) : Bool := PySem.W.xlAt hpQ [] s && PySem.W.recOk (PySem.W.RowW.records (PySem.W.OpenRow.toRowW (PySem.W.OpenLaw.row PySem.Challenge.rw_fewrooms_k56_far_costs))) s
theorem hpLeft : PySem.W.LeftO PySem.Challenge.pw_fewrooms_k56_far_costs hpQ [] hpX (PySem.W.kHook hpK hpA hpE).obs (PySem.W.kHook hpK hpA hpE).val hpN := fun w => by kernel_rfl
theorem hpSaid : PySem.W.OpenLaw.wellSaid PySem.Challenge.rw_fewrooms_k56_far_costs = true := by kernel_rfl
end Fw
set_option Elab.async false
set_option linter.all false
set_option maxRecDepth 100000
namespace L2
open PySem PySem.Spec PyProof.Rows
abbrev Key := Sum Int Str
def keyIs : Key → Value → Bool
  | .inl k, v => Value.isInt k v
  | .inr x, v => Value.isStrOf x v
def keyH (w : World) : Key → Int
  | .inl k => hashInt k
  | .inr x => hashStr w x
theorem keyIs_shape : ∀ {k : Key} {v : Value}, keyIs k v = true → (∃ i t, k = Sum.inl i ∧ v = Value.int i t) ∨ (∃ x t, k = Sum.inr x ∧ v = Value.str x t)
  | .inl i, v, h => by
    obtain ⟨t, e⟩ := Value.isInt_shape (k := i) (v := v) h
    exact .inl ⟨i, t, rfl, e⟩
  | .inr x, v, h => by
    obtain ⟨t, e⟩ := Value.isStrOf_shape (x := x) (v := v) h
    exact .inr ⟨x, t, rfl, e⟩
theorem keyIs_int (i : Int) (t : Tok) : keyIs (.inl i) (.int i t) = true := by simp [keyIs, Value.isInt]
theorem keyIs_str (x : Str) (t : Tok) : keyIs (.inr x) (.str x t) = true := by simp [keyIs, Value.isStrOf]
theorem key_ll (a b : Int) : decide ((Sum.inl a : Key) = Sum.inl b) = (a == b) := by
  by_cases e : a = b
  · subst e; simp
  · have h : ¬ (Sum.inl a : Key) = Sum.inl b := fun q => e (Sum.inl.inj q)
    rw [decide_eq_false h]
    exact (beq_eq_false_iff_ne.mpr e).symm
theorem key_rr (a b : Str) : decide ((Sum.inr a : Key) = Sum.inr b) = decide (a = b) := by
  by_cases e : a = b
  · subst e; simp
  · have h : ¬ (Sum.inr a : Key) = Sum.inr b := fun q => e (Sum.inr.inj q)
    rw [decide_eq_false h, decide_eq_false e]
theorem key_lr (a : Int) (b : Str) : decide ((Sum.inl a : Key) = Sum.inr b) = false := decide_eq_false (fun q => nomatch q)
theorem key_rl (a : Str) (b : Int) : decide ((Sum.inr a : Key) = Sum.inl b) = false := decide_eq_false (fun q => nomatch q)
def mixKind (prog : Program) (w : World) : PySem.KeyKind prog w Key where
  is := keyIs
  hash := keyH w
  inj := fun v a b ha hb => by
    rcases keyIs_shape ha with ⟨i, t, rfl, rfl⟩ | ⟨x, t, rfl, rfl⟩
    · rcases keyIs_shape hb with ⟨j, u, rfl, e⟩ | ⟨y, u, rfl, e⟩
      · injection e with e1 _; rw [e1]
      · exact nomatch e
    · rcases keyIs_shape hb with ⟨j, u, rfl, e⟩ | ⟨y, u, rfl, e⟩
      · exact nomatch e
      · injection e with e1 _; rw [e1]
  byValue := fun k v h => by
    rcases keyIs_shape h with ⟨i, t, rfl, rfl⟩ | ⟨x, t, rfl, rfl⟩ <;> rfl
  pyHash := fun hv h => by
    rcases keyIs_shape hv with ⟨i, t, rfl, rfl⟩ | ⟨x, t, rfl, rfl⟩
    · exact wpAny_pyHash_int h
    · exact wpAny_pyHash_str h
  eqBool := fun hu hv h => by
    rcases keyIs_shape hu with ⟨i, t, rfl, rfl⟩ | ⟨x, t, rfl, rfl⟩
    · rcases keyIs_shape hv with ⟨j, u, rfl, rfl⟩ | ⟨y, u, rfl, rfl⟩
      · rw [key_ll] at h; exact wpAny_eqBool_int h
      · rw [key_lr] at h; exact SeqAt.EqAt.int_str i t y u _ _ _ _ h
    · rcases keyIs_shape hv with ⟨j, u, rfl, rfl⟩ | ⟨y, u, rfl, rfl⟩
      · rw [key_rl] at h; exact SeqAt.EqAt.str_int x t j u _ _ _ _ h
      · rw [key_rr] at h; exact wpAny_eqBool_str h
  «strs» := fun k x t v h => by
    rcases keyIs_shape h with ⟨i, u, rfl, e⟩ | ⟨y, u, rfl, e⟩
    · exact nomatch e
    · injection e with e1 _
      subst e1
      cases v <;> rfl
theorem mixKind_int (prog : Program) (w : World) (i : Int) (t : Tok) : (mixKind prog w).is (.inl i) (.int i t) = true := keyIs_int i t
theorem mixKind_str (prog : Program) (w : World) (x : Str) (t : Tok) : (mixKind prog w).is (.inr x) (.str x t) = true := keyIs_str x t
end L2
namespace L2
open PySem PySem.Spec PyProof.Rows
inductive V where
  | non | bl (b : Bool) | int (i : Int) | str (x : Str) | byt (b : Array UInt8) | flt (b : UInt64) | ref (a : Addr) | ty (n : String)
  deriving DecidableEq
def RelV : V → Value → Prop
  | .non, u => u = Value.none
  | .bl b, u => u = Value.bool b
  | .int i, u => ∃ t, u = Value.int i t
  | .str x, u => ∃ t, u = Value.str x t
  | .byt b, u => ∃ t, u = Value.bytes b t
  | .flt b, u => ∃ t, u = Value.float b t
  | .ref a, u => u = Value.ref a
  | .ty n, u => u = Value.type n
abbrev Vals : List V → List Value → Prop := Paired RelV
theorem Vals.length {xs : List V} {us : List Value} (r : Vals xs us) : xs.length = us.length := Paired.length r
theorem Vals.get : ∀ {xs : List V} {us : List Value} {i : Nat} {x : V}, Vals xs us → xs[i]? = some x → ∃ u, us[i]? = some u ∧ RelV x u
  | _, _, _, _, .nil, e => by simp at e
  | _, _, 0, _, .cons r _, e => by simp at e; subst e; exact ⟨_, rfl, r⟩
  | _, _, i + 1, x, .cons _ t, e => by
    obtain ⟨u, h1, h2⟩ := Vals.get (i := i) (x := x) t (by simpa using e)
    exact ⟨u, by simpa using h1, h2⟩
theorem Vals.set {x : V} {u : Value} (r : RelV x u) : ∀ {xs : List V} {us : List Value} (i : Nat), Vals xs us → Vals (xs.set i x) (us.set i u)
  | _, _, _, .nil => .nil
  | _, _, 0, .cons _ t => .cons r t
  | _, _, i + 1, .cons q t => .cons q (Vals.set r i t)
theorem Vals.append : ∀ {xs ys : List V} {us ws : List Value}, Vals xs us → Vals ys ws → Vals (xs ++ ys) (us ++ ws)
  | _, _, _, _, .nil, s => s
  | _, _, _, _, .cons r t, s => .cons r (Vals.append t s)
theorem Vals.take : ∀ {xs : List V} {us : List Value} (n : Nat), Vals xs us → Vals (xs.take n) (us.take n)
  | _, _, 0, _ => .nil
  | _, _, _ + 1, .nil => .nil
  | _, _, n + 1, .cons r t => .cons r (Vals.take n t)
theorem Vals.drop : ∀ {xs : List V} {us : List Value} (n : Nat), Vals xs us → Vals (xs.drop n) (us.drop n)
  | _, _, 0, r => r
  | _, _, _ + 1, .nil => .nil
  | _, _, n + 1, .cons _ t => Vals.drop n t
def RelO : Option V → Option Value → Prop
  | some v, some u => RelV v u
  | none, none => True
  | _, _ => False
def KV {κ : Type} : List (κ × V) → List (κ × Value) → Prop := Paired fun (p : κ × V) (q : κ × Value) => p.1 = q.1 ∧ RelV p.2 q.2
def kV : Key → V
  | .inl i => .int i
  | .inr x => .str x
inductive HO where
  /-- a list -/
  | lst (xs : List V)
  /-- a tuple (never changes) -/
  | tup (xs : List V)
  /-- a dict whose keys are ints and texts; one whose keys are tuples of ints and texts (the empty one is both) -/
  | dK (kvs : List (Key × V)) | dT (kvs : List (List Key × V))
  /-- a set of ints: its members, its size -/
  | set (S : Int → Bool) (n : Nat)
  /-- an instance of the class at C, its dict at dx, its attributes -/
  | ins (C dx : Addr) (fs : List (Str × V))
  /-- the dict of the instance at x -/
  | own (x : Addr)
  /-- the dict of an exception -/
  | xd (fs : List (Str × V))
  /-- a bound method, f of x -/
  | met (f x : Addr)
  /-- a range object lo, lo + 1, .. below hi -/
  | rng (lo hi : Int)
  /-- a thing that is known to the object (the script; a dict while a loop walks it): read, never written while it is so -/
  | frz (o : Obj) (u : HO)
  /-- a code object's table -/
  | tbl (ps : Array Value)
  /-- any other thing, by what is true of its one object (a def of one's own: SetO a S n := HO.ext fun h => ..) -/
  | ext (φ : Heap → Prop)
abbrev Hp := Addr → Option HO
def upd (H : Hp) (a : Addr) (o : HO) : Hp := fun b => if b = a then some o else H b
theorem upd_same {H : Hp} {a : Addr} {o : HO} : upd H a o a = some o := by unfold upd; rw [if_pos rfl]
theorem upd_ne {H : Hp} {a b : Addr} {o : HO} (h : b ≠ a) : upd H a o b = H b := by unfold upd; rw [if_neg h]
theorem upd_upd {H : Hp} {a : Addr} {o u : HO} : upd (upd H a o) a u = upd H a u := by
  funext b; unfold upd; split <;> rfl
theorem ne_of {H : Hp} {a b : Addr} {o u : HO} (h : H a = some o) (h' : H b = some u) (d : o ≠ u) : a ≠ b := by
  intro e; subst e; rw [h] at h'; exact d (Option.some.inj h')
theorem ne_of_none {H : Hp} {a b : Addr} {o : HO} (h : H a = some o) (h' : H b = none) : a ≠ b := by
  intro e; subst e; rw [h] at h'; cases h'
section
variable (P : Program) (w : World)
def ObjOk (H : Hp) (h : Heap) (a : Addr) : HO → Prop
  | .lst xs => xs.length ≤ sizeLine ∧ ∃ (its : List Value) (n : Nat), Vals xs its ∧ h.get? a = some { cls := .type "list", data := .seq its.toArray n }
  | .tup xs => xs.length ≤ sizeLine ∧ ∃ its : List Value, Vals xs its ∧ IsTup h a its.toArray
  | .dK kvs => kvs.length ≤ sizeLine ∧ (a == sysModules) = false ∧ ∃ vs, KV kvs vs ∧ h.DictOf (mixKind P w) a vs
  | .dT kvs => kvs.length ≤ sizeLine ∧ (a == sysModules) = false ∧ ∃ xs : List (List Key × Addr × Value),
      Paired (fun (p : List Key × V) (q : List Key × Addr × Value) => p.1 = q.1 ∧ H q.2.1 = some (.tup (p.1.map kV)) ∧ RelV p.2 q.2.2) kvs xs ∧
      ∃ o es ep, h.get? a = some o ∧ o.ExactDict ∧ o.data = .dict es ep ∧ es.toList = xs.map (entryOfKey (tupleKind (mixKind P w))) ∧ (xs.map (·.1)).Nodup
  | .set S n => h.SetOf (intKind P w) a S n
  | .ins C dx fs => H dx = some (.own a) ∧ fs.length ≤ 1000 ∧ dx ≠ a ∧ h.get? a = some (PySem.W.instObj C dx) ∧
      ∃ mA, h.Ns1 dx mA ∧ (∀ f, RelO (fs.lookup f) (mA f)) ∧ PySem.Within mA (fs.map (·.1))
  | .own _ => ∃ o, h.get? a = some o
  | .xd fs => ∃ mA, h.Ns1 a mA ∧ ∀ f, RelO (fs.lookup f) (mA f)
  | .rng lo hi => ∃ t u v, h.get? a = some { cls := .type "range", data := .fields #[.int lo t, .int hi u, .int 1 v] }
  | .frz o u => h.get? a = some o ∧ ObjOk H h a u
  | .tbl ps => h.get? a = some { cls := .none, data := .fields ps }
  | .met f x => h.get? a = some (PySem.W.methodObj (.ref f) (.ref x))
  | .ext φ => φ h ∧ (∃ o, h.get? a = some o) ∧ ∀ h1 h2 : Heap, φ h1 → (∀ o, h1.get? a = some o → h2.get? a = some o) → φ h2
def HOk (H : Hp) (h : Heap) : Prop := ∀ a o, H a = some o → ObjOk P w H h a o
end
section
variable {P : Program} {w : World} {H H' : Hp} {h h' : Heap} {a : Addr} {o : HO}
theorem ObjOk.lt (x : ObjOk P w H h a o) : a < h.objs.size := by
  cases o with
  | lst xs => obtain ⟨_, _, _, _, e⟩ := x; exact Heap.lt_size e
  | tup xs => obtain ⟨_, _, _, p⟩ := x; exact p.lt
  | dK kvs => obtain ⟨_, _, _, _, o, _, _, e, _⟩ := x; exact Heap.lt_size e
  | dT kvs => obtain ⟨_, _, _, _, o, _, _, e, _⟩ := x; exact Heap.lt_size e
  | set S n => obtain ⟨o, _, _, _, e, _⟩ := x; exact Heap.lt_size e
  | ins C dx fs => obtain ⟨_, _, _, e, _⟩ := x; exact Heap.lt_size e
  | own y => obtain ⟨_, e⟩ := x; exact Heap.lt_size e
  | xd fs => obtain ⟨_, ⟨_, _, _, e, _⟩, _⟩ := x; exact Heap.lt_size e
  | rng lo hi => obtain ⟨_, _, _, e⟩ := x; exact Heap.lt_size e
  | frz ob u => obtain ⟨e, _⟩ := x; exact Heap.lt_size e
  | tbl ps => exact Heap.lt_size (show h.get? a = some _ from x)
  | met f y => exact Heap.lt_size (show h.get? a = some _ from x)
  | ext φ => obtain ⟨_, ⟨_, e⟩, _⟩ := x; exact Heap.lt_size e
theorem Paired.mapP {α β : Type} {F G : α → β → Prop} : ∀ {l₁ : List α} {l₂ : List β}, Paired F l₁ l₂ → (∀ a b, F a b → G a b) → Paired G l₁ l₂
  | _, _, .nil, _ => .nil
  | _, _, .cons r t, f => .cons (f _ _ r) (Paired.mapP t f)
theorem ObjOk.stay (x : ObjOk P w H h a o) (k : ∀ b u, (b = a ∨ H b = some (.own a)) → h.get? b = some u → h'.get? b = some u)
    (ho : ∀ b, H b = some (.own a) → H' b = some (.own a)) (ht : ∀ b xs, H b = some (.tup xs) → H' b = some (.tup xs)) : ObjOk P w H' h' a o := by
  induction o with
  | lst xs => obtain ⟨z, its, n, r, e⟩ := x; exact ⟨z, its, n, r, k _ _ (.inl rfl) e⟩
  | tup xs => obtain ⟨z, its, r, ob, e, c⟩ := x; exact ⟨z, its, r, ob, k _ _ (.inl rfl) e, c⟩
  | dK kvs => obtain ⟨z, y, vs, r, ob, es, ep, e, c⟩ := x; exact ⟨z, y, vs, r, ob, es, ep, k _ _ (.inl rfl) e, c⟩
  | dT kvs =>
    obtain ⟨z, y, xs, r, ob, es, ep, e, c⟩ := x
    exact ⟨z, y, xs, Paired.mapP r fun p q z => ⟨z.1, ht _ _ z.2.1, z.2.2⟩, ob, es, ep, k _ _ (.inl rfl) e, c⟩
  | set S n => obtain ⟨ob, es, ep, t, e, c⟩ := x; exact ⟨ob, es, ep, t, k _ _ (.inl rfl) e, c⟩
  | ins C dx fs =>
    obtain ⟨d, z, ne, e, mA, ⟨od, es, ep, e2, c⟩, r⟩ := x
    exact ⟨ho _ d, z, ne, k _ _ (.inl rfl) e, mA, ⟨od, es, ep, k _ _ (.inr d) e2, c⟩, r⟩
  | own y => obtain ⟨ob, e⟩ := x; exact ⟨ob, k _ _ (.inl rfl) e⟩
  | xd fs => obtain ⟨mA, ⟨od, es, ep, e, c⟩, r⟩ := x; exact ⟨mA, ⟨od, es, ep, k _ _ (.inl rfl) e, c⟩, r⟩
  | rng lo hi => obtain ⟨t, u, v, e⟩ := x; exact ⟨t, u, v, k _ _ (.inl rfl) e⟩
  | frz ob u ih => obtain ⟨e, q⟩ := x; exact ⟨k _ _ (.inl rfl) e, ih q⟩
  | tbl ps =>
    have e : h.get? a = some { cls := .none, data := .fields ps } := x
    show h'.get? a = some { cls := .none, data := .fields ps }
    exact k a _ (.inl rfl) e
  | met f y =>
    have e : h.get? a = some (PySem.W.methodObj (.ref f) (.ref y)) := x
    show h'.get? a = some (PySem.W.methodObj (.ref f) (.ref y))
    exact k a _ (.inl rfl) e
  | ext φ => obtain ⟨p, ⟨o, e⟩, st⟩ := x; exact ⟨st _ _ p fun o q => k _ _ (.inl rfl) q, ⟨o, k _ _ (.inl rfl) e⟩, st⟩
theorem HOk.lt (x : HOk P w H h) (e : H a = some o) : a < h.objs.size := (x a o e).lt
theorem HOk.fresh (x : HOk P w H h) (e : h.objs.size ≤ a) : H a = none := by
  cases q : H a with
  | none => rfl
  | some u => exact absurd (Nat.lt_of_lt_of_le (x.lt q) e) (Nat.lt_irrefl _)
theorem HOk.kept (x : HOk P w H h) (k : ∀ b u, h.get? b = some u → h'.get? b = some u) : HOk P w H h' := fun a o e =>
  (x a o e).stay (fun b u _ q => k b u q) (fun _ q => q) fun _ _ q => q
theorem HOk.laid (x : HOk P w H h) (k : ∀ b u, h.get? b = some u → h'.get? b = some u) (hp : h.objs.size ≤ a) (new : ObjOk P w (upd H a o) h' a o) : HOk P w (upd H a o) h' := fun b u e => by
  have hn := x.fresh hp
  by_cases hb : b = a
  · subst hb; rw [upd_same] at e; cases e; exact new
  · rw [upd_ne hb] at e
    exact (x b u e).stay (fun c v _ q => k c v q) (fun c q => by rw [upd_ne (ne_of_none q hn)]; exact q) fun c xs q => by rw [upd_ne (ne_of_none q hn)]; exact q
end
def Rd (H : Hp) (a : Addr) (u : HO) : Prop := H a = some u ∨ ∃ o, H a = some (.frz o u)
theorem Rd.ok {P : Program} {w : World} {H : Hp} {h : Heap} {a : Addr} {u : HO} (r : Rd H a u) (x : HOk P w H h) : ObjOk P w H h a u := by
  rcases r with r | ⟨o, r⟩
  · exact x a u r
  · obtain ⟨_, q⟩ := x a _ r
    exact q
def Mut : Option HO → Prop
  | some (.lst _) => True
  | some (.dK _) => True
  | some (.dT _) => True
  | some (.set _ _) => True
  | some (.ins _ _ _) => True
  | some (.ext _) => True
  | _ => False
section
variable {P : Program} {w : World} {H : Hp} {h h' : Heap} {x e : Addr} {o' : HO}
theorem HOk.write (ok : HOk P w H h) (mu : Mut (H x)) (he : e = x ∨ H e = some (.own x)) (k : ∀ b u, b ≠ e → h.get? b = some u → h'.get? b = some u) (heo : ∃ u, h'.get? e = some u)
    (new : ObjOk P w (upd H x o') h' x o') : HOk P w (upd H x o') h' := fun b u q => by
  have nown : ∀ c y, H c = some (.own y) → c ≠ x := fun c y r z => by subst z; rw [r] at mu; exact mu
  have ntup : ∀ c xs, H c = some (.tup xs) → c ≠ x := fun c xs r z => by subst z; rw [r] at mu; exact mu
  by_cases hb : b = x
  · subst hb; rw [upd_same] at q; cases q; exact new
  · rw [upd_ne hb] at q
    by_cases hbe : b = e
    · have q' : H b = some (.own x) := by
        rcases he with z | z
        · exact absurd (hbe.trans z) hb
        · rw [hbe]; exact z
      rw [q] at q'; cases q'
      obtain ⟨v, hv⟩ := heo
      exact ⟨v, by rw [hbe]; exact hv⟩
    · refine (ok b u q).stay (fun c v hc r => k c v ?_ r) (fun c r => by rw [upd_ne (nown c b r)]; exact r) fun c xs r => by rw [upd_ne (ntup c xs r)]; exact r
      rcases hc with rfl | hc
      · exact hbe
      · rintro rfl
        rcases he with z | z
        · exact nown c b hc z
        · rw [hc] at z; cases z; exact hb rfl
end
structure Un (fs ex : List Addr) (H H' : Hp) (h h' : Heap) : Prop where
  keep : ∀ b o, h.get? b = some o → H b = none → b ∉ fs → b ∉ ex → h'.get? b = some o
  slot : ∀ b o, h.get? b = some o → H b = none → b ∈ fs → b ∉ ex → ∃ sl, h'.get? b = some { o with slots := sl }
  free : ∀ b o, h.get? b = some o → H b = none → b ∉ ex → H' b = none
  there : ∀ b o, h.get? b = some o → b ∉ ex → ∃ o', h'.get? b = some o'
  tups : ∀ b xs, H b = some (.tup xs) → H' b = some (.tup xs)
  frzs : ∀ b o u, H b = some (.frz o u) → H' b = some (.frz o u)
  tbls : ∀ b ps, H b = some (.tbl ps) → ∃ more, H' b = some (.tbl (ps ++ more))
section
variable {fs fs' ex ex' : List Addr} {H H1 H2 : Hp} {h h1 h2 h' : Heap} {a x e : Addr} {o : HO}
theorem Un.any (u : Un fs ex H H1 h h1) {b : Addr} {ob : Obj} (q : h.get? b = some ob) (n : H b = none) (hx : b ∉ ex) : ∃ sl, h1.get? b = some { ob with slots := sl } := by
  by_cases hb : b ∈ fs
  · exact u.slot b ob q n hb hx
  · exact ⟨ob.slots, u.keep b ob q n hb hx⟩
theorem Un.trans (a : Un fs ex H H1 h h1) (b : Un fs ex H1 H2 h1 h2) : Un fs ex H H2 h h2 where
  keep := fun c ob q n hc hx => b.keep c ob (a.keep c ob q n hc hx) (a.free c ob q n hx) hc hx
  slot := fun c ob q n hc hx => by
    obtain ⟨sl, e1⟩ := a.slot c ob q n hc hx
    obtain ⟨sl', e2⟩ := b.slot c _ e1 (a.free c ob q n hx) hc hx
    exact ⟨sl', e2⟩
  free := fun c ob q n hx => by
    obtain ⟨o', e1⟩ := a.there c ob q hx
    exact b.free c o' e1 (a.free c ob q n hx) hx
  there := fun c ob q hx => by
    obtain ⟨o', e1⟩ := a.there c ob q hx
    exact b.there c o' e1 hx
  tups := fun c xs q => b.tups c xs (a.tups c xs q)
  frzs := fun c ob xs q => b.frzs c ob xs (a.frzs c ob xs q)
  tbls := fun c ps q => by
    obtain ⟨m1, e1⟩ := a.tbls c ps q
    obtain ⟨m2, e2⟩ := b.tbls c _ e1
    exact ⟨m1 ++ m2, by rw [e2, Array.append_assoc]⟩
theorem Un.kept (k : ∀ b u, h.get? b = some u → h'.get? b = some u) : Un fs ex H H h h' :=
  ⟨fun b ob q _ _ _ => k b ob q, fun b ob q _ _ _ => ⟨ob.slots, k b ob q⟩, fun _ _ _ n _ => n, fun b ob q _ => ⟨ob, k b ob q⟩, fun _ _ q => q, fun _ _ _ q => q, fun _ ps q => ⟨#[], by rw [q]; simp⟩⟩
theorem Un.refl : Un fs ex H H h h := Un.kept fun _ _ q => q
theorem Un.laid (k : ∀ b u, h.get? b = some u → h'.get? b = some u) (hp : h.objs.size ≤ a) (hn : H a = none) : Un fs ex H (upd H a o) h h' where
  keep := fun b u q _ _ _ => k b u q
  slot := fun b u q _ _ _ => ⟨u.slots, k b u q⟩
  free := fun b u q n _ => by rw [upd_ne (Nat.ne_of_lt (Nat.lt_of_lt_of_le (Heap.lt_size q) hp))]; exact n
  there := fun b u q _ => ⟨u, k b u q⟩
  tups := fun b xs q => by rw [upd_ne (ne_of_none q hn)]; exact q
  frzs := fun b u xs q => by rw [upd_ne (ne_of_none q hn)]; exact q
  tbls := fun b ps q => ⟨#[], by rw [upd_ne (ne_of_none q hn), q]; simp⟩
theorem Un.write (mu : Mut (H x)) (he : e = x ∨ H e = some (.own x)) (k : ∀ b u, b ≠ e → h.get? b = some u → h'.get? b = some u) (heo : ∃ u, h'.get? e = some u) : Un fs ex H (upd H x o) h h' := by
  have hx : ∀ b, H b = none → b ≠ x := fun b n z => by subst z; rw [n] at mu; exact mu
  have hb : ∀ b, H b = none → b ≠ e := fun b n z => by
    subst z
    rcases he with r | r
    · exact hx b n r
    · rw [n] at r; cases r
  have hm : ∀ b u, H b = some u → ¬ Mut (some u) → b ≠ x := fun b u q nm z => by subst z; rw [q] at mu; exact nm mu
  refine ⟨fun b u q n _ _ => k b u (hb b n) q, fun b u q n _ _ => ⟨u.slots, k b u (hb b n) q⟩, fun b u q n _ => by rw [upd_ne (hx b n)]; exact n, fun b u q _ => ?_,
    fun b xs q => by rw [upd_ne (hm b _ q fun z => z)]; exact q, fun b u xs q => by rw [upd_ne (hm b _ q fun z => z)]; exact q, fun b ps q => ⟨#[], by rw [upd_ne (hm b _ q fun z => z), q]; simp⟩⟩
  by_cases hbe : b = e
  · subst hbe; exact heo
  · exact ⟨u, k b u hbe q⟩
end
def trk (h : Heap) (H : Hp) : List Addr := (List.range h.objs.size).filter fun a => (H a).isSome
def hidT (h : Heap) (H : Hp) : Heap := PySem.W.hideAll h (trk h H)
theorem hidT_size (h : Heap) (H : Hp) : (hidT h H).objs.size = h.objs.size := PySem.W.hideAll_size _ _
theorem hidT_get {h : Heap} {H : Hp} {b : Addr} {o : Obj} (e : h.get? b = some o) (n : H b = none) : (hidT h H).get? b = some o :=
  PySem.W.hideAll_get _ e fun hm => by
    have q : (H b).isSome = true := (List.mem_filter.mp hm).2
    rw [n] at q; simp at q
theorem of_hidT {h : Heap} {H : Hp} {b : Addr} {o : Obj} (e : (hidT h H).get? b = some o) : h.get? b = some o ∧ H b = none := by
  have e' : h.get? b = some o := PySem.W.of_hideAll (trk h H) e
  refine ⟨e', ?_⟩
  cases q : H b with
  | none => rfl
  | some x =>
    have hm : b ∈ trk h H := List.mem_filter.mpr ⟨List.mem_range.mpr (Heap.lt_size e'), by simp [q]⟩
    have z : (hidT h H).get? b = none := PySem.W.hideAll_none (trk h H) hm
    rw [z] at e; cases e
def allNews (g h : Heap) (L : Addr) : List (Addr × Obj) := (List.range h.objs.size).filterMap fun a => if a = L ∨ (g.get? a).isSome = true then none else (h.get? a).map fun o => (a, o)
def rest (g h : Heap) (L d : Addr) : List (Addr × Obj) := (allNews g h L).filter fun p => decide (p.1 ≠ d)
end L2
namespace L2
open PySem PySem.Spec PyProof.Rows
structure Mod (K : PySem.W.Frag) (mg : Str → Option Value) (base : Heap) : Prop where
  kin : K.In base
  glob : base.Ns mainGlobals mg
  blt : ∃ mb, base.Ns builtinsNs mb ∧ ∀ x : Str, x ≠ "__name__" → mb x = bootBuiltins x
  nolimit : base.NoLimit
structure Cx where
  prog : Program
  w : World
  K : PySem.W.Frag
  mg : Str → Option Value
  base : Heap
  A : Around
  N : List Str
  s₀ : Shared
  H₀ : Hp
  env : Env
  outer : List Env
  stack : List Env
  ex : List Addr
  fn : Str → Bool
  calm : Bool
  pn : List (Addr × Obj)
  xe : Value → Shared → Prop
def frs (l : List Env) : List Addr := l.filterMap (·.frame)
abbrev Cx.fs (X : Cx) : List Addr := frs X.outer
def Vis (sc : Scope) (x : Str) : Prop := sc.names.lookup x = some .local ∨ sc.names.lookup x = some .cell ∨ sc.names.lookup x = some .free
def Loc (sc : Scope) (x : Str) : Prop := sc.names.lookup x = some .local ∨ sc.names.lookup x = some .cell
def Look (env : Env) (h : Heap) (m : Str → Option Value) (x : Str) (u : Value) : Prop :=
  (env.kindOf x = some .local ∧ m x = some u) ∨ ((env.kindOf x = some .cell ∨ env.kindOf x = some .free) ∧ ∃ c, env.cells.lookup x = some c ∧ h.IsCell c (some u))
structure Cx.Ok (X : Cx) : Prop where
  mod : Mod X.K X.mg X.base
  kind : X.env.scope.kind = .function
  glob : X.env.globals = mainGlobals
  blt : X.env.builtins = builtinsNs
  above : X.s₀.heap.objs.size ≤ X.env.locals
  inj : ∀ x y c, X.env.cells.lookup x = some c → X.env.cells.lookup y = some c → x = y
  has : ∀ x, (X.env.kindOf x = some .cell ∨ X.env.kindOf x = some .free) → ∃ c, X.env.cells.lookup x = some c
  cab : ∀ x c, X.fn x = true → X.env.cells.lookup x = some c → X.s₀.heap.objs.size ≤ c
  hd : X.calm = true → X.A.handled = none
  frames : X.A.frames = some X.stack
  stk : X.stack = X.outer ∨ (X.stack = X.env :: X.outer ∧ X.env.frame = some X.env.locals)
  exf : ∀ b ∈ X.ex, b ≠ X.env.locals ∧ ∀ x c, X.env.cells.lookup x = some c → c ≠ b
  bs : ∀ b o, X.base.get? b = some o → X.s₀.heap.get? b = some o ∧ X.H₀ b = none
  bsz : X.base.objs.size ≤ X.s₀.heap.objs.size
  noex : ∀ b o, X.base.get? b = some o → b ∉ X.ex
  exfs : ∀ b ∈ X.ex, b ∉ X.fs
  funs : X.s₀.heap.FunFrames X.base X.outer
  frf : ∀ b ∈ X.fs, X.H₀ b = none
structure Inv (X : Cx) (pins : List (Addr × Obj)) (σ : List (Option V)) (H : Hp) (s : Shared) : Prop where
  ok : X.Ok
  os : s.os = X.s₀.os
  bare : AllBare s.gens
  base : Un X.fs X.ex X.H₀ H X.s₀.heap s.heap
  loc : ∃ m, s.heap.Ns X.env.locals m ∧ ∀ (i : Nat) (x : Str) (v : V), X.N[i]? = some x → σ[i]? = some (some v) → Vis X.env.scope x → ∃ u, RelV v u ∧ Look X.env s.heap m x u
  cell : ∀ x c, X.env.cells.lookup x = some c → ∃ v, s.heap.IsCell c v
  free : H X.env.locals = none
  freeC : ∀ x c, X.env.cells.lookup x = some c → H c = none
  pin : ∀ p ∈ X.pn ++ pins, s.heap.get? p.1 = some p.2 ∧ H p.1 = none ∧ p.1 ≠ X.env.locals ∧ p.1 ∉ X.fs ∧ ∀ v, p.2.data ≠ .cell v
  hok : HOk X.prog X.w H s.heap
  len : σ.length = X.N.length
section
variable {X : Cx} {pins : List (Addr × Obj)} {σ : List (Option V)} {H H' : Hp} {s : Shared} {h' : Heap}
theorem Cx.Ok.nofr (ok : X.Ok) {b : Addr} {o : Obj} (e : X.base.get? b = some o) : b ∉ X.fs := fun hb => by
  have := (ok.funs.mem hb).1
  rw [e] at this; cases this
theorem Inv.bs (I : Inv X pins σ H s) : ∀ b o, X.base.get? b = some o → s.heap.get? b = some o ∧ H b = none := fun b o e =>
  ⟨I.base.keep b o (I.ok.bs b o e).1 (I.ok.bs b o e).2 (I.ok.nofr e) (I.ok.noex b o e), I.base.free b o (I.ok.bs b o e).1 (I.ok.bs b o e).2 (I.ok.noex b o e)⟩
theorem Inv.bk (I : Inv X pins σ H s) : ∀ b o, X.base.get? b = some o → s.heap.get? b = some o := fun b o e => (I.bs b o e).1
theorem Inv.mod (I : Inv X pins σ H s) : Mod X.K X.mg X.base := I.ok.mod
theorem Inv.kIn (I : Inv X pins σ H s) : X.K.In s.heap := I.ok.mod.kin.keeps I.bk
theorem Inv.lt (I : Inv X pins σ H s) : X.env.locals < s.heap.objs.size := let ⟨_, hn, _⟩ := I.loc; hn.lt
theorem Inv.sz (I : Inv X pins σ H s) : X.s₀.heap.objs.size ≤ s.heap.objs.size := Nat.le_trans I.ok.above (Nat.le_of_lt I.lt)
theorem Inv.nofs (I : Inv X pins σ H s) {a : Addr} (h : s.heap.objs.size ≤ a) : a ∉ X.fs := fun hb => by
  obtain ⟨_, o, ho, _⟩ := I.ok.funs.mem hb
  exact absurd (Nat.lt_of_lt_of_le (Heap.lt_size ho) (Nat.le_trans I.sz h)) (Nat.lt_irrefl _)
theorem Inv.cne (I : Inv X pins σ H s) : ∀ x c, X.env.cells.lookup x = some c → c ≠ X.env.locals := fun x c e z => by
  obtain ⟨v, o, ho, hd⟩ := I.cell x c e
  obtain ⟨m, ⟨o', es, ep, ho', hd', _⟩, _⟩ := I.loc
  rw [z, ho'] at ho; cases ho; rw [hd'] at hd; cases hd
theorem Inv.funs (I : Inv X pins σ H s) : s.heap.FunFrames X.base X.outer := by
  have all : ∀ (l : List Env), (∀ b ∈ frs l, b ∈ X.fs) → X.s₀.heap.FunFrames X.base l → s.heap.FunFrames X.base l := by
    intro l
    induction l with
    | nil => intro _ _; trivial
    | cons env r ih =>
      intro hs hl
      obtain ⟨hk, ⟨L, o, hf, hn, ho, hd⟩, hr⟩ := hl
      have hL : L ∈ X.fs := hs L (by unfold frs; rw [List.filterMap_cons, hf]; exact List.mem_cons_self)
      obtain ⟨sl, e⟩ := I.base.slot L o ho (I.ok.frf L hL) hL fun z => I.ok.exfs L z hL
      exact ⟨hk, ⟨L, _, hf, hn, e, hd⟩, ih (fun b hb => hs b (by unfold frs; rw [List.filterMap_cons, hf]; exact List.mem_cons_of_mem _ hb)) hr⟩
  exact all X.outer (fun _ hb => hb) I.ok.funs
theorem Inv.stack (I : Inv X pins σ H s) : s.heap.FunFrames X.base X.stack := by
  rcases I.ok.stk with e | ⟨e, hf⟩
  · rw [e]; exact I.funs
  · rw [e]
    obtain ⟨m, hn, _⟩ := I.loc
    refine .cons (by rw [I.ok.kind]; decide) hf hn ?_ I.funs
    exact Heap.get?_none_of_le (Nat.le_trans I.ok.bsz I.ok.above)
theorem Inv.stkSub (I : Inv X pins σ H s) : ∀ b ∈ frs X.stack, b ∈ X.env.locals :: X.fs := fun b hb => by
  rcases I.ok.stk with e | ⟨e, hf⟩
  · rw [e] at hb; exact List.mem_cons_of_mem _ hb
  · rw [e] at hb
    unfold frs at hb
    rw [List.filterMap_cons, hf] at hb
    exact hb
theorem Inv.stkFree (I : Inv X pins σ H s) : ∀ b ∈ frs X.stack, H b = none := fun b hb => by
  rcases List.mem_cons.mp (I.stkSub b hb) with e | hb
  · rw [e]; exact I.free
  · obtain ⟨_, o, ho, _⟩ := I.ok.funs.mem hb
    exact I.base.free b o ho (I.ok.frf b hb) fun z => I.ok.exfs b z hb
theorem Inv.step {g' : Array GenState} {t' : Nat} {d' : Drawn} {ch : List Addr} (I : Inv X pins σ H s)
    (hch : ∀ b ∈ ch, (b ∈ X.ex ∨ X.s₀.heap.objs.size ≤ b) ∧ b ≠ X.env.locals ∧ (∀ x c, X.env.cells.lookup x = some c → c ≠ b) ∧ ∀ p ∈ X.pn ++ pins, p.1 ≠ b)
    (keep : ∀ b o, b ≠ X.env.locals → b ∉ X.fs → b ∉ ch → s.heap.get? b = some o → H b = none → h'.get? b = some o)
    (slot : ∀ b o, b ≠ X.env.locals → b ∈ X.fs → b ∉ ch → s.heap.get? b = some o → H b = none → ∃ sl, h'.get? b = some { o with slots := sl }) (free : ∀ b o, b ∉ ch → s.heap.get? b = some o → H b = none → H' b = none)
    (there : ∀ b o, b ∉ ch → s.heap.get? b = some o → ∃ o', h'.get? b = some o')
    (tups : ∀ b xs, H b = some (.tup xs) → H' b = some (.tup xs)) (frzs : ∀ b o u, H b = some (.frz o u) → H' b = some (.frz o u)) (tbls : ∀ b ps, H b = some (.tbl ps) → ∃ more, H' b = some (.tbl (ps ++ more)))
    (ns : ∀ m, s.heap.Ns X.env.locals m → h'.Ns X.env.locals m) (hok : HOk X.prog X.w H' h') (hg : AllBare g') :
    Inv X pins σ H' { s with heap := h', gens := g', drawn := d', toks := t' } := by
  have neL : ∀ b o, X.s₀.heap.get? b = some o → b ≠ X.env.locals := fun b o e => Nat.ne_of_lt (Nat.lt_of_lt_of_le (Heap.lt_size e) I.ok.above)
  have neC : ∀ b o, X.s₀.heap.get? b = some o → b ∉ X.ex → b ∉ ch := fun b o e hx hb => by
    rcases (hch b hb).1 with z | z
    · exact hx z
    · exact absurd (Nat.lt_of_lt_of_le (Heap.lt_size e) z) (Nat.lt_irrefl _)
  have cellK : ∀ x c, X.env.cells.lookup x = some c → ∀ v, s.heap.IsCell c v → h'.IsCell c v := fun x c e v ⟨o, ho, hd⟩ => by
    have nch : c ∉ ch := fun z => (hch c z).2.2.1 x c e rfl
    by_cases hc : c ∈ X.fs
    · obtain ⟨sl, q⟩ := slot c o (I.cne x c e) hc nch ho (I.freeC x c e)
      exact ⟨_, q, hd⟩
    · exact ⟨o, keep c o (I.cne x c e) hc nch ho (I.freeC x c e), hd⟩
  refine ⟨I.ok, I.os, hg, ⟨fun b o e n hb hx => ?_, fun b o e n hb hx => ?_, fun b o e n hx => ?_, fun b o e hx => ?_, fun b xs e => tups b xs (I.base.tups b xs e), fun b o xs e => frzs b o xs (I.base.frzs b o xs e), fun b ps e => ?_⟩, ?_, fun x c e => ?_, ?_, fun x c e => ?_, fun p hp => ?_, hok, I.len⟩
  · exact keep b o (neL b o e) hb (neC b o e hx) (I.base.keep b o e n hb hx) (I.base.free b o e n hx)
  · obtain ⟨sl, e1⟩ := I.base.slot b o e n hb hx
    obtain ⟨sl', e2⟩ := slot b _ (neL b o e) hb (neC b o e hx) e1 (I.base.free b o e n hx)
    exact ⟨sl', e2⟩
  · obtain ⟨o', e1⟩ := I.base.there b o e hx
    exact free b o' (neC b o e hx) e1 (I.base.free b o e n hx)
  · obtain ⟨o', e1⟩ := I.base.there b o e hx
    exact there b o' (neC b o e hx) e1
  · obtain ⟨m1, e1⟩ := I.base.tbls b ps e
    obtain ⟨m2, e2⟩ := tbls b _ e1
    exact ⟨m1 ++ m2, by rw [e2, Array.append_assoc]⟩
  · obtain ⟨m, hn, hl⟩ := I.loc
    refine ⟨m, ns m hn, fun i x v e1 e2 e3 => ?_⟩
    obtain ⟨u, r, l⟩ := hl i x v e1 e2 e3
    refine ⟨u, r, ?_⟩
    rcases l with l | ⟨k, c, e, z⟩
    · exact .inl l
    · exact .inr ⟨k, c, e, cellK x c e _ z⟩
  · obtain ⟨v, z⟩ := I.cell x c e
    exact ⟨v, cellK x c e v z⟩
  · obtain ⟨m, ⟨o, _, _, ho, _⟩, _⟩ := I.loc
    exact free _ o (fun z => (hch _ z).2.1 rfl) ho I.free
  · obtain ⟨v, o, ho, hd⟩ := I.cell x c e
    exact free c o (fun z => (hch c z).2.2.1 x c e rfl) ho (I.freeC x c e)
  · obtain ⟨e, n, ne, nf, d⟩ := I.pin p hp
    have nch : p.1 ∉ ch := fun z => (hch p.1 z).2.2.2 p hp rfl
    exact ⟨keep p.1 p.2 ne nf nch e n, free p.1 p.2 nch e n, ne, nf, d⟩
theorem Inv.un {t' : Nat} (I : Inv X pins σ H s) (u : Un X.fs [] H H' s.heap h') (hok : HOk X.prog X.w H' h') : Inv X pins σ H' { s with heap := h', toks := t' } := by
  obtain ⟨m, ⟨o, es, ep, ho, r⟩, _⟩ := id I.loc
  obtain ⟨sl, hL⟩ := u.any ho I.free (by simp)
  exact I.step (g' := s.gens) (d' := s.drawn) (ch := []) (fun _ z => nomatch z) (fun b o _ hb _ e n => u.keep b o e n hb (by simp)) (fun b o _ hb _ e n => u.slot b o e n hb (by simp)) (fun b o _ e n => u.free b o e n (by simp)) (fun b o _ e => u.there b o e (by simp)) u.tups u.frzs u.tbls (fun m' hm => by
    obtain ⟨o', es', ep', ho', r'⟩ := hm
    rw [ho] at ho'; cases ho'
    exact ⟨_, es', ep', hL, r'⟩) hok I.bare
theorem Inv.call {g' : Array GenState} {t' : Nat} {d' : Drawn} {ch : List Addr} (I : Inv X pins σ H s) (u : Un (frs X.stack) ch H H' s.heap h') (hok : HOk X.prog X.w H' h') (hg : AllBare g')
    (hch : ∀ b ∈ ch, (b ∈ X.ex ∨ X.s₀.heap.objs.size ≤ b) ∧ b ≠ X.env.locals ∧ (∀ x c, X.env.cells.lookup x = some c → c ≠ b) ∧ ∀ p ∈ X.pn ++ pins, p.1 ≠ b) :
    Inv X pins σ H' { s with heap := h', gens := g', drawn := d', toks := t' } := by
  obtain ⟨m, ⟨o, es, ep, ho, r⟩, _⟩ := id I.loc
  obtain ⟨sl, hL⟩ := u.any ho I.free fun z => (hch _ z).2.1 rfl
  exact I.step (ch := ch) hch (fun b o hL hb hc e n => u.keep b o e n (fun z => (List.mem_cons.mp (I.stkSub b z)).elim hL hb) hc) (fun b o _ _ hc e n => u.any e n hc) (fun b o hc e n => u.free b o e n hc) (fun b o hc e => u.there b o e hc) u.tups u.frzs u.tbls (fun m' hm => by
    obtain ⟨o', es', ep', ho', r'⟩ := hm
    rw [ho] at ho'; cases ho'
    exact ⟨_, es', ep', hL, r'⟩) hok hg
theorem Inv.turned {t' : Nat} {it : Addr} (I : Inv X pins σ H s) (k : ∀ b o, b ≠ it → s.heap.get? b = some o → h'.get? b = some o) (hn : H it = none) (hL : it ≠ X.env.locals)
    (h1 : it ∈ X.ex ∨ X.s₀.heap.objs.size ≤ it) (h2 : ∀ x c, X.env.cells.lookup x = some c → c ≠ it) (h3 : ∀ p ∈ X.pn ++ pins, p.1 ≠ it) : Inv X pins σ H { s with heap := h', toks := t' } := by
  have nit : ∀ b u, H b = some u → b ≠ it := fun b u e z => by rw [z, hn] at e; cases e
  refine I.step (g' := s.gens) (d' := s.drawn) (ch := [it]) (fun b hb => ?_) (fun b o _ _ hc e _ => k b o (fun z => hc (by simp [z])) e) (fun b o _ _ hc e _ => ⟨o.slots, k b o (fun z => hc (by simp [z])) e⟩) (fun _ _ _ _ n => n)
    (fun b o hc e => ⟨o, k b o (fun z => hc (by simp [z])) e⟩) (fun _ _ e => e) (fun _ _ _ e => e) (fun b ps e => ⟨#[], by rw [e]; simp⟩) (fun m hm => ?_) (fun b u e => ?_) I.bare
  · have e : b = it := by simpa using hb
    subst e
    exact ⟨h1, hL, h2, h3⟩
  · obtain ⟨o, es, ep, ho, r⟩ := hm
    exact ⟨o, es, ep, k _ o (Ne.symm hL) ho, r⟩
  · refine (I.hok b u e).stay (fun c v hc q => k c v ?_ q) (fun _ q => q) fun _ _ q => q
    rcases hc with z | z
    · rw [z]; exact nit b u e
    · exact nit c _ z
theorem Inv.tok (I : Inv X pins σ H s) (t : Nat) : Inv X pins σ H { s with toks := t } := I.un (h' := s.heap) (t' := t) Un.refl I.hok
theorem Inv.kept {t' : Nat} (I : Inv X pins σ H s) (k : ∀ b u, s.heap.get? b = some u → h'.get? b = some u) : Inv X pins σ H { s with heap := h', toks := t' } := I.un (Un.kept k) (I.hok.kept k)
theorem Inv.laid {a : Addr} {o : HO} {t' : Nat} (I : Inv X pins σ H s) (k : ∀ b u, s.heap.get? b = some u → h'.get? b = some u) (hp : s.heap.objs.size ≤ a) (new : ObjOk X.prog X.w (upd H a o) h' a o) :
    Inv X pins σ (upd H a o) { s with heap := h', toks := t' } := I.un (Un.laid k hp (I.hok.fresh hp)) (I.hok.laid k hp new)
theorem Inv.write {x e : Addr} {o : HO} {t' : Nat} (I : Inv X pins σ H s) (mu : Mut (H x)) (he : e = x ∨ H e = some (.own x)) (k : ∀ b u, b ≠ e → s.heap.get? b = some u → h'.get? b = some u) (heo : ∃ u, h'.get? e = some u)
    (new : ObjOk X.prog X.w (upd H x o) h' x o) : Inv X pins σ (upd H x o) { s with heap := h', toks := t' } := I.un (Un.write mu he k heo) (I.hok.write mu he k heo new)
theorem Inv.pins_of {pins' : List (Addr × Obj)} (I : Inv X pins σ H s) (h : ∀ p ∈ pins', s.heap.get? p.1 = some p.2 ∧ H p.1 = none ∧ p.1 ≠ X.env.locals ∧ p.1 ∉ X.fs ∧ ∀ v, p.2.data ≠ .cell v) : Inv X pins' σ H s :=
  ⟨I.ok, I.os, I.bare, I.base, I.loc, I.cell, I.free, I.freeC, fun p hp => (List.mem_append.mp hp).elim (fun z => I.pin p (List.mem_append_left _ z)) (h p), I.hok, I.len⟩
theorem nodup_ix {N : List Str} (hN : N.Nodup) {i j : Nat} {x : Str} (a : N[i]? = some x) (b : N[j]? = some x) : i = j := by
  obtain ⟨h1, e1⟩ := List.getElem?_eq_some_iff.mp a
  obtain ⟨h2, e2⟩ := List.getElem?_eq_some_iff.mp b
  exact (List.getElem_inj hN).mp (e1.trans e2.symm)
theorem store_ok2 {M : Model} {A : Around} {E : Value → Shared → Prop} {i : Nat} {x : Str} {v : V} {u : Value} {Q : Unit → Shared → Prop} (I : Inv X pins σ H s) (hN : X.N.Nodup) (hi : X.N[i]? = some x) (hx : Loc X.env.scope x) (r : RelV v u)
    (h : ∀ s', Inv X pins (σ.set i (some v)) H s' → (∃ a, Heap.SameBut a s.heap s'.heap ∧ (a = X.env.locals ∨ X.env.cells.lookup x = some a)) → Q () s') (hf : X.fn x = true ∨ X.env.scope.names.lookup x = some .local := by first | exact .inl rfl | exact .inr rfl | assumption) : wpAny M A (storeName X.env x u) Q E s := by
  obtain ⟨m, hn, hl⟩ := id I.loc
  have hcls : (X.env.scope.kind == .class || (X.env.scope.kind == .module && X.env.locals != X.env.globals)) = false := by rw [I.ok.kind]; rfl
  have hiσ : i < σ.length := by rw [I.len]; exact (List.getElem?_eq_some_iff.mp hi).1
  have cne := I.cne
  have tracked : ∀ {a : Addr} {h' : Heap}, (∃ o, s.heap.get? a = some o ∧ H a = none) → Heap.SameBut a s.heap h' → HOk X.prog X.w H h' := fun {a h'} ha hs b ob e => by
    obtain ⟨_, _, hfree⟩ := ha
    refine (I.hok b ob e).stay (fun c w' hc q => (hs.2 c ?_).trans q) (fun _ q => q) fun _ _ q => q
    rintro rfl
    rcases hc with rfl | hc
    · rw [hfree] at e; cases e
    · rw [hfree] at hc; cases hc
  rcases hx with hk | hk
  · refine wpAny_storeName_local hk hn (fun h' hn' hs => ?_) hcls
    obtain ⟨oL, _, _, hoL, _⟩ := id hn
    refine h _ ⟨I.ok, I.os, I.bare, ⟨fun b o e n hb hx => ?_, fun b o e n hb hx => ?_, I.base.free, fun b o e hx => ?_, I.base.tups, I.base.frzs, I.base.tbls⟩, ⟨_, hn', fun j y v' e1 e2 e3 => ?_⟩, fun y c e => ?_, I.free, I.freeC, fun p hp => ?_, tracked ⟨oL, hoL, I.free⟩ hs, by simpa using I.len⟩ ⟨_, hs, .inl rfl⟩
    · exact (hs.2 b (Nat.ne_of_lt (Nat.lt_of_lt_of_le (Heap.lt_size e) I.ok.above))).trans (I.base.keep b o e n hb hx)
    · obtain ⟨sl, e1⟩ := I.base.slot b o e n hb hx
      exact ⟨sl, (hs.2 b (Nat.ne_of_lt (Nat.lt_of_lt_of_le (Heap.lt_size e) I.ok.above))).trans e1⟩
    · obtain ⟨o', e1⟩ := I.base.there b o e hx
      exact ⟨o', (hs.2 b (Nat.ne_of_lt (Nat.lt_of_lt_of_le (Heap.lt_size e) I.ok.above))).trans e1⟩
    · by_cases hj : j = i
      · subst hj
        rw [hi] at e1; cases e1
        rw [List.getElem?_set_self hiσ] at e2
        cases e2
        exact ⟨u, r, .inl ⟨hk, by simp⟩⟩
      · rw [List.getElem?_set_ne (Ne.symm hj)] at e2
        obtain ⟨u', r', q⟩ := hl j y v' e1 e2 e3
        refine ⟨u', r', ?_⟩
        rcases q with ⟨k, e⟩ | ⟨k, c, e, z⟩
        · refine .inl ⟨k, ?_⟩
          have : y ≠ x := fun e => hj (nodup_ix hN e1 (e ▸ hi))
          simp [this, e]
        · exact .inr ⟨k, c, e, z.sameBut hs (cne y c e)⟩
    · obtain ⟨w', z⟩ := I.cell y c e
      exact ⟨w', z.sameBut hs (cne y c e)⟩
    · obtain ⟨e, n, ne, nf, d⟩ := I.pin p hp
      exact ⟨(hs.2 p.1 ne).trans e, n, ne, nf, d⟩
  · have hfn : X.fn x = true := by
      rcases hf with z | z
      · exact z
      · rw [z] at hk; cases hk
    obtain ⟨c, hc⟩ := I.ok.has x (.inl hk)
    obtain ⟨w', z⟩ := I.cell x c hc
    refine wpAny_storeName_cell I.ok.kind hk hc z (fun h' hc' hs => ?_)
    obtain ⟨oc, hoc, hocd⟩ := id z
    refine h { s with heap := h' } ⟨I.ok, I.os, I.bare, ⟨fun b o e n hb hx => ?_, fun b o e n hb hx => ?_, I.base.free, fun b o e hx => ?_, I.base.tups, I.base.frzs, I.base.tbls⟩, ⟨m, hn.sameBut hs (Ne.symm (cne x c hc)), fun j y v' e1 e2 e3 => ?_⟩, fun y c' e => ?_, I.free, I.freeC, fun p hp => ?_, tracked ⟨oc, hoc, I.freeC x c hc⟩ hs, by simpa using I.len⟩ ⟨c, hs, .inr hc⟩
    · exact (hs.2 b (Nat.ne_of_lt (Nat.lt_of_lt_of_le (Heap.lt_size e) (I.ok.cab x c hfn hc)))).trans (I.base.keep b o e n hb hx)
    · obtain ⟨sl, e1⟩ := I.base.slot b o e n hb hx
      exact ⟨sl, (hs.2 b (Nat.ne_of_lt (Nat.lt_of_lt_of_le (Heap.lt_size e) (I.ok.cab x c hfn hc)))).trans e1⟩
    · obtain ⟨o', e1⟩ := I.base.there b o e hx
      exact ⟨o', (hs.2 b (Nat.ne_of_lt (Nat.lt_of_lt_of_le (Heap.lt_size e) (I.ok.cab x c hfn hc)))).trans e1⟩
    · by_cases hj : j = i
      · subst hj
        rw [hi] at e1; cases e1
        rw [List.getElem?_set_self hiσ] at e2
        cases e2
        exact ⟨u, r, .inr ⟨.inl hk, c, hc, hc'⟩⟩
      · rw [List.getElem?_set_ne (Ne.symm hj)] at e2
        obtain ⟨u', r', q⟩ := hl j y v' e1 e2 e3
        refine ⟨u', r', ?_⟩
        rcases q with q | ⟨k, c', e, z'⟩
        · exact .inl q
        · refine .inr ⟨k, c', e, z'.sameBut hs ?_⟩
          rintro rfl
          exact hj (nodup_ix hN e1 (I.ok.inj _ _ _ e hc ▸ hi))
    · by_cases hcc : c' = c
      · subst hcc; exact ⟨_, hc'⟩
      · obtain ⟨w2, z2⟩ := I.cell y c' e
        exact ⟨w2, z2.sameBut hs hcc⟩
    · obtain ⟨e, n, ne, nf, d⟩ := I.pin p hp
      refine ⟨(hs.2 p.1 ?_).trans e, n, ne, nf, d⟩
      intro q
      rw [q, hoc] at e
      have q' : oc = p.2 := Option.some.inj e
      exact d w' (by rw [← q']; exact hocd)
theorem store_ok {M : Model} {A : Around} {E : Value → Shared → Prop} {i : Nat} {x : Str} {v : V} {u : Value} {Q : Unit → Shared → Prop} (I : Inv X pins σ H s) (hN : X.N.Nodup) (hi : X.N[i]? = some x) (hx : Loc X.env.scope x) (r : RelV v u)
    (h : ∀ s', Inv X pins (σ.set i (some v)) H s' → Q () s') (hf : X.fn x = true ∨ X.env.scope.names.lookup x = some .local := by first | exact .inl rfl | exact .inr rfl | assumption) : wpAny M A (storeName X.env x u) Q E s :=
  store_ok2 I hN hi hx r (fun s' I' _ => h s' I') hf
theorem Inv.call' {s' : Shared} {ch : List Addr} (I : Inv X pins σ H s) (ho : s'.os = s.os) (u : Un (frs X.stack) ch H H' s.heap s'.heap) (hok : HOk X.prog X.w H' s'.heap) (hg : AllBare s'.gens)
    (hch : ∀ b ∈ ch, (b ∈ X.ex ∨ X.s₀.heap.objs.size ≤ b) ∧ b ≠ X.env.locals ∧ (∀ x c, X.env.cells.lookup x = some c → c ≠ b) ∧ ∀ p ∈ X.pn ++ pins, p.1 ≠ b) : Inv X pins σ H' s' := by
  obtain ⟨h', g', d', t', o'⟩ := s'
  have e : o' = s.os := ho
  subst e
  exact I.call (g' := g') (t' := t') (d' := d') u hok hg hch
end
abbrev XK := Value → Option Addr → Hp → Prop
abbrev St := List (Option V)
abbrev VK := V → Hp → Prop
abbrev TE := St → Hp → VK → Prop
abbrev TT := St → Hp → (Bool → Hp → Prop) → Prop
abbrev TA := St → Hp → (List V → Hp → Prop) → Prop
structure Ends where
  nx : St → Hp → Prop
  rt : VK
  bk : St → Hp → Prop := fun _ _ => False
  ct : St → Hp → Prop := fun _ _ => False
abbrev TS := Ends → St → Hp → Prop
def EP (X : Cx) (pins : List (Addr × Obj)) (σ : St) (Q : VK) (u : Value) (s' : Shared) : Prop := ∃ v H', Inv X pins σ H' s' ∧ RelV v u ∧ Q v H'
def TP (X : Cx) (pins : List (Addr × Obj)) (σ : St) (Q : Bool → Hp → Prop) (b : Bool) (s' : Shared) : Prop := ∃ H', Inv X pins σ H' s' ∧ Q b H'
def AP (X : Cx) (pins : List (Addr × Obj)) (σ : St) (Q : List V → Hp → Prop) (us : List Value) (s' : Shared) : Prop := ∃ vs H', Inv X pins σ H' s' ∧ Vals vs us ∧ Q vs H'
def SP (X : Cx) (pins : List (Addr × Obj)) (D : Ends) (f : Flow) (s' : Shared) : Prop :=
  match f with
  | .next => ∃ σ' H', Inv X pins σ' H' s' ∧ D.nx σ' H'
  | .brk => ∃ σ' H', Inv X pins σ' H' s' ∧ D.bk σ' H'
  | .cont => ∃ σ' H', Inv X pins σ' H' s' ∧ D.ct σ' H'
  | .ret u => ∃ v σ' H', Inv X pins σ' H' s' ∧ RelV v u ∧ D.rt v H'
def PE (X : Cx) (e : Expr) (t : TE) : Prop :=
  ∀ (pins : List (Addr × Obj)) (s : Shared) (σ : St) (H : Hp) (Q : VK), Inv X pins σ H s → t σ H Q → wpAny (model X.prog X.w) X.A (eval e X.env) (EP X pins σ Q) X.xe s
def PT (X : Cx) (e : Expr) (t : TT) : Prop :=
  ∀ (pins : List (Addr × Obj)) (s : Shared) (σ : St) (H : Hp) (Q : Bool → Hp → Prop), Inv X pins σ H s → t σ H Q → wpAny (model X.prog X.w) X.A (isTrue e X.env (eval e X.env)) (TP X pins σ Q) X.xe s
def PW (X : Cx) (e : Expr) (t : TT) : Prop :=
  ∀ (whole : Sem Value) (pins : List (Addr × Obj)) (s : Shared) (σ : St) (H : Hp) (Q : Bool → Hp → Prop), Inv X pins σ H s → t σ H Q → wpAny (model X.prog X.w) X.A (isTrue e X.env whole) (TP X pins σ Q) X.xe s
theorem PW.pt {X : Cx} {e : Expr} {t : TT} (h : PW X e t) : PT X e t := h _
def PA (X : Cx) (es : List Expr) (t : TA) : Prop :=
  ∀ (pos : Pos) (pins : List (Addr × Obj)) (s : Shared) (σ : St) (H : Hp) (Q : List V → Hp → Prop), Inv X pins σ H s → t σ H Q → wpAny (model X.prog X.w) X.A (spliced (backTo pos (starEach es X.env))) (AP X pins σ Q) X.xe s
def PS (X : Cx) (st : Stmt) (t : TS) : Prop :=
  ∀ (pins : List (Addr × Obj)) (s : Shared) (σ : St) (H : Hp) (D : Ends), Inv X pins σ H s → t D σ H → wpAny (model X.prog X.w) X.A (exec st X.env) (SP X pins D) X.xe s
def PSs (X : Cx) (st : List Stmt) (t : TS) : Prop :=
  ∀ (pins : List (Addr × Obj)) (s : Shared) (σ : St) (H : Hp) (D : Ends), Inv X pins σ H s → t D σ H → wpAny (model X.prog X.w) X.A (execs st X.env) (SP X pins D) X.xe s
theorem thn {α : Type} {t : Sem α} {Q Q' : α → Shared → Prop} {M : Model} {A : Around} {E : Value → Shared → Prop} {s : Shared} (h : wpAny M A t Q E s) (hQ : ∀ a s, Q a s → Q' a s) : wpAny M A t Q' E s := wpAny_mono h hQ fun _ _ x => x
end L2
namespace L2
open PySem PySem.Spec PyProof.Rows
section
variable {X : Cx}
theorem bin {a b : Expr} {ta tb : TE} (ha : PE X a ta) (hb : PE X b tb) {pins : List (Addr × Obj)} {s : Shared} {σ : St} {H : Hp} {R : V → V → Hp → Prop} (I : Inv X pins σ H s) (h : ta σ H fun x H1 => tb σ H1 fun y H2 => R x y H2)
    {α : Type} {Q : α → Shared → Prop} {f : Value → Value → Sem α}
    (hf : ∀ v u s2 x y H2, Inv X pins σ H2 s2 → RelV x v → RelV y u → R x y H2 → wpAny (model X.prog X.w) X.A (f v u) Q X.xe s2) :
    wpAny (model X.prog X.w) X.A (eval a X.env) (fun v s₁ => wpAny (model X.prog X.w) X.A (eval b X.env) (fun u s₂ => wpAny (model X.prog X.w) X.A (f v u) Q X.xe s₂) X.xe s₁) X.xe s := by
  refine thn (ha pins s σ H _ I h) fun v s1 ⟨x, H1, I1, r1, q1⟩ => ?_
  refine thn (hb pins s1 σ H1 _ I1 q1) fun u s2 ⟨y, H2, I2, r2, q2⟩ => ?_
  exact hf v u s2 x y H2 I2 r1 r2 q2
def tVar (i : Nat) : TE := fun σ H Q => ∃ v, σ[i]? = some (some v) ∧ Q v H
def tC (v : V) : TE := fun _ H Q => Q v H
theorem pe_var {i : Nat} {x : Str} {pos : Pos} (hN : X.N[i]? = some x) (hv : Vis X.env.scope x) (hd : (x == ("__debug__" : Str)) = false := by decide) (hcd : (x == ("__classdict__" : Str)) = false := by decide) : PE X (.Name x pos) (tVar i) := by
  intro pins s σ H Q I h
  obtain ⟨v, e, h⟩ := h
  obtain ⟨m, hn, hl⟩ := I.loc
  obtain ⟨u, r, l⟩ := hl i x v hN e hv
  have fin : EP X pins σ Q u s := ⟨v, H, I, r, h⟩
  rcases l with ⟨hk, hm⟩ | ⟨hk, c, hc, hcell⟩
  · exact wpAny_Name (wpAny_loadName_local I.ok.kind hk hn hm fin) hd
  · rcases hk with hk | hk
    · exact wpAny_Name (wpAny_loadName_cell I.ok.kind hk hc hcell fin) hd
    · exact wpAny_Name (wpAny_loadName_free I.ok.kind hk hc hcell fin hcd) hd
theorem pe_int {i j pos} : PE X (.Constant (.int i) j pos) (tC (.int i)) := fun _ _ _ H _ I h => wpAny_Constant_int ⟨.int i, H, I.tok _, ⟨_, rfl⟩, h⟩
theorem pe_bl {b j pos} : PE X (.Constant (.bool b) j pos) (tC (.bl b)) := fun _ _ _ H _ I h => Constant_bool ⟨.bl b, H, I, rfl, h⟩
theorem pe_str {x j pos} : PE X (.Constant (.str x) j pos) (tC (.str x)) := fun _ _ _ H _ I h => Calls.Constant_str ⟨.str x, H, I.tok _, ⟨_, rfl⟩, h⟩
def Gl (X : Cx) (x : Str) : Prop := X.env.kindOf x = some .globalImplicit
theorem ld_glob {E : Value → Shared → Prop} {pins : List (Addr × Obj)} {s : Shared} {σ : St} {H : Hp} {x : Str} {u : Value} {pos : Pos} {Q : Value → Shared → Prop} (I : Inv X pins σ H s) (hg : Gl X x) (hm : X.mg x = some u) (h : Q u s)
    (hd : (x == ("__debug__" : Str)) = false := by decide) : wpAny (model X.prog X.w) X.A (eval (.Name x pos) X.env) Q E s :=
  Calls.Name_function_global I.ok.kind hg (Calls.loadGlobal_global (by rw [I.ok.glob]; exact I.mod.glob.keeps I.bk) hm h) hd
theorem ld_blt {E : Value → Shared → Prop} {pins : List (Addr × Obj)} {s : Shared} {σ : St} {H : Hp} {x : Str} {u : Value} {pos : Pos} {Q : Value → Shared → Prop} (I : Inv X pins σ H s) (hg : Gl X x) (hm : X.mg x = none) (hv : bootBuiltins x = some u) (h : Q u s)
    (hn : x ≠ "__name__" := by decide) (hd : (x == ("__debug__" : Str)) = false := by decide) : wpAny (model X.prog X.w) X.A (eval (.Name x pos) X.env) Q E s := by
  obtain ⟨mb, h1, h2⟩ := I.mod.blt
  exact Calls.Name_function_global I.ok.kind hg (Calls.loadGlobal_builtin (by rw [I.ok.glob]; exact I.mod.glob.keeps I.bk) hm (by rw [I.ok.blt]; exact h1.keeps I.bk) ((h2 x hn).trans hv) h) hd
theorem pe_glob {x : Str} {v : V} {u : Value} {pos : Pos} (hg : Gl X x) (hm : X.mg x = some u) (r : RelV v u) (hd : (x == ("__debug__" : Str)) = false := by decide) : PE X (.Name x pos) (tC v) :=
  fun _ _ _ H _ I h => ld_glob I hg hm ⟨v, H, I, r, h⟩ hd
theorem pe_bltn {x : Str} {v : V} {u : Value} {pos : Pos} (hg : Gl X x) (hm : X.mg x = none) (hv : bootBuiltins x = some u) (r : RelV v u) (hn : x ≠ "__name__" := by decide) (hd : (x == ("__debug__" : Str)) = false := by decide) : PE X (.Name x pos) (tC v) :=
  fun _ _ _ H _ I h => ld_blt I hg hm hv ⟨v, H, I, r, h⟩ hn hd
def t2I (ta tb : TE) (k : Int → Int → Hp → Prop) : St → Hp → Prop := fun σ H => ta σ H fun x H1 => tb σ H1 fun y H2 => ∃ i j, x = .int i ∧ y = .int j ∧ k i j H2
variable {a b : Expr} {ta tb : TE} {pos : Pos}
def PC (X : Cx) (op : CmpOp) (a b : Expr) (t : TE) : Prop :=
  ∀ (pins : List (Addr × Obj)) (s : Shared) (σ : St) (H : Hp) (Q : VK), Inv X pins σ H s → t σ H Q →
    wpAny (model X.prog X.w) X.A (eval a X.env) (fun v s₁ => wpAny (model X.prog X.w) X.A (eval b X.env) (fun u s₂ => wpAny (model X.prog X.w) X.A (compareOp op v u) (EP X pins σ Q) X.xe s₂) X.xe s₁) X.xe s
theorem nobehind (b : Expr) {op : CmpOp} (h : op ≠ .In) (h2 : op ≠ .NotIn) : behindInMarks op b = false := by
  have e1 : (op == CmpOp.In) = false := by cases op <;> first | rfl | exact absurd rfl h
  have e2 : (op == CmpOp.NotIn) = false := by cases op <;> first | rfl | exact absurd rfl h2
  cases b <;> simp [behindInMarks, e1, e2]
def tCmp (p : Int → Int → Bool) (ta tb : TE) : TE := fun σ H Q => t2I ta tb (fun i j H2 => Q (.bl (p i j)) H2) σ H
abbrev tLt : TE → TE → TE := tCmp fun i j => decide (i < j)
abbrev tLe : TE → TE → TE := tCmp fun i j => decide (i ≤ j)
abbrev tGt : TE → TE → TE := tCmp fun i j => decide (j < i)
abbrev tGe : TE → TE → TE := tCmp fun i j => decide (j ≤ i)
abbrev tEqI : TE → TE → TE := tCmp fun i j => decide (i = j)
abbrev tNeI : TE → TE → TE := tCmp fun i j => !decide (i = j)
def tIsN (ta : TE) : TE := fun σ H Q => ta σ H fun x H1 => Q (.bl (decide (x = .non))) H1
theorem RelV.none_iff {x : V} {v : Value} (r : RelV x v) : (v == Value.none) = decide (x = .non) := by
  cases x with
  | non => cases r; rfl
  | bl _ => cases r; rfl
  | int _ => obtain ⟨t, rfl⟩ := r; rfl
  | str _ => obtain ⟨t, rfl⟩ := r; rfl
  | byt _ => obtain ⟨t, rfl⟩ := r; rfl
  | flt _ => obtain ⟨t, rfl⟩ := r; rfl
  | ref _ => cases r; rfl
  | ty _ => cases r; rfl
theorem pc_isN {j pos'} (ha : PE X a ta) : PC X .Is a (.Constant .none j pos') (tIsN ta) := by
  intro pins s σ H Q I h
  refine thn (ha pins s σ H _ I h) fun v s1 ⟨x, H1, I1, r1, q1⟩ => ?_
  exact Constant_none (is_none_gen ⟨.bl _, H1, I1, by rw [r1.none_iff]; rfl, q1⟩)
def tB (t : TE) : TT := fun σ H Q => t σ H fun x H1 => ∃ c, x = .bl c ∧ Q c H1
theorem pe_cmp {op : CmpOp} {t : TE} (h : PC X op a b t) (h1 : behindInMarks op b = false := by first | exact nobehind _ (by decide) (by decide) | rfl) : PE X (.Compare a [op] [b] pos) t := fun pins s σ H Q I hw => wpAny_Compare1 (h pins s σ H Q I hw) h1
theorem pt_cmp {op : CmpOp} {t : TE} (h : PC X op a b t) (h1 : behindInMarks op b = false := by first | exact nobehind _ (by decide) (by decide) | rfl) : PT X (.Compare a [op] [b] pos) (tB t) := by
  intro pins s σ H Q I hw
  refine wpAny_isTrue_Compare1 (thn (h pins s σ H _ I hw) fun v s1 h1 => thn h1 fun u s2 h2 => thn h2 fun c s3 ⟨x, H1, I1, r1, q1⟩ => ?_) h1
  obtain ⟨d, rfl, q⟩ := q1
  cases r1
  exact wpAny_truthy_bool ⟨H1, I1, q⟩
theorem pt_val {e : Expr} {t : TE} (h : PE X e t) (he : ∀ whole, isTrue e X.env whole = (do let v ← whole; standAt e.pos; holding [v] (truthy v)) := by intro _; rfl) : PT X e (tB t) := by
  intro pins s σ H Q I hw
  refine isTrue_plain (thn (h pins s σ H _ I hw) fun v s1 ⟨x, H1, I1, r1, q1⟩ => ?_) (he _)
  obtain ⟨d, rfl, q⟩ := q1
  cases r1
  exact wpAny_truthy_bool ⟨H1, I1, q⟩
variable {tA tB' : TT} {rest : List Expr}
def tOr (t u : TT) : TT := fun σ H Q => t σ H fun c H1 => if c = true then Q true H1 else u σ H1 Q
def tNot (t : TT) : TT := fun σ H Q => t σ H fun c H1 => Q (!c) H1
theorem pw_or1 (ha : PT X a tA) : PW X (.BoolOp .Or [a] pos) tA := by
  intro wh pins s σ H Q I h
  refine isTrue_or (thn (ha pins s σ H Q I h) fun c s1 e => ?_)
  cases c with
  | false => exact isTrue_or_nil e
  | true => exact e
theorem pw_or (ha : PT X a tA) (hb : PW X (.BoolOp .Or (b :: rest) pos) tB') : PW X (.BoolOp .Or (a :: b :: rest) pos) (tOr tA tB') := by
  intro wh pins s σ H Q I h
  refine isTrue_or (thn (ha pins s σ H _ I h) fun c s1 ⟨H1, I1, q1⟩ => ?_)
  cases c with
  | true => exact ⟨H1, I1, q1⟩
  | false => exact hb wh pins s1 σ H1 Q I1 q1
theorem pt_not (ha : PT X a tA) : PT X (.UnaryOp .Not a pos) (tNot tA) := by
  intro pins s σ H Q I h
  exact isTrue_not (ha pins s σ H (fun c H1 => Q (!c) H1) I h)
def tAndV (ta tb : TE) : TE := fun σ H Q => ta σ H fun x H1 => ∃ c, x = .bl c ∧ if c = true then tb σ H1 Q else Q (.bl false) H1
def tNotV (ta : TE) : TE := fun σ H Q => ta σ H fun x H1 => ∃ c, x = .bl c ∧ Q (.bl (!c)) H1
theorem pe_one {op} {t : TE} (h : PE X a t) : PE X (.BoolOp op [a] pos) t := fun pins s σ H Q I hw => BoolOp_one (h pins s σ H Q I hw)
theorem pe_and (ha : PE X a ta) (hb : PE X (.BoolOp .And (b :: rest) pos) tb) : PE X (.BoolOp .And (a :: b :: rest) pos) (tAndV ta tb) := by
  intro pins s σ H Q I h
  refine BoolOp_and (thn (ha pins s σ H _ I h) fun v s1 ⟨x, H1, I1, r1, q1⟩ => ?_)
  obtain ⟨c, rfl, q1⟩ := q1
  cases r1
  refine wpAny_truthy_bool ?_
  cases c with
  | true => exact hb pins s1 σ H1 Q I1 q1
  | false => exact ⟨.bl false, H1, I1, rfl, q1⟩
theorem pe_not (ha : PE X a ta) : PE X (.UnaryOp .Not a pos) (tNotV ta) := by
  intro pins s σ H Q I h
  refine UnaryOp_ (thn (ha pins s σ H _ I h) fun v s1 ⟨x, H1, I1, r1, q1⟩ => ?_)
  obtain ⟨c, rfl, q1⟩ := q1
  cases r1
  exact not_of (wpAny_truthy_bool ⟨.bl (!c), H1, I1, rfl, q1⟩)
end
end L2
namespace L2
open PySem PySem.Spec PyProof.Rows
def SqL (K : PySem.W.Frag) (H : Hp) (a : Addr) (xs : List V) : Prop :=
  Rd H a (.lst xs) ∨
    ∃ (o : Obj) (its : Array Value) (n : Nat), K.lookup a = some o ∧ o.cls = .type "list" ∧ o.dict = none ∧ o.data = .seq its n ∧ its.size ≤ sizeLine ∧ Vals xs its.toList
def SqT (K : PySem.W.Frag) (H : Hp) (a : Addr) (xs : List V) : Prop :=
  Rd H a (.tup xs) ∨
    ∃ (o : Obj) (its : Array Value) (n : Nat), K.lookup a = some o ∧ o.cls = .type "tuple" ∧ o.data = .seq its n ∧ its.size ≤ sizeLine ∧ Vals xs its.toList
def absV : Value → Option V
  | .none => some .non
  | .bool b => some (.bl b)
  | .int i _ => some (.int i)
  | .str x _ => some (.str x)
  | .bytes b _ => some (.byt b)
  | .float b _ => some (.flt b)
  | .ref a => some (.ref a)
  | .type n => some (.ty n)
  | _ => none
theorem RelV.abs {x : V} {u : Value} (r : RelV x u) : absV u = some x := by
  cases x with
  | non => cases r; rfl
  | bl _ => cases r; rfl
  | int _ => obtain ⟨t, rfl⟩ := r; rfl
  | str _ => obtain ⟨t, rfl⟩ := r; rfl
  | byt _ => obtain ⟨t, rfl⟩ := r; rfl
  | flt _ => obtain ⟨t, rfl⟩ := r; rfl
  | ref _ => cases r; rfl
  | ty _ => cases r; rfl
theorem RelV.inj {x y : V} {u : Value} (r : RelV x u) (q : RelV y u) : x = y := Option.some.inj (r.abs.symm.trans q.abs)
theorem Vals.inj : ∀ {xs ys : List V} {us : List Value}, Vals xs us → Vals ys us → xs = ys
  | _, _, _, .nil, .nil => rfl
  | _, _, _, .cons r t, .cons r' t' => by rw [r.inj r', Vals.inj t t']
section
variable {X : Cx} {pins : List (Addr × Obj)} {σ : St} {H : Hp} {s : Shared} {a : Addr} {xs ys : List V}
theorem SqL.of {K : PySem.W.Frag} (h : H a = some (.lst xs)) : SqL K H a xs := .inl (.inl h)
theorem SqT.of {K : PySem.W.Frag} (h : H a = some (.tup xs)) : SqT K H a xs := .inl (.inl h)
theorem Inv.list (I : Inv X pins σ H s) (h : SqL X.K H a xs) : ∃ its : List Value, Vals xs its ∧ PlainL s.heap a its.toArray ∧ xs.length ≤ sizeLine := by
  rcases h with h | ⟨o, its, n, hk, hc, hd, hs, hz, r⟩
  · obtain ⟨z, its, n, r, e⟩ := h.ok I.hok
    exact ⟨its, r, ⟨_, n, e, rfl, rfl, rfl⟩, z⟩
  · refine ⟨its.toList, r, ⟨o, n, I.kIn a o hk, hc, hd, by simpa using hs⟩, ?_⟩
    have e := r.length
    simp only [Array.length_toList] at e
    omega
theorem Inv.tuple (I : Inv X pins σ H s) (h : SqT X.K H a xs) : ∃ its : List Value, Vals xs its ∧ IsTup s.heap a its.toArray ∧ xs.length ≤ sizeLine := by
  rcases h with h | ⟨o, its, n, hk, hc, hs, hz, r⟩
  · obtain ⟨z, its, r, p⟩ := h.ok I.hok
    exact ⟨its, r, p, z⟩
  · refine ⟨its.toList, r, ⟨o, I.kIn a o hk, hc, n, by simpa using hs⟩, ?_⟩
    have e := r.length
    simp only [Array.length_toList] at e
    omega
theorem Inv.list_inj (I : Inv X pins σ H s) (h : SqL X.K H a xs) (h' : SqL X.K H a ys) : xs = ys := by
  obtain ⟨its, r, ⟨o, n, e, _, _, d⟩, _⟩ := I.list h
  obtain ⟨its', r', ⟨o', n', e', _, _, d'⟩, _⟩ := I.list h'
  rw [e] at e'; cases e'
  rw [d] at d'
  injection d' with d1 _
  have : its = its' := by simpa using congrArg Array.toList d1
  subst this
  exact r.inj r'
theorem Inv.tuple_inj (I : Inv X pins σ H s) (h : SqT X.K H a xs) (h' : SqT X.K H a ys) : xs = ys := by
  obtain ⟨its, r, ⟨o, e, _, n, d⟩, _⟩ := I.tuple h
  obtain ⟨its', r', ⟨o', e', _, n', d'⟩, _⟩ := I.tuple h'
  rw [e] at e'; cases e'
  rw [d] at d'
  injection d' with d1 _
  have : its = its' := by simpa using congrArg Array.toList d1
  subst this
  exact r.inj r'
end
abbrev Cx.wish (X : Cx) (E : Value → Shared → Prop) : Cx := { X with xe := E }
abbrev Cx.nox (X : Cx) : Cx := X.wish fun _ _ => False
theorem Cx.Ok.wish {X : Cx} (ok : X.Ok) (E : Value → Shared → Prop) : (X.wish E).Ok :=
  ⟨ok.mod, ok.kind, ok.glob, ok.blt, ok.above, ok.inj, ok.has, ok.cab, ok.hd, ok.frames, ok.stk, ok.exf, ok.bs, ok.bsz, ok.noex, ok.exfs, ok.funs, ok.frf⟩
theorem Cx.Ok.unwish {X : Cx} {E : Value → Shared → Prop} (ok : (X.wish E).Ok) : X.Ok :=
  ⟨ok.mod, ok.kind, ok.glob, ok.blt, ok.above, ok.inj, ok.has, ok.cab, ok.hd, ok.frames, ok.stk, ok.exf, ok.bs, ok.bsz, ok.noex, ok.exfs, ok.funs, ok.frf⟩
section
variable {X : Cx} {pins : List (Addr × Obj)} {σ : St} {H : Hp} {s : Shared} {E : Value → Shared → Prop}
theorem Inv.wish (I : Inv X pins σ H s) (E : Value → Shared → Prop) : Inv (X.wish E) pins σ H s := ⟨I.ok.wish E, I.os, I.bare, I.base, I.loc, I.cell, I.free, I.freeC, I.pin, I.hok, I.len⟩
theorem Inv.unwish (I : Inv (X.wish E) pins σ H s) : Inv X pins σ H s := ⟨I.ok.unwish, I.os, I.bare, I.base, I.loc, I.cell, I.free, I.freeC, I.pin, I.hok, I.len⟩
theorem SP.unwish {D : Ends} {f : Flow} {s' : Shared} (h : SP (X.wish E) pins D f s') : SP X pins D f s' := by
  cases f with
  | next => obtain ⟨σ', H', I, q⟩ := h; exact ⟨σ', H', I.unwish, q⟩
  | brk => obtain ⟨σ', H', I, q⟩ := h; exact ⟨σ', H', I.unwish, q⟩
  | cont => obtain ⟨σ', H', I, q⟩ := h; exact ⟨σ', H', I.unwish, q⟩
  | ret u => obtain ⟨v, σ', H', I, r, q⟩ := h; exact ⟨v, σ', H', I.unwish, r, q⟩
theorem PSs.nox {st : List Stmt} {t : TS} (h : PSs X.nox st t) : PSs X st t := fun pins s σ H D I hw =>
  wpAny_mono (h pins s σ H D (I.wish _) hw) (fun _ _ q => q.unwish) fun _ _ z => False.elim z
end
section
variable {X : Cx} {st : Stmt} {rest : List Stmt} {t u : TS} {e : Expr} {te : TE} {pos : Pos}
def tNext : TS := fun D σ H => D.nx σ H
def tSeq (t u : TS) : TS := fun D σ H => t { D with nx := u D } σ H
theorem pss_nil : PSs X [] tNext := fun _ _ σ H _ I h => wpAny_execs_nil ⟨σ, H, I, h⟩
theorem pss_cons (h1 : PS X st t) (h2 : PSs X rest u) : PSs X (st :: rest) (tSeq t u) := by
  intro pins s σ H D I h
  refine wpAny_execs_cons (thn (h1 pins s σ H { D with nx := u D } I h) fun f s1 q => ?_)
  cases f with
  | next =>
    obtain ⟨σ', H', I', q⟩ := q
    exact h2 pins s1 σ' H' D I' q
  | ret v => exact q
  | brk => exact q
  | cont => exact q
theorem pss_one (h1 : PS X st t) : PSs X [st] t := by
  intro pins s σ H D I h
  refine wpAny_execs_cons (thn (h1 pins s σ H D I h) fun f s1 q => ?_)
  cases f with
  | next => exact wpAny_execs_nil q
  | ret v => exact q
  | brk => exact q
  | cont => exact q
def tRet (te : TE) : TS := fun D σ H => te σ H D.rt
theorem ps_ret (he : PE X e te) : PS X (.Return (some e) pos) (tRet te) := by
  intro pins s σ H D I h
  exact wpAny_Return_some (thn (he pins s σ H _ I h) fun v s1 ⟨x, H1, I1, r1, q1⟩ => ⟨x, σ, H1, I1, r1, q1⟩)
def tIfS (c : TT) (t u : TS) : TS := fun D σ H => c σ H fun b H1 => if b = true then t D σ H1 else u D σ H1
theorem ps_if {c : Expr} {a b : List Stmt} {tc : TT} (hc : PT X c tc) (ha : PSs X a t) (hb : PSs X b u) : PS X (.If c a b pos) (tIfS tc t u) := by
  intro pins s σ H D I h
  refine wpAny_If (thn (hc pins s σ H _ I h) fun d s1 ⟨H1, I1, q1⟩ => ?_)
  cases d with
  | true => exact ha pins s1 σ H1 D I1 q1
  | false => exact hb pins s1 σ H1 D I1 q1
end
abbrev TG := V → St → Hp → (St → Hp → Prop) → Prop
abbrev TGs := List V → St → Hp → (St → Hp → Prop) → Prop
def PG (X : Cx) (target : Expr) (t : TG) : Prop :=
  ∀ (pins : List (Addr × Obj)) (s : Shared) (σ : St) (H : Hp) (v : V) (u : Value) (Q : St → Hp → Prop), Inv X pins σ H s → RelV v u → t v σ H Q →
    wpAny (model X.prog X.w) X.A (assign target X.env u) (fun _ s' => ∃ σ' H', Inv X pins σ' H' s' ∧ Q σ' H') X.xe s
def PGs (X : Cx) (ts : List Expr) (t : TGs) : Prop :=
  ∀ (pins : List (Addr × Obj)) (s : Shared) (σ : St) (H : Hp) (vs : List V) (us : List Value) (Q : St → Hp → Prop), Inv X pins σ H s → Vals vs us → t vs σ H Q →
    wpAny (model X.prog X.w) X.A (assignInOrder ((assignEach ts X.env).map (·.2)) us) (fun _ s' => ∃ σ' H', Inv X pins σ' H' s' ∧ Q σ' H') X.xe s
abbrev TSet := V → V → V → Hp → (Hp → Prop) → Prop
def PSet (X : Cx) (t : TSet) : Prop :=
  ∀ (pins : List (Addr × Obj)) (s : Shared) (σ : St) (H : Hp) (o i v : V) (ov iv u : Value) (Q : Hp → Prop), Inv X pins σ H s → RelV o ov → RelV i iv → RelV v u → t o i v H Q →
    wpAny (model X.prog X.w) X.A (setItem ov iv u) (fun _ s' => ∃ H', Inv X pins σ H' s' ∧ Q H') X.xe s
abbrev TIp := V → V → Hp → VK → Prop
section
variable {X : Cx} {pos : Pos}
def gName (i : Nat) : TG := fun v σ H Q => Q (σ.set i (some v)) H
theorem pg_name {i : Nat} {x : Str} (hN : X.N.Nodup) (hi : X.N[i]? = some x) (hx : Loc X.env.scope x) (hf : X.fn x = true ∨ X.env.scope.names.lookup x = some .local := by first | exact .inl rfl | exact .inr rfl | assumption) : PG X (.Name x pos) (gName i) := by
  intro pins s σ H v u Q I r h
  exact wpAny_assign_Name (store_ok I hN hi hx r (fun s' I' => ⟨_, H, I', h⟩) hf)
def gNil : TGs := fun vs σ H Q => vs = [] ∧ Q σ H
def gCons (t : TG) (u : TGs) : TGs := fun vs σ H Q => ∃ v r, vs = v :: r ∧ t v σ H fun σ' H' => u r σ' H' Q
theorem pgs_nil : PGs X [] gNil := by
  intro pins s σ H vs us Q I r h
  obtain ⟨e, h⟩ := h
  subst e
  cases r
  exact assignInOrder_nil ⟨σ, H, I, h⟩
theorem pgs_cons {e : Expr} {es : List Expr} {t : TG} {u : TGs} (h1 : PG X e t) (h2 : PGs X es u)
    (hs : (assignEach (e :: es) X.env).map (·.2) = assign e X.env :: (assignEach es X.env).map (·.2) := by rfl) : PGs X (e :: es) (gCons t u) := by
  intro pins s σ H vs us Q I r h
  obtain ⟨v, vr, e1, h⟩ := h
  subst e1
  cases r with
  | cons r rr =>
    rw [hs]
    refine assignInOrder_cons (thn (h1 pins s σ H _ _ _ I r h) fun _ s1 ⟨σ1, H1, I1, q1⟩ => ?_)
    exact h2 pins s1 σ1 H1 _ _ Q I1 rr q1
def gTup (K : PySem.W.Frag) (n : Nat) (t : TGs) : TG := fun v σ H Q => ∃ a xs, v = .ref a ∧ SqT K H a xs ∧ xs.length = n ∧ t xs σ H Q
theorem pg_tup {es : List Expr} {k : Nat} {t : TGs} {n : Nat} (hc : X.calm = true) (h : PGs X es t)
    (hn : (assignEach es X.env).length = n := by rfl) (hst : (assignEach es X.env).findIdx? (·.1) = none := by rfl) : PG X (.Tuple es k pos) (gTup X.K n t) := by
  intro pins s σ H v u Q I r hw
  obtain ⟨a, xs, e1, hq, hl, hw⟩ := hw
  subst e1
  cases r
  obtain ⟨its, rv, ht, hz⟩ := I.tuple hq
  refine assign_Tuple_tuple (I.ok.hd hc) ht (by simp [hn, ← hl, rv.length]) hst fun h' hx => ?_
  have I1 : Inv X pins σ H { s with heap := h' } := I.kept (t' := s.toks) fun b o e => hx b o (Nat.ne_of_lt (Heap.lt_size e)) e
  exact h pins _ σ H xs _ Q I1 (by simpa using rv) hw
def gSub (to ti : TE) (t : TSet) : TG := fun v σ H Q => to σ H fun o H1 => ti σ H1 fun i H2 => t o i v H2 fun H3 => Q σ H3
theorem pg_sub {o i : Expr} {to ti : TE} {t : TSet} (ho : PE X o to) (hi : PE X i ti) (hs : PSet X t)
    (ha : ∀ v, assign (.Subscript o i pos) X.env v = (do
      let ov ← holding [v] (eval o X.env)
      let iv ← holding [v, ov] (eval i X.env)
      standAt pos
      holding [v, ov, iv] (setItem ov iv v)
      release [v, ov, iv] []) := by intro _; rfl) : PG X (.Subscript o i pos) (gSub to ti t) := by
  intro pins s σ H v u Q I r h
  rw [ha]
  refine wpAny_bind (wpAny_holding (thn (ho pins s σ H _ I h) fun ov s1 ⟨x, H1, I1, r1, q1⟩ => ?_))
  refine wpAny_bind (wpAny_holding (thn (hi pins s1 σ H1 _ I1 q1) fun iv s2 ⟨y, H2, I2, r2, q2⟩ => ?_))
  refine wpAny_bind (wpAny_standAt (wpAny_bind (wpAny_holding (thn (hs pins s2 σ H2 x y v ov iv u _ I2 r1 r2 r q2) fun _ s3 ⟨H3, I3, q3⟩ => ?_))))
  exact wpAny_release ⟨σ, H3, I3, q3⟩
def tAsg (te : TE) (g : TG) : TS := fun D σ H => te σ H fun x H1 => g x σ H1 D.nx
theorem ps_asg {tg e : Expr} {te : TE} {g : TG} (he : PE X e te) (hg : PG X tg g) (hs : swapsWithSole [tg] e pos.line X.env = pure false := by rfl) (hw : swappedStores [tg] e X.env = pure none := by rfl)
    (h1 : (assignEach [tg] X.env).map (·.2) = [assign tg X.env] := by rfl) : PS X (.Assign [tg] e pos) (tAsg te g) := by
  intro pins s σ H D I h
  refine wpAny_Assign_stores (thn (he pins s σ H _ I h) fun v s1 ⟨x, H1, I1, r1, q1⟩ => ?_) hs hw
  rw [h1]
  exact thn (hg pins s1 σ H1 x v _ I1 r1 q1) fun _ s2 q => q
theorem ps_set {i : Nat} {x : Str} {e : Expr} {te : TE} {pos' : Pos} (hN : X.N.Nodup) (hi : X.N[i]? = some x) (hx : Loc X.env.scope x) (he : PE X e te) (hs : swapsWith e (some (.Name x pos')) pos.line X.env = pure false := by rfl) (hf : X.fn x = true ∨ X.env.scope.names.lookup x = some .local := by first | exact .inl rfl | exact .inr rfl | assumption) :
    PS X (.Assign [.Name x pos'] e pos) (tAsg te (gName i)) := by
  intro pins s σ H D I h
  refine wpAny_Assign_Name (thn (he pins s σ H _ I h) fun v s1 ⟨y, H1, I1, r1, q1⟩ => ?_) hs
  exact store_ok I1 hN hi hx r1 (fun s2 I2 => ⟨_, H1, I2, q1⟩) hf
end
section
variable {X : Cx} {pos : Pos}
end
structure It where
  go : Nat → Hp → Prop
  yld : Nat → Hp → V → Hp → Prop
  stop : Nat → Hp → Prop
def FpOk (X : Cx) (pins : List (Addr × Obj)) (H : Hp) (b : Addr) : Prop :=
  H b = none ∧ b ≠ X.env.locals ∧ b ∉ X.fs ∧ (b ∈ X.ex ∨ X.s₀.heap.objs.size ≤ b) ∧ (∀ x c, X.env.cells.lookup x = some c → c ≠ b) ∧ ∀ p ∈ X.pn ++ pins, p.1 ≠ b
theorem Inv.fpOk {X : Cx} {pins : List (Addr × Obj)} {σ : St} {H H' : Hp} {s : Shared} {b : Addr} (I : Inv X pins σ H s) (hb : s.heap.objs.size ≤ b) (hn : H' b = none) : FpOk X pins H' b := by
  refine ⟨hn, Nat.ne_of_gt (Nat.lt_of_lt_of_le I.lt hb), I.nofs hb, .inr (Nat.le_trans I.sz hb), fun x c e z => ?_, fun p hp z => ?_⟩
  · obtain ⟨v, q⟩ := I.cell x c e
    exact absurd (Nat.lt_of_lt_of_le q.lt (by rw [z]; exact hb)) (Nat.lt_irrefl _)
  · exact absurd (Nat.lt_of_lt_of_le (Heap.lt_size (I.pin p hp).1) (by rw [z]; exact hb)) (Nat.lt_irrefl _)
structure Turn (P : Program) (w : World) (K : PySem.W.Frag) (tg : Expr) (J : It) (fp : List Addr) (it : Addr) (tn : Nat → Heap → Prop) : Prop where
  mem : it ∈ fp
  obj : ∀ i h, tn i h → ∀ b ∈ fp, ∃ o, h.get? b = some o ∧ ∀ v, o.data ≠ .cell v
  keep : ∀ i h h', tn i h → (∀ b ∈ fp, ∀ o, h.get? b = some o → h'.get? b = some o) → tn i h'
  item : ∀ (X : Cx), X.prog = P → X.w = w → X.K = K → X.calm = true → ∀ (i : Nat) (pins : List (Addr × Obj)) (s : Shared) (σ : St) (H : Hp) (E : Value → Shared → Prop), Inv X pins σ H s → (∀ b ∈ fp, FpOk X pins H b) → tn i s.heap → J.go i H →
    wpAny (model P w) X.A (pyNext (.ref it)) (fun r s1 => ∃ u, r = some u ∧
      wpAny (model P w) X.A (letOwnedTupleGo tg (.ref it) u) (fun _ s2 => ∃ x H', Inv X pins σ H' s2 ∧ RelV x u ∧ J.yld i H x H' ∧ tn (i + 1) s2.heap ∧ ∀ b ∈ fp, H' b = none) E s1) E s
  done : ∀ (X : Cx), X.prog = P → X.w = w → X.K = K → X.calm = true → ∀ (i : Nat) (pins : List (Addr × Obj)) (s : Shared) (σ : St) (H : Hp) (E : Value → Shared → Prop), Inv X pins σ H s → (∀ b ∈ fp, FpOk X pins H b) → tn i s.heap → J.stop i H →
    wpAny (model P w) X.A (pyNext (.ref it)) (fun r s1 => r = none ∧ Inv X pins σ H s1) E s
  self : ∀ (A : Around) (i : Nat) (s : Shared) (Q : Value → Shared → Prop) (E : Value → Shared → Prop), tn i s.heap → Q (.ref it) s → wpAny (model P w) A (pyIter (.ref it)) Q E s
abbrev TI := St → Hp → (It → Hp → Prop) → Prop
def PIE (X : Cx) (pins : List (Addr × Obj)) (σ : St) (tg : Expr) (R : It → Hp → Prop) (itv : Value) (s2 : Shared) : Prop :=
  ∃ (it : Addr) (fp : List Addr) (tn : Nat → Heap → Prop) (J : It) (H' : Hp), itv = .ref it ∧ Inv X pins σ H' s2 ∧ Turn X.prog X.w X.K tg J fp it tn ∧ tn 0 s2.heap ∧ (∀ b ∈ fp, FpOk X pins H' b) ∧ R J H'
def PI (X : Cx) (tg iter : Expr) (wi : TI) : Prop :=
  ∀ (pins : List (Addr × Obj)) (s : Shared) (σ : St) (H : Hp) (R : It → Hp → Prop), Inv X pins σ H s → wi σ H R →
    wpAny (model X.prog X.w) X.A (eval iter X.env) (fun v s1 => wpAny (model X.prog X.w) X.A (pyIter v) (PIE X pins σ tg R) X.xe s1) X.xe s
theorem go_of {M : Model} {A : Around} {E : Value → Shared → Prop} {s : Shared} {tg : Expr} {it : Addr} {u : Value} {o : Obj} {n : String} {vs : Array Value} {Q : Unit → Shared → Prop} (ho : s.heap.get? it = some o) (hc : o.cls = .type n) (hd : o.data = .fields vs)
    (hn : ["enumerate", "zip", "dict_itemiterator", "dict_reverseitemiterator", "odict_iterator", "itertools.zip_longest", "itertools.pairwise"].contains n = false) (hQ : Q () s) : wpAny M A (letOwnedTupleGo tg (.ref it) u) Q E s := by
  unfold letOwnedTupleGo
  cases tg <;> first
    | exact wpAny_pure hQ
    | (cases u <;> first
        | exact wpAny_pure hQ
        | (refine wpAny_bind (wpAny_load ho ?_)
           rw [hc, hd]
           show wpAny M A (if (["enumerate", "zip", "dict_itemiterator", "dict_reverseitemiterator", "odict_iterator", "itertools.zip_longest", "itertools.pairwise"].contains n && vs[0]? == some (rawInt _)) = true then _ else _) Q E s
           rw [if_neg (by intro h; rw [hn, Bool.false_and] at h; cases h)]
           exact wpAny_pure hQ))
def Itl (K : PySem.W.Frag) (a : Addr) : It :=
  ⟨fun i H => ∃ xs x, SqL K H a xs ∧ xs[i]? = some x, fun i H x H' => H' = H ∧ ∀ xs, SqL K H a xs → xs[i]? = some x, fun i H => ∃ xs, SqL K H a xs ∧ xs.length ≤ i⟩
def Itr (lo : Int) (n : Nat) : It := ⟨fun i _ => i < n, fun i H x H' => H' = H ∧ x = .int (lo + i), fun i _ => n ≤ i⟩
theorem turn_list {P : Program} {w : World} {K : PySem.W.Frag} {tg : Expr} (a it : Addr) : Turn P w K tg (Itl K a) [it] it (fun i h => h.IsListIter it a i) where
  mem := by simp
  obj := fun i h st b hb => by
    have e : b = it := by simpa using hb
    subst e
    obtain ⟨o, e, c, d⟩ := st
    exact ⟨o, e, fun v z => by rw [d] at z; cases z⟩
  keep := fun i h h' st k => st.at fun o e => k it (by simp) o e
  item := by
    intro X hP hw hK hc i pins s σ H E I hf st hg
    subst hP hw hK
    obtain ⟨xs, x, hq, hx⟩ := hg
    obtain ⟨its, rv, p, hz⟩ := I.list hq
    obtain ⟨u, hu, ru⟩ := rv.get hx
    obtain ⟨f0, f1, f2, f3, f4, f5⟩ := hf it (by simp)
    refine wpAny_pyNext_list_item st p.isList (x := u) (by simpa using hu) fun h' st' sb => ?_
    have I1 : Inv X pins σ H { s with heap := h' } := I.turned (t' := s.toks) (fun b o hb e => (sb.2 b hb).trans e) f0 f1 f3 f4 f5
    obtain ⟨o, e, c, d⟩ := id st'
    exact ⟨u, rfl, go_of (s := { s with heap := h' }) e c d (by decide) ⟨x, H, I1, ru, ⟨rfl, fun ys hy => by rw [I.list_inj hy hq]; exact hx⟩, st', fun b hb => (hf b hb).1⟩⟩
  done := by
    intro X hP hw hK hc i pins s σ H E I hf st hg
    subst hP hw hK
    obtain ⟨xs, hq, hx⟩ := hg
    obtain ⟨its, rv, p, hz⟩ := I.list hq
    obtain ⟨f0, f1, f2, f3, f4, f5⟩ := hf it (by simp)
    have hl := rv.length
    exact wpAny_pyNext_list_end (I.ok.hd hc) st p.isList (by simp; omega) fun h' eb => ⟨rfl, I.turned (t' := s.toks) (fun b o hb e => eb b o hb e) f0 f1 f3 f4 f5⟩
  self := fun _ _ _ _ _ st h => wpAny_pyIter_listiter st h
theorem turn_range {P : Program} {w : World} {K : PySem.W.Frag} {tg : Expr} (it : Addr) (lo : Int) (n : Nat) : Turn P w K tg (Itr lo n) [it] it (fun i h => IsRangeIter h it (lo + (i : Nat) * 1) ((n : Int) - (i : Nat)) 1) where
  mem := by simp
  obj := fun i h st b hb => by
    have e : b = it := by simpa using hb
    subst e
    exact ⟨_, st, fun v z => by
      have z' : Data.fields _ = Data.cell v := z
      cases z'⟩
  keep := fun i h h' st k => k it (by simp) _ st
  item := by
    intro X hP hw hK hc i pins s σ H E I hf st hg
    subst hP hw hK
    obtain ⟨f0, f1, f2, f3, f4, f5⟩ := hf it (by simp)
    have W := Walks.range (prog := X.prog) (w := X.w) (I.ok.hd hc) it lo 1 n
    refine W.item i s _ _ hg st fun v h' tk hv st' kk => ?_
    obtain ⟨t, rfl⟩ := hv
    have I1 : Inv X pins σ H { s with heap := h', toks := tk } := I.turned (fun b o hb e => kk b o (by simpa using hb) e) f0 f1 f3 f4 f5
    refine ⟨_, rfl, go_of (s := { s with heap := h', toks := tk }) (n := "range_iterator") st' rfl rfl (by decide) ⟨.int (lo + i), H, I1, ⟨t, ?_⟩, ⟨rfl, rfl⟩, st', fun b hb => (hf b hb).1⟩⟩
    rw [Int.mul_one]
  done := by
    intro X hP hw hK hc i pins s σ H E I hf st hg
    subst hP hw hK
    obtain ⟨f0, f1, f2, f3, f4, f5⟩ := hf it (by simp)
    exact wpAny_pyNext_range_end (I.ok.hd hc) st (by have : n ≤ i := hg; omega) fun h' eb => ⟨rfl, I.turned (t' := s.toks) (fun b o hb e => eb b o hb e) f0 f1 f3 f4 f5⟩
  self := fun _ _ _ _ _ st h => wpAny_pyIter_rangeiter st h
end L2
namespace L2
open PySem PySem.Spec PyProof.Rows
section
variable {X : Cx} {tg : Expr}
def iList (K : PySem.W.Frag) (tl : TE) : TI := fun σ H R => tl σ H fun x H1 => ∃ a, x = .ref a ∧ (∃ xs, SqL K H1 a xs) ∧ R (Itl K a) H1
theorem pi_list {l : Expr} {tl : TE} (hl : PE X l tl) : PI X tg l (iList X.K tl) := by
  intro pins s σ H R I h
  refine thn (hl pins s σ H _ I h) fun v s1 ⟨x, H1, I1, r1, q1⟩ => ?_
  obtain ⟨a, e, ⟨xs, hq⟩, q⟩ := q1
  subst e
  cases r1
  obtain ⟨its, rv, p, hz⟩ := I1.list hq
  refine wpAny_pyIter_list p.isList ?_
  refine ⟨s1.heap.objs.size, [s1.heap.objs.size], _, _, H1, rfl, I1.kept (t' := s1.toks) fun b o e => Heap.get?_push_of_some _ e, turn_list a _, ⟨_, Heap.get?_push_size _ rfl, rfl, rfl⟩, fun b hb => ?_, q⟩
  have e : b = s1.heap.objs.size := by simpa using hb
  subst e
  exact I1.fpOk (Nat.le_refl _) (I1.hok.fresh (Nat.le_refl _))
theorem range_it {pins : List (Addr × Obj)} {σ : St} {H : Hp} {s : Shared} {R : It → Hp → Prop} {E : Value → Shared → Prop} {lo hi : Int} {t u v : Tok} {tk : Nat} (I : Inv X pins σ H s) (h1 : -(2 ^ 62) ≤ lo) (h2 : lo < 2 ^ 62) (h3 : -(2 ^ 62) ≤ hi) (h4 : hi < 2 ^ 62)
    (q : R (Itr lo (hi - lo).toNat) H) : wpAny (model X.prog X.w) X.A (pyIter (.ref s.heap.objs.size)) (PIE X pins σ tg R) E { s with heap := s.heap.push { cls := .type "range", data := .fields #[.int lo t, .int hi u, .int 1 v] }, toks := tk } := by
  refine wpAny_pyIter_range (IsRange.new ..) (small_one h1 h2 h3 h4) ?_
  have I1 : Inv X pins σ H { s with heap := s.heap.push { cls := .type "range", data := .fields #[.int lo t, .int hi u, .int 1 v] }, toks := tk } := I.kept fun b o e => Heap.get?_push_of_some _ e
  refine ⟨(s.heap.push { cls := .type "range", data := .fields #[.int lo t, .int hi u, .int 1 v] }).objs.size, [(s.heap.push { cls := .type "range", data := .fields #[.int lo t, .int hi u, .int 1 v] }).objs.size], _, _, H, rfl,
    I1.kept (t' := tk) fun b o e => Heap.get?_push_of_some _ e, turn_range _ lo (hi - lo).toNat, ?_, fun b hb => ?_, q⟩
  · have e1 : lo + ((0 : Nat) : Int) * 1 = lo := by simp
    have e2 : (((hi - lo).toNat : Nat) : Int) - ((0 : Nat) : Int) = Builtin.Range.rangeSize lo hi 1 := by rw [rangeSize_one]; split <;> omega
    show IsRangeIter _ _ (lo + ((0 : Nat) : Int) * 1) ((((hi - lo).toNat : Nat) : Int) - ((0 : Nat) : Int)) 1
    rw [e1, e2]
    exact Heap.get?_push_size _ rfl
  · have e : b = (s.heap.push { cls := .type "range", data := .fields #[.int lo t, .int hi u, .int 1 v] }).objs.size := by simpa using hb
    subst e
    exact I1.fpOk (Nat.le_refl _) (I1.hok.fresh (Nat.le_refl _))
def iRng1 (ta : TA) : TI := fun σ H R => ta σ H fun vs H1 => ∃ j : Int, vs = [.int j] ∧ -(2 ^ 62) ≤ j ∧ j < 2 ^ 62 ∧ R (Itr 0 j.toNat) H1
theorem pi_range1 {a : Expr} {ta : TA} {p pos : Pos} (hg : Gl X "range") (hm : X.mg "range" = none) (ha : PA X [a] ta) (hs : starEach [a] X.env = [(false, eval a X.env)] := by rfl) : PI X tg (.Call (.Name "range" p) [a] [] pos) (iRng1 ta) := by
  intro pins s σ H R I h
  refine Call_ (ld_blt I hg hm boot_range (PyProof.Rows.callWith_type1 (thn (ha pos pins s σ H _ I h) fun us s1 ⟨vs, H1, I1, r1, q1⟩ => ?_) hs rfl))
  obtain ⟨j, e, q1, q2, q⟩ := q1
  subst e
  cases r1 with
  | cons r rr =>
    cases rr
    obtain ⟨t, rfl⟩ := r
    exact call_range_1 (range_it I1 (by omega) (by omega) q1 q2 (by simpa using q))
def tFor (wi : TI) (g : TG) (tb : TS) : TS := fun D σ H => wi σ H fun J H1 => ∃ W : Nat → Nat → St → Hp → Prop, (∃ m, W 0 m σ H1) ∧ ∀ i m σ H, W i m σ H →
  (J.stop i H ∧ D.nx σ H) ∨ (J.go i H ∧ ∃ N : St → Hp → Prop, (∀ σ' H', N σ' H' → ∃ m', m' < m ∧ W (i + 1) m' σ' H') ∧ ∀ x H', J.yld i H x H' → g x σ H' fun σ2 H2 => tb { D with nx := N, ct := N, bk := D.nx } σ2 H2)
def pinsAt (fp : List Addr) (h : Heap) : List (Addr × Obj) := fp.filterMap fun b => (h.get? b).map fun o => (b, o)
theorem mem_pinsAt {fp : List Addr} {h : Heap} {b : Addr} {o : Obj} (hb : b ∈ fp) (e : h.get? b = some o) : (b, o) ∈ pinsAt fp h := List.mem_filterMap.mpr ⟨b, hb, by rw [e]; rfl⟩
theorem of_pinsAt {fp : List Addr} {h : Heap} {p : Addr × Obj} (hp : p ∈ pinsAt fp h) : p.1 ∈ fp ∧ h.get? p.1 = some p.2 := by
  obtain ⟨b, hb, e⟩ := List.mem_filterMap.mp hp
  cases q : h.get? b with
  | none => rw [q] at e; cases e
  | some o =>
    rw [q] at e
    have e' : (b, o) = p := Option.some.inj e
    subst e'
    exact ⟨hb, q⟩
theorem Inv.pinned {pins : List (Addr × Obj)} {σ : St} {H : Hp} {s : Shared} {fp : List Addr} (I : Inv X pins σ H s) (hf : ∀ b ∈ fp, FpOk X pins H b) (ho : ∀ b ∈ fp, ∃ o, s.heap.get? b = some o ∧ ∀ v, o.data ≠ .cell v) : Inv X (pins ++ pinsAt fp s.heap) σ H s :=
  I.pins_of fun p hp => (List.mem_append.mp hp).elim (fun z => I.pin p (List.mem_append_right _ z)) fun z => by
    obtain ⟨hb, e⟩ := of_pinsAt z
    obtain ⟨f0, f1, f2, _⟩ := hf p.1 hb
    obtain ⟨o, e', d⟩ := ho p.1 hb
    rw [e] at e'; cases e'
    exact ⟨e, f0, f1, f2, d⟩
theorem Inv.unpinned {pins pl : List (Addr × Obj)} {σ : St} {H : Hp} {s : Shared} (I : Inv X (pins ++ pl) σ H s) : Inv X pins σ H s := I.pins_of fun p hp => I.pin p (List.mem_append_right _ (List.mem_append_left _ hp))
theorem ps_for {iter : Expr} {body : List Stmt} {wi : TI} {g : TG} {tb : TS} {pos : Pos} (hp : PassesOwn (model X.prog X.w) X.A X.env X.xe) (hc : X.calm = true) (hi : PI X tg iter wi) (hg : PG X tg g) (hb : PSs X body tb)
    (hs : ∀ x, foldedSetIterable iter X.env x = pure x := by intro _; rfl) : PS X (.For tg iter body [] pos) (tFor wi g tb) := by
  intro pins s σ H D I h
  refine wpAny_For (thn (hi pins s σ H _ I h) fun v s1 h1 => thn h1 fun itv s2 h2 => ?_) hs
  obtain ⟨it, fp, tn, J, H2, e, I2, T, st2, f2, W, ⟨m0, w0⟩, turn⟩ := h2
  subst e
  -- what stays true of the iterator's objects through the loop
  have stat : ∀ {H' : Hp}, (∀ b ∈ fp, H' b = none) → ∀ b ∈ fp, FpOk X pins H' b := fun hn b hb => ⟨hn b hb, (f2 b hb).2⟩
  refine codeAny_forLoop_any (fun n s' => ∃ i σ' H', Inv X pins σ' H' s' ∧ tn i s'.heap ∧ (∀ b ∈ fp, H' b = none) ∧ W i n σ' H') ?_ m0 ⟨0, σ, H2, I2, st2, fun b hb => (f2 b hb).1, w0⟩
  rintro n s3 ⟨i, σ3, H3, I3, st3, fr3, w3⟩
  rcases turn i n σ3 H3 w3 with ⟨stop, qn⟩ | ⟨go, N, hN, step⟩
  · refine wpAny_passesOwn hp (thn (T.done X rfl rfl rfl hc i pins s3 σ3 H3 X.xe I3 (stat fr3) st3 stop) fun r s4 ⟨hr, I4⟩ => ?_)
    subst hr
    exact wpAny_execs_nil ⟨σ3, H3, I4, qn⟩
  · refine wpAny_passesOwn hp (thn (T.item X rfl rfl rfl hc i pins s3 σ3 H3 X.xe I3 (stat fr3) st3 go) fun r s4 ⟨u, hr, h4⟩ => ?_)
    subst hr
    refine wpAny_passesOwn hp (thn h4 fun _ s5 ⟨x, H5, I5, r5, y5, st5, fr5⟩ => ?_)
    have I5' := I5.pinned (stat fr5) (T.obj _ _ st5)
    refine wpAny_passesOwn hp (thn (hg _ s5 σ3 H5 x u _ I5' r5 (step x H5 y5)) fun _ s6 ⟨σ6, H6, I6, q6⟩ => ?_)
    refine wpAny_passesOwn hp (thn (hb _ s6 σ6 H6 _ I6 q6) fun f s7 q7 => ?_)
    have again : ∀ {σ7 : St} {H7 : Hp}, Inv X (pins ++ pinsAt fp s5.heap) σ7 H7 s7 → N σ7 H7 → ∃ m, m < n ∧ ∃ i σ' H', Inv X pins σ' H' s7 ∧ tn i s7.heap ∧ (∀ b ∈ fp, H' b = none) ∧ W i m σ' H' := fun {σ7 H7} I7 n7 => by
      obtain ⟨m', hm, w7⟩ := hN σ7 H7 n7
      refine ⟨m', hm, i + 1, σ7, H7, I7.unpinned, T.keep _ _ _ st5 fun b hb o e => (I7.pin (b, o) (List.mem_append_right _ (List.mem_append_right _ (mem_pinsAt hb e)))).1, fun b hb => ?_, w7⟩
      obtain ⟨o, e, d⟩ := T.obj _ _ st5 b hb
      exact (I7.pin (b, o) (List.mem_append_right _ (List.mem_append_right _ (mem_pinsAt hb e)))).2.1
    cases f with
    | next => obtain ⟨σ7, H7, I7, n7⟩ := q7; exact again I7 n7
    | cont => obtain ⟨σ7, H7, I7, n7⟩ := q7; exact again I7 n7
    | brk => obtain ⟨σ7, H7, I7, q7⟩ := q7; exact ⟨σ7, H7, I7.unpinned, q7⟩
    | ret v => obtain ⟨x7, σ7, H7, I7, r7, q7⟩ := q7; exact ⟨x7, σ7, H7, I7.unpinned, r7, q7⟩
end
theorem for_list {K : PySem.W.Frag} {a : Addr} {xs : List V} {g : TG} {tb : TS} {D : Ends} {σ : St} {H : Hp} (Pv : Nat → St → Hp → Prop) (h0 : Pv 0 σ H) (hl : ∀ i σ H, i ≤ xs.length → Pv i σ H → SqL K H a xs)
    (hs : ∀ i x σ H, xs[i]? = some x → Pv i σ H → g x σ H fun σ2 H2 => tb { D with nx := Pv (i + 1), ct := Pv (i + 1), bk := D.nx } σ2 H2) (hd : ∀ σ H, Pv xs.length σ H → D.nx σ H) :
    ∃ W : Nat → Nat → St → Hp → Prop, (∃ m, W 0 m σ H) ∧ ∀ i m σ H, W i m σ H →
      ((Itl K a).stop i H ∧ D.nx σ H) ∨ ((Itl K a).go i H ∧ ∃ N : St → Hp → Prop, (∀ σ' H', N σ' H' → ∃ m', m' < m ∧ W (i + 1) m' σ' H') ∧ ∀ x H', (Itl K a).yld i H x H' → g x σ H' fun σ2 H2 => tb { D with nx := N, ct := N, bk := D.nx } σ2 H2) := by
  refine ⟨fun i m σ H => m = xs.length - i ∧ i ≤ xs.length ∧ Pv i σ H, ⟨xs.length, by simp, Nat.zero_le _, h0⟩, ?_⟩
  rintro i m σ H ⟨rfl, hi, p⟩
  have q := hl i σ H hi p
  by_cases hlt : i < xs.length
  · refine .inr ⟨⟨xs, xs[i], q, by simp [hlt]⟩, Pv (i + 1), fun σ' H' p' => ⟨xs.length - (i + 1), by omega, rfl, hlt, p'⟩, fun x H' y => ?_⟩
    obtain ⟨e, y⟩ := y
    subst e
    exact hs i x σ _ (y xs q) p
  · have e : i = xs.length := by omega
    subst e
    exact .inl ⟨⟨xs, q, Nat.le_refl _⟩, hd σ H p⟩
theorem for_range {lo : Int} {n : Nat} {g : TG} {tb : TS} {D : Ends} {σ : St} {H : Hp} (Pv : Nat → St → Hp → Prop) (h0 : Pv 0 σ H)
    (hs : ∀ i σ H, i < n → Pv i σ H → g (.int (lo + i)) σ H fun σ2 H2 => tb { D with nx := Pv (i + 1), ct := Pv (i + 1), bk := D.nx } σ2 H2) (hd : ∀ σ H, Pv n σ H → D.nx σ H) :
    ∃ W : Nat → Nat → St → Hp → Prop, (∃ m, W 0 m σ H) ∧ ∀ i m σ H, W i m σ H →
      ((Itr lo n).stop i H ∧ D.nx σ H) ∨ ((Itr lo n).go i H ∧ ∃ N : St → Hp → Prop, (∀ σ' H', N σ' H' → ∃ m', m' < m ∧ W (i + 1) m' σ' H') ∧ ∀ x H', (Itr lo n).yld i H x H' → g x σ H' fun σ2 H2 => tb { D with nx := N, ct := N, bk := D.nx } σ2 H2) := by
  refine ⟨fun i m σ H => m = n - i ∧ i ≤ n ∧ Pv i σ H, ⟨n, by simp, Nat.zero_le _, h0⟩, ?_⟩
  rintro i m σ H ⟨rfl, hi, p⟩
  by_cases hlt : i < n
  · refine .inr ⟨hlt, Pv (i + 1), fun σ' H' p' => ⟨n - (i + 1), by omega, rfl, hlt, p'⟩, fun x H' y => ?_⟩
    obtain ⟨e, y⟩ := y
    subst e y
    exact hs i σ _ hlt p
  · have e : i = n := by omega
    subst e
    exact .inl ⟨Nat.le_refl _, hd σ H p⟩
end L2
namespace L2
open PySem PySem.Spec PyProof.Rows
abbrev R2 := V → V → Hp → VK → Prop
def OpR (X : Cx) (f : Value → Value → Sem Value) (r : R2) : Prop :=
  ∀ (pins : List (Addr × Obj)) (s : Shared) (σ : St) (H : Hp) (x y : V) (v u : Value) (Q : VK), Inv X pins σ H s → RelV x v → RelV y u → r x y H Q →
    wpAny (model X.prog X.w) X.A (f v u) (EP X pins σ Q) X.xe s
def CallR (X : Cx) (f : Value) (r : List V → Hp → VK → Prop) : Prop :=
  ∀ (pins : List (Addr × Obj)) (s : Shared) (σ : St) (H : Hp) (xs : List V) (us : List Value) (Q : VK), Inv X pins σ H s → Vals xs us → r xs H Q →
    wpAny (model X.prog X.w) X.A (call f us) (EP X pins σ Q) X.xe s
def tOp (r : R2) (ta tb : TE) : TE := fun σ H Q => ta σ H fun x H1 => tb σ H1 fun y H2 => r x y H2 Q
def rI (C : Int → Int → Prop) (g : Int → Int → V) : R2 := fun x y H Q => ∃ i j, x = .int i ∧ y = .int j ∧ C i j ∧ Q (g i j) H
def rI0 (g : Int → Int → V) : R2 := fun x y H Q => ∃ i j, x = .int i ∧ y = .int j ∧ Q (g i j) H
section
variable {X : Cx} {a b c : Expr} {ta tb tc : TE} {pos : Pos}
theorem binT (ha : PE X a ta) (hb : PE X b tb) {pins : List (Addr × Obj)} {s : Shared} {σ : St} {H : Hp} {R : V → V → Hp → Prop} (I : Inv X pins σ H s)
    (h : ta σ H fun x H1 => tb σ H1 fun y H2 => R x y H2) {Q : Value → Shared → Prop} {f : Value → Value → Sem Value}
    (hf : ∀ v u s2 x y H2, Inv X pins σ H2 s2 → RelV x v → RelV y u → R x y H2 → wpAny (model X.prog X.w) X.A (f v u) Q X.xe s2) :
    wpAny (model X.prog X.w) X.A (eval a X.env) (fun v s₁ => wpAny (model X.prog X.w) X.A (eval b X.env) (fun u s₂ => wpAny (model X.prog X.w) X.A (f v u) Q X.xe s₂) X.xe s₁) X.xe s := by
  refine thn (ha pins s σ H _ I h) fun v s1 ⟨x, H1, I1, r1, q1⟩ => ?_
  refine thn (hb pins s1 σ H1 _ I1 q1) fun u s2 ⟨y, H2, I2, r2, q2⟩ => ?_
  exact hf v u s2 x y H2 I2 r1 r2 q2
theorem pe_op {op : Operator} {r : R2} (ho : OpR X (binaryOp op) r) (ha : PE X a ta) (hb : PE X b tb) : PE X (.BinOp a op b pos) (tOp r ta tb) := by
  intro pins s σ H Q I h
  exact wpAny_BinOp (binT ha hb I h fun v u s2 x y H2 I2 rx ry q => ho pins s2 σ H2 x y v u Q I2 rx ry q)
theorem opI {f : Value → Value → Sem Value} {C : Int → Int → Prop} {g : Int → Int → Int}
    (rule : ∀ (i j : Int) (t u : Tok) (s : Shared) (Q : Value → Shared → Prop) (E : Value → Shared → Prop), C i j → Q (.int (g i j) s.toks) { s with toks := s.toks + 1 } → wpAny (model X.prog X.w) X.A (f (.int i t) (.int j u)) Q E s) :
    OpR X f (rI C fun i j => .int (g i j)) := by
  intro pins s σ H x y v u Q I rx ry h
  obtain ⟨i, j, rfl, rfl, hc, q⟩ := h
  obtain ⟨t, rfl⟩ := rx
  obtain ⟨t', rfl⟩ := ry
  exact rule i j t t' s _ _ hc ⟨.int (g i j), H, I.tok _, ⟨_, rfl⟩, q⟩
theorem opI0 {f : Value → Value → Sem Value} {g : Int → Int → Int}
    (rule : ∀ (i j : Int) (t u : Tok) (s : Shared) (Q : Value → Shared → Prop) (E : Value → Shared → Prop), Q (.int (g i j) s.toks) { s with toks := s.toks + 1 } → wpAny (model X.prog X.w) X.A (f (.int i t) (.int j u)) Q E s) :
    OpR X f (rI0 fun i j => .int (g i j)) := by
  intro pins s σ H x y v u Q I rx ry h
  obtain ⟨i, j, rfl, rfl, q⟩ := h
  obtain ⟨t, rfl⟩ := rx
  obtain ⟨t', rfl⟩ := ry
  exact rule i j t t' s _ _ ⟨.int (g i j), H, I.tok _, ⟨_, rfl⟩, q⟩
theorem opB0 {f : Value → Value → Sem Value} {g : Int → Int → Bool}
    (rule : ∀ (i j : Int) (t u : Tok) (s : Shared) (Q : Value → Shared → Prop) (E : Value → Shared → Prop), Q (.bool (g i j)) s → wpAny (model X.prog X.w) X.A (f (.int i t) (.int j u)) Q E s) :
    OpR X f (rI0 fun i j => .bl (g i j)) := by
  intro pins s σ H x y v u Q I rx ry h
  obtain ⟨i, j, rfl, rfl, q⟩ := h
  obtain ⟨t, rfl⟩ := rx
  obtain ⟨t', rfl⟩ := ry
  exact rule i j t t' s _ _ ⟨.bl (g i j), H, I, rfl, q⟩
def CDiv (i j : Int) : Prop := 0 < j ∧ j < 1073741824
def CPow (i j : Int) : Prop := 0 ≤ j ∧ j ≤ 1000000 ∧ i.natAbs < 2 ^ 64
def CMul (i j : Int) : Prop := (-(2 ^ 64) < i ∧ i < 2 ^ 64) ∨ (-(2 ^ 64) < j ∧ j < 2 ^ 64)
theorem CMul.ok {i j : Int} (h : CMul i j) : IntMulOk i j := by
  rcases h with ⟨h1, h2⟩ | ⟨h1, h2⟩
  · exact .of_left (intBits_le_64 h1 h2)
  · exact .of_right (intBits_le_64 h1 h2)
theorem op_add : OpR X (binaryOp .Add) (rI0 fun i j => .int (i + j)) := opI0 fun _ _ _ _ _ _ _ q => add_int q
theorem op_mul : OpR X (binaryOp .Mult) (rI CMul fun i j => .int (i * j)) := opI fun _ _ _ _ _ _ _ hc q => mul_int q hc.ok
theorem op_fdiv : OpR X (binaryOp .FloorDiv) (rI CDiv fun i j => .int (i / j)) := opI fun i j _ _ _ _ _ hc q => by
  have h1 : (0 : Int) < j := hc.1
  have h2 : j < 1073741824 := hc.2
  exact floordiv_int (by omega) (by rw [Int.fdiv_eq_ediv_of_nonneg i (by omega)]; exact q) (.inl (PyProof.noPylong_small (by omega)))
theorem op_mod : OpR X (binaryOp .Mod) (rI (fun _ j => 0 < j) fun i j => .int (i % j)) := opI fun i j _ _ _ _ _ hc q => by
  have h1 : (0 : Int) < j := hc
  exact mod_int' (by omega) (by rw [Int.fmod_eq_emod_of_nonneg i (by omega)]; exact q)
theorem op_pow : OpR X (binaryOp .Pow) (rI CPow fun i j => .int (i ^ j.toNat)) := opI fun _ _ _ _ _ _ _ hc q => pow_int_small hc.1 hc.2.1 hc.2.2 q
end
def scal : V → V → Bool
  | .non, .non => true | .non, .int _ => true | .int _, .non => true | .non, .bl _ => true | .bl _, .non => true | .non, .str _ => true | .str _, .non => true
  | .int _, .int _ => true | .bl _, .bl _ => true | .str _, .str _ => true | .byt _, .byt _ => true
  | .int _, .str _ => true | .str _, .int _ => true | .bl _, .str _ => true | .str _, .bl _ => true
  | _, _ => false
def rEq : R2 := fun x y H Q => scal x y = true ∧ Q (.bl (decide (x = y))) H
def rNe : R2 := fun x y H Q => scal x y = true ∧ Q (.bl (!decide (x = y))) H
theorem dec_int {i j : Int} : decide (V.int i = V.int j) = (i == j) := by
  rw [Bool.eq_iff_iff]
  simp
theorem dec_bl {i j : Bool} : decide (V.bl i = V.bl j) = (i == j) := by
  rw [Bool.eq_iff_iff]
  simp
theorem dec_str {i j : Str} : decide (V.str i = V.str j) = (i == j) := by
  rw [Bool.eq_iff_iff]
  simp
theorem dec_byt {i j : Array UInt8} : decide (V.byt i = V.byt j) = (i.toList == j.toList) := by
  rw [Bool.eq_iff_iff]
  cases i
  cases j
  simp
section
variable {X : Cx} {a b c : Expr} {ta tb tc : TE} {pos : Pos}
theorem fin_bl {pins : List (Addr × Obj)} {σ : St} {H : Hp} {s : Shared} {Q : VK} {k k' : Bool} (I : Inv X pins σ H s) (q : Q (.bl k) H) (e : k = k') : EP X pins σ Q (.bool k') s := by
  subst e
  exact ⟨.bl k, H, I, rfl, q⟩
theorem op_eq : OpR X (compareOp .Eq) rEq := by
  intro pins s σ H x y v u Q I rx ry h
  obtain ⟨hs, q⟩ := h
  cases x with
  | non =>
    cases rx
    cases y with
    | non => cases ry; exact PySem.EqNone.eq_none_none (fin_bl I q (by simp))
    | bl j => cases ry; exact PySem.EqNone.eq_none_bool (fin_bl I q (by simp))
    | int j => obtain ⟨t', rfl⟩ := ry; exact PySem.EqNone.eq_none_int (fin_bl I q (by simp))
    | str j => obtain ⟨t', rfl⟩ := ry; exact PySem.EqNone.eq_none_str (fin_bl I q (by simp))
    | _ => exact absurd (show false = true from hs) Bool.false_ne_true
  | bl i =>
    cases rx
    cases y with
    | non => cases ry; exact PySem.EqNone.eq_bool_none (fin_bl I q (by simp))
    | bl j => cases ry; exact eq_bool (fin_bl I q dec_bl)
    | str j => obtain ⟨t', rfl⟩ := ry; exact PySem.EqMixed.eq_bool_str (fin_bl I q (by simp))
    | _ => exact absurd (show false = true from hs) Bool.false_ne_true
  | int i =>
    obtain ⟨t, rfl⟩ := rx
    cases y with
    | non => cases ry; exact PySem.EqNone.eq_int_none (fin_bl I q (by simp))
    | int j => obtain ⟨t', rfl⟩ := ry; exact eq_int (fin_bl I q dec_int)
    | str j => obtain ⟨t', rfl⟩ := ry; exact PySem.EqMixed.eq_int_str (fin_bl I q (by simp))
    | _ => exact absurd (show false = true from hs) Bool.false_ne_true
  | str i =>
    obtain ⟨t, rfl⟩ := rx
    cases y with
    | non => cases ry; exact PySem.EqNone.eq_str_none (fin_bl I q (by simp))
    | bl j => cases ry; exact PySem.EqMixed.eq_str_bool (fin_bl I q (by simp))
    | int j => obtain ⟨t', rfl⟩ := ry; exact PySem.EqMixed.eq_str_int (fin_bl I q (by simp))
    | str j => obtain ⟨t', rfl⟩ := ry; exact eq_str (fin_bl I q dec_str)
    | _ => exact absurd (show false = true from hs) Bool.false_ne_true
  | byt i =>
    obtain ⟨t, rfl⟩ := rx
    cases y with
    | byt j => obtain ⟨t', rfl⟩ := ry; exact PySem.W.eq_bytes (fin_bl I q dec_byt)
    | _ => exact absurd (show false = true from hs) Bool.false_ne_true
  | _ => cases y <;> exact absurd (show false = true from hs) Bool.false_ne_true
theorem op_ne : OpR X (compareOp .NotEq) rNe := by
  intro pins s σ H x y v u Q I rx ry h
  obtain ⟨hs, q⟩ := h
  cases x with
  | non =>
    cases rx
    cases y with
    | non => cases ry; exact PySem.EqNone.ne_none_none (fin_bl I q (by simp))
    | bl j => cases ry; exact PySem.EqNone.ne_none_bool (fin_bl I q (by simp))
    | int j => obtain ⟨t', rfl⟩ := ry; exact PySem.EqNone.ne_none_int (fin_bl I q (by simp))
    | str j => obtain ⟨t', rfl⟩ := ry; exact PySem.EqNone.ne_none_str (fin_bl I q (by simp))
    | _ => exact absurd (show false = true from hs) Bool.false_ne_true
  | bl i =>
    cases rx
    cases y with
    | non => cases ry; exact PySem.EqNone.ne_bool_none (fin_bl I q (by simp))
    | bl j => cases ry; exact ne_bool (fin_bl I q (congrArg not dec_bl))
    | str j => obtain ⟨t', rfl⟩ := ry; exact PySem.EqMixed.ne_bool_str (fin_bl I q (by simp))
    | _ => exact absurd (show false = true from hs) Bool.false_ne_true
  | int i =>
    obtain ⟨t, rfl⟩ := rx
    cases y with
    | non => cases ry; exact PySem.EqNone.ne_int_none (fin_bl I q (by simp))
    | int j => obtain ⟨t', rfl⟩ := ry; exact ne_int (fin_bl I q (congrArg not dec_int))
    | str j => obtain ⟨t', rfl⟩ := ry; exact PySem.EqMixed.ne_int_str (fin_bl I q (by simp))
    | _ => exact absurd (show false = true from hs) Bool.false_ne_true
  | str i =>
    obtain ⟨t, rfl⟩ := rx
    cases y with
    | non => cases ry; exact PySem.EqNone.ne_str_none (fin_bl I q (by simp))
    | bl j => cases ry; exact PySem.EqMixed.ne_str_bool (fin_bl I q (by simp))
    | int j => obtain ⟨t', rfl⟩ := ry; exact PySem.EqMixed.ne_str_int (fin_bl I q (by simp))
    | str j => obtain ⟨t', rfl⟩ := ry; exact ne_str (fin_bl I q (congrArg not dec_str))
    | _ => exact absurd (show false = true from hs) Bool.false_ne_true
  | byt i =>
    obtain ⟨t, rfl⟩ := rx
    cases y with
    | byt j => obtain ⟨t', rfl⟩ := ry; exact PySem.W.ne_bytes (fin_bl I q (congrArg not dec_byt))
    | _ => exact absurd (show false = true from hs) Bool.false_ne_true
  | _ => cases y <;> exact absurd (show false = true from hs) Bool.false_ne_true
theorem op_ge : OpR X (compareOp .GtE) (rI0 fun i j => .bl (decide (j ≤ i))) := opB0 fun _ _ _ _ _ _ _ q => ge_int q
theorem nomark (b : Expr) {op : CmpOp} (h : op ≠ .In := by decide) (h2 : op ≠ .NotIn := by decide) : behindInMarks op b = false := by
  have e1 : (op == CmpOp.In) = false := by cases op <;> first | rfl | exact absurd rfl h
  have e2 : (op == CmpOp.NotIn) = false := by cases op <;> first | rfl | exact absurd rfl h2
  cases b <;> simp [behindInMarks, e1, e2]
theorem pe_cmpR {op : CmpOp} {r : R2} (ho : OpR X (compareOp op) r) (ha : PE X a ta) (hb : PE X b tb) (hm : behindInMarks op b = false) : PE X (.Compare a [op] [b] pos) (tOp r ta tb) := by
  intro pins s σ H Q I h
  exact wpAny_Compare1 (binT ha hb I h fun v u s2 x y H2 I2 rx ry q => ho pins s2 σ H2 x y v u Q I2 rx ry q) hm
def tTest (t : TE) : TT := fun σ H Q => t σ H fun x H' => ∃ k, x = .bl k ∧ Q k H'
theorem pt_cmpR {op : CmpOp} {r : R2} (ho : OpR X (compareOp op) r) (ha : PE X a ta) (hb : PE X b tb) (hm : behindInMarks op b = false) : PT X (.Compare a [op] [b] pos) (tTest (tOp r ta tb)) := by
  intro pins s σ H Q I h
  refine wpAny_isTrue_Compare1 (thn (ha pins s σ H _ I h) fun v s1 ⟨x, H1, I1, r1, q1⟩ => thn (hb pins s1 σ H1 _ I1 q1) fun u s2 ⟨y, H2, I2, r2, q2⟩ =>
    thn (ho pins s2 σ H2 x y v u _ I2 r1 r2 q2) fun c s3 ⟨z, H3, I3, r3, k, e, q3⟩ => ?_) hm
  subst e
  cases r3
  exact wpAny_truthy_bool ⟨H3, I3, q3⟩
theorem line63 : (sizeLine : Nat) < 2 ^ 63 := by rw [sizeLine_eq]; decide
theorem vals1 {x : V} {us : List Value} (r : Vals [x] us) : ∃ u, us = [u] ∧ RelV x u := by
  cases r with
  | cons r1 r2 => cases r2; exact ⟨_, rfl, r1⟩
theorem vals2 {x y : V} {us : List Value} (r : Vals [x, y] us) : ∃ u w', us = [u, w'] ∧ RelV x u ∧ RelV y w' := by
  cases r with
  | cons r1 r2 =>
    cases r2 with
    | cons r3 r4 => cases r4; exact ⟨_, _, rfl, r1, r3⟩
theorem call_int1 : CallR X (.type "int") (fun xs H Q => (∃ i, xs = [.int i] ∧ Q (.int i) H) ∨ ∃ k, xs = [.bl k] ∧ Q (.int (if k then 1 else 0)) H) := by
  intro pins s σ H xs us Q I r h
  rcases h with ⟨i, rfl, q⟩ | ⟨k, rfl, q⟩
  · obtain ⟨u, rfl, t, rfl⟩ := vals1 r
    exact call_int_int ⟨.int i, H, I, ⟨_, rfl⟩, q⟩
  · obtain ⟨u, rfl, r1⟩ := vals1 r
    cases r1
    exact call_int_bool ⟨.int (if k then 1 else 0), H, I.tok _, ⟨_, rfl⟩, q⟩
theorem call_divmod : CallR X (.builtin "divmod") (fun xs H Q => ∃ i j, xs = [.int i, .int j] ∧ CDiv i j ∧ ∀ p, H p = none → Q (.ref p) (upd H p (.tup [.int (i / j), .int (i % j)]))) := by
  intro pins s σ H xs us Q I r h
  obtain ⟨i, j, rfl, ⟨h1, h2⟩, q⟩ := h
  obtain ⟨u, w', rfl, ⟨t, rfl⟩, ⟨t', rfl⟩⟩ := vals2 r
  refine divmod_int (by omega) ?_ (.inl (PyProof.noPylong_small (by omega)))
  rw [Int.fdiv_eq_ediv_of_nonneg i (by omega), Int.fmod_eq_emod_of_nonneg i (by omega)]
  have hn : H s.heap.objs.size = none := I.hok.fresh (Nat.le_refl _)
  refine ⟨.ref s.heap.objs.size, _, ?_, rfl, q _ hn⟩
  refine I.laid (fun b o e => Heap.get?_push_of_some _ e) (Nat.le_refl _) ⟨by simp only [List.length_cons, List.length_nil]; rw [sizeLine_eq]; decide, [.int (i / j) s.toks, .int (i % j) (s.toks + 1)], .cons ⟨_, rfl⟩ (.cons ⟨_, rfl⟩ .nil), ?_⟩
  exact ⟨_, Heap.get?_push_size s.heap rfl, rfl, 0, rfl⟩
end
end L2
namespace L2
open PySem PySem.Spec PyProof.Rows
structure ObjM (h : Heap) (x dx C : Addr) (mA : Str → Option Value) : Prop where
  obj : h.get? x = some (PySem.W.instObj C dx)
  ns : h.Ns1 dx mA
  ne : dx ≠ x
theorem lookIn_ns {h : Heap} {dx : Addr} {mA : Str → Option Value} (n : h.Ns1 dx mA) : ∃ od, h.get? dx = some od ∧ ∀ name, PySem.W.lookIn name od = some (mA name) := by
  obtain ⟨o, es, ep, ho, hd, hk, _, hm⟩ := n
  refine ⟨o, ho, fun name => ?_⟩
  have e := hm name
  unfold nsFind findBy at e
  rw [← Array.find?_toList] at e
  unfold PySem.W.lookIn
  rw [hd]
  dsimp only
  split
  · rename_i y q
    rw [q] at e
    exact congrArg some e
  · rename_i q
    rw [q] at e
    have a : es.toList.any (·.refKey) = false := by
      rw [List.any_eq_false]
      intro y hy
      obtain ⟨z, t, hkey⟩ := hk y (Array.mem_toList_iff.mp hy)
      simp [DictEntry.refKey, hkey]
    have a' : ¬ es.toList.any (·.refKey) = true := by rw [a]; exact Bool.false_ne_true
    rw [if_neg a']
    exact congrArg some e
theorem ObjM.look {h : Heap} {x dx C : Addr} {mA : Str → Option Value} (I : ObjM h x dx C mA) : ∃ od, PySem.W.InstAt h x (PySem.W.instObj C dx) C (some od) ∧ ∀ name, PySem.W.lookIn name od = some (mA name) :=
  let ⟨od, ho, hl⟩ := lookIn_ns I.ns
  ⟨od, ⟨I.obj, rfl, rfl, ho⟩, hl⟩
section
variable {prog : Program} {w : World} {A : Around} {E : Value → Shared → Prop} {s : Shared} {K : PySem.W.Frag} {x dx C f : Addr} {mA : Str → Option Value} {name : Str} {v : Value}
end
theorem RelO.some_of {v : V} {o : Option Value} (r : RelO (some v) o) : ∃ u, o = some u ∧ RelV v u := by
  cases o with
  | none => exact (show False from r).elim
  | some u => exact ⟨u, rfl, r⟩
section
variable {P : Program} {w : World} {H H' : Hp} {h h' : Heap} {a C dx : Addr} {fs fs' : List (Str × V)}
theorem ins_get (hok : HOk P w H h) (e : H a = some (.ins C dx fs)) : ∃ mA, ObjM h a dx C mA ∧ (∀ f, RelO (fs.lookup f) (mA f)) ∧ PySem.Within mA (fs.map (·.1)) ∧ fs.length ≤ 1000 ∧ H dx = some (.own a) := by
  obtain ⟨d, z, ne, ob, mA, n, r, q⟩ := (show ObjOk P w H h a (.ins C dx fs) from hok a _ e)
  exact ⟨mA, ⟨ob, n, ne⟩, r, q, z, d⟩
end
structure Cls (K : PySem.W.Frag) (C : Addr) : Prop where
  pg : PySem.W.plainGet K C Str.empty = true
  hd : PySem.W.hasDictIn K C = true
  po : PySem.W.plainOver K C = true
  sa : PySem.W.findIn K (.ref C) "__setattr__" = some (some (.builtin "object.__setattr__"))
theorem Cls.get {K : PySem.W.Frag} {C : Addr} (c : Cls K C) (f : Str) : PySem.W.plainGet K C f = true := c.pg
structure Con (K : PySem.W.Frag) (C : Addr) (f : Str) (v : V) (u : Value) : Prop where
  at_ : PySem.W.findIn K (.ref C) f = some (some u)
  rel : RelV v u
  get : PySem.W.specialIn K u "__get__" = some none
  cp : PySem.W.copiedNames.contains f = false
structure Meth (K : PySem.W.Frag) (C : Addr) (m : Str) (f : Addr) : Prop where
  at_ : PySem.W.findIn K (.ref C) m = some (some (.ref f))
  fn : PySem.W.isFn K (.ref f) = true
  kp : PySem.W.keepIn K (.ref f) = true
section
variable {X : Cx} {pins : List (Addr × Obj)} {σ : St} {H : Hp} {s : Shared} {a C dx : Addr} {fs : List (Str × V)} {f : Str} {v : V} {A : Around} {E : Value → Shared → Prop}
end
section
variable {X : Cx} {o e value : Expr} {f : Str} {pos pos' tpos : Pos} {ta tv : TE}
end
section
variable {X : Cx} {pins : List (Addr × Obj)} {σ : St} {H : Hp} {s : Shared} {A : Around} {E : Value → Shared → Prop} {Q : Value → Shared → Prop} {c : Value} {b : Bool}
inductive TyOf (K : PySem.W.Frag) (H : Hp) : V → Value → Prop where
  | non : TyOf K H .non (.type "NoneType")
  | bl (x : Bool) : TyOf K H (.bl x) (.type "bool")
  | int (i : Int) : TyOf K H (.int i) (.type "int")
  | str (x : Str) : TyOf K H (.str x) (.type "str")
  | flt (x : UInt64) : TyOf K H (.flt x) (.type "float")
  | lst {a : Addr} {xs : List V} (e : H a = some (.lst xs)) : TyOf K H (.ref a) (.type "list")
  | frz {a : Addr} {o : Obj} {xs : List V} (e : H a = some (.frz o (.lst xs))) : TyOf K H (.ref a) (.type "list")
  | tup {a : Addr} {xs : List V} (e : H a = some (.tup xs)) : TyOf K H (.ref a) (.type "tuple")
  | dK {a : Addr} {kvs : List (Key × V)} (e : H a = some (.dK kvs)) : TyOf K H (.ref a) (.type "dict")
  | dT {a : Addr} {kvs : List (List Key × V)} (e : H a = some (.dT kvs)) : TyOf K H (.ref a) (.type "dict")
  | ins {a C dx : Addr} {fs : List (Str × V)} (e : H a = some (.ins C dx fs)) (cl : Cls K C) (ha : PySem.W.findIn K (.ref C) "__class__" = some (some (.builtin "object.__class__")))
      (hn : PySem.W.specialIn K (.builtin "object.__class__") "__get__" = some (some (.builtin "getset_descriptor.__get__"))) (htk : PySem.W.takesIn K (.builtin "object.__class__") = some true)
      (hm : PySem.W.mroIn K C (.type "object") = some true) : TyOf K H (.ref a) (.ref C)
theorem isinst_ok {x : V} {u t : Value} (I : Inv X pins σ H s) (rx : RelV x u) (ty : TyOf X.K H x t) (e : PySem.W.kitOne X.K t c = some b) (h : ∀ tk, Q (.bool b) { s with toks := tk }) :
    wpAny (model X.prog X.w) A (call (.builtin "isinstance") [u, c]) Q E s := by
  cases ty with
  | non => cases (show u = Value.none from rx); exact PySem.W.kia_one PySem.W.kitx_none I.kIn True.intro e (fun z => nomatch z) h
  | bl y => cases (show u = Value.bool y from rx); exact PySem.W.kia_one PySem.W.kitx_bool I.kIn True.intro e (fun z => nomatch z) h
  | int i => obtain ⟨t, q⟩ := (show ∃ t, u = Value.int i t from rx); cases q; exact PySem.W.kia_one PySem.W.kitx_int I.kIn True.intro e (fun z => nomatch z) h
  | str y => obtain ⟨t, q⟩ := (show ∃ t, u = Value.str y t from rx); cases q; exact PySem.W.kia_one PySem.W.kitx_str I.kIn True.intro e (fun z => nomatch z) h
  | flt y => obtain ⟨t, q⟩ := (show ∃ t, u = Value.float y t from rx); cases q; exact PySem.W.kia_one PySem.W.kitx_float I.kIn True.intro e (fun z => nomatch z) h
  | @lst a xs ea =>
    cases (show u = Value.ref a from rx)
    obtain ⟨_, _, n, _, h1⟩ := (show ObjOk X.prog X.w H s.heap a (.lst xs) from I.hok a _ ea)
    exact PySem.W.kia_one PySem.W.kitx_list I.kIn ⟨_, h1, rfl⟩ e (fun z => nomatch z) h
  | @frz a ob xs ea =>
    cases (show u = Value.ref a from rx)
    obtain ⟨_, _, _, n, _, h1⟩ := (show ObjOk X.prog X.w H s.heap a (.frz ob (.lst xs)) from I.hok a _ ea)
    exact PySem.W.kia_one PySem.W.kitx_list I.kIn ⟨_, h1, rfl⟩ e (fun z => nomatch z) h
  | @tup a xs ea =>
    cases (show u = Value.ref a from rx)
    obtain ⟨_, _, _, p⟩ := (show ObjOk X.prog X.w H s.heap a (.tup xs) from I.hok a _ ea)
    obtain ⟨o, h1, h2, _⟩ := p
    exact PySem.W.kia_one PySem.W.kitx_tuple I.kIn ⟨o, h1, h2⟩ e (fun z => nomatch z) h
  | @dK a kvs ea =>
    cases (show u = Value.ref a from rx)
    obtain ⟨_, _, vs, _, p⟩ := (show ObjOk X.prog X.w H s.heap a (.dK kvs) from I.hok a _ ea)
    obtain ⟨o, es, ep, h1, h2, _⟩ := p
    exact PySem.W.kia_one PySem.W.kitx_dict I.kIn ⟨o, h1, h2.1⟩ e (fun z => nomatch z) h
  | @dT a kvs ea =>
    cases (show u = Value.ref a from rx)
    obtain ⟨_, _, xs, _, o, es, ep, h1, h2, _⟩ := (show ObjOk X.prog X.w H s.heap a (.dT kvs) from I.hok a _ ea)
    exact PySem.W.kia_one PySem.W.kitx_dict I.kIn ⟨o, h1, h2.1⟩ e (fun z => nomatch z) h
  | @ins a C dx fs ea cl ha hn htk hm =>
    cases (show u = Value.ref a from rx)
    obtain ⟨mA, O, _⟩ := ins_get I.hok ea
    obtain ⟨od, J, _⟩ := O.look
    exact PySem.W.kia_one (PySem.W.kitx_own (cl.get _) cl.hd ha hn htk hm) I.kIn J e (fun z => nomatch z) h
end
end L2
namespace L2
open PySem PySem.Spec PyProof.Rows
structure Room (k : Nat) (A : Around) : Prop where
  hd : A.handled = none
  dp : A.depth + 3 * k + 5 < recursionLimit
  un : A.units + 16 * k + 200 < cLine
theorem Room.mono {j k : Nat} {A : Around} (r : Room k A) (h : j ≤ k) : Room j A := ⟨r.hd, by have := r.dp; omega, by have := r.un; omega⟩
theorem Room.deeper {k : Nat} {A : Around} (r : Room (k + 1) A) (env : Env) : Room k (A.deeper env) :=
  ⟨r.hd, by have := r.dp; show A.depth + 1 + 3 * k + 5 < _; omega, by have := r.un; show A.units + 3 + 16 * k + 200 < _; omega⟩
theorem Room.depth {k : Nat} {A : Around} (r : Room k A) : A.depth < recursionLimit := by have := r.dp; omega
theorem Room.units {k : Nat} {A : Around} (r : Room k A) : A.units + 64 < cLine := by have := r.un; omega
theorem Room.units0 {k : Nat} {A : Around} (r : Room k A) : A.units < cLine := by have := r.un; omega
def tNil : TA := fun _ H Q => Q [] H
def tCons (ta : TE) (tr : TA) : TA := fun σ H Q => ta σ H fun x H1 => tr σ H1 fun xs H2 => Q (x :: xs) H2
section
variable {X : Cx} {e : Expr} {es : List Expr} {te : TE} {t : TA} {pos : Pos}
theorem pa_nil : PA X [] tNil := fun _ _ _ _ H Q I h => Calls.spliced_nil ⟨[], H, I, .nil, h⟩
theorem pa_cons (ha : PE X e te) (hr : PA X es t) (hs : starEach (e :: es) X.env = (false, eval e X.env) :: starEach es X.env := by rfl) : PA X (e :: es) (tCons te t) := by
  intro pos pins s σ H Q I h
  rw [hs]
  show wpAny _ _ (spliced ((false, eval e X.env) :: backTo pos (starEach es X.env))) _ _ s
  refine Calls.spliced_cons (thn (ha pins s σ H _ I h) fun u s1 ⟨x, H1, I1, r1, q1⟩ => ?_)
  exact thn (hr pos pins s1 σ H1 _ I1 q1) fun us s2 ⟨xs, H2, I2, r2, q2⟩ => ⟨x :: xs, H2, I2, .cons r1 r2, q2⟩
def tTup (t : TA) : TE := fun σ H Q => t σ H fun xs H1 => xs.length ≤ sizeLine ∧ ∀ p, H1 p = none → Q (.ref p) (upd H1 p (.tup xs))
def tLst (t : TA) : TE := fun σ H Q => t σ H fun xs H1 => xs.length ≤ sizeLine ∧ ∀ p, H1 p = none → Q (.ref p) (upd H1 p (.lst xs))
theorem pe_tup {x1} (h : PA X es t) : PE X (.Tuple es x1 pos) (tTup t) := by
  intro pins s σ H Q I hq
  refine wpAny_Tuple_spliced (thn (h pos pins s σ H _ I hq) fun us s1 ⟨xs, H1, I1, r, z, q⟩ => ⟨by rw [← r.length]; exact z, ?_⟩)
  have hf : H1 s1.heap.objs.size = none := I1.hok.fresh (Nat.le_refl _)
  refine ⟨.ref s1.heap.objs.size, upd H1 s1.heap.objs.size (.tup xs), I1.laid (t' := s1.toks) (fun b u e => Heap.get?_push_of_some _ e) (Nat.le_refl _) ?_, rfl, q _ hf⟩
  exact ⟨z, us, r, ⟨_, Heap.get?_push_size _ rfl, rfl, _, rfl⟩⟩
theorem pe_lst (h : PA X es t) : PE X (.List es pos) (tLst t) := by
  intro pins s σ H Q I hq
  refine wpAny_List_spliced (thn (h pos pins s σ H _ I hq) fun us s1 ⟨xs, H1, I1, r, z, q⟩ => ⟨by rw [← r.length]; exact z, ?_⟩)
  have hf : H1 s1.heap.objs.size = none := I1.hok.fresh (Nat.le_refl _)
  refine ⟨.ref s1.heap.objs.size, upd H1 s1.heap.objs.size (.lst xs), I1.laid (t' := s1.toks) (fun b u e => Heap.get?_push_of_some _ e) (Nat.le_refl _) ?_, rfl, q _ hf⟩
  exact ⟨z, us, 0, r, Heap.get?_push_size _ rfl⟩
end
abbrev Sp := List V → Hp → VK → XK → Prop
abbrev CXT := List Env → Hp → Shared → XK → Value → Shared → Prop
structure Env0 (P : Program) (w : World) (K : PySem.W.Frag) (mg : Str → Option Value) (base : Heap) (A : Around) (outer : List Env) (s : Shared) (H : Hp) : Prop where
  frames : A.frames = some outer
  mod : Mod K mg base
  bs : ∀ b o, base.get? b = some o → s.heap.get? b = some o ∧ H b = none
  bsz : base.objs.size ≤ s.heap.objs.size
  funs : s.heap.FunFrames base outer
  frf : ∀ b ∈ frs outer, H b = none
  hok : HOk P w H s.heap
  bare : AllBare s.gens
def CE (outer : List Env) (P : Program) (w : World) (H : Hp) (s : Shared) (Q : VK) (u : Value) (s' : Shared) : Prop :=
  ∃ v H', s'.os = s.os ∧ AllBare s'.gens ∧ Un (frs outer) [] H H' s.heap s'.heap ∧ HOk P w H' s'.heap ∧ RelV v u ∧ Q v H'
def CR (CX : CXT) (outer : List Env) (P : Program) (w : World) (H : Hp) (s : Shared) (Q : VK) (E : XK) (r : Result) (s' : Shared) : Prop :=
  match r with
  | .ok (.ret u) => CE outer P w H s Q u s'
  | .ok _ => False
  | .error e => CX outer H s E e s'
structure FnOk (P : Program) (w : World) (K : PySem.W.Frag) (mg : Str → Option Value) (base : Heap) (CX : CXT) (k : Nat) (f : Addr) (fd : FuncData) (ps : List Str) (sp : Sp) : Prop where
  len : ∀ vs H Q E, sp vs H Q E → vs.length = ps.length
  run : ∀ (A : Around) (outer : List Env) (s : Shared) (H : Hp) (args : Args) (us : List Value) (vs : List V) (Q : VK) (E : XK), Room k A → Env0 P w K mg base A outer s H → BindsTo s fd args (ps.zip us) → Vals vs us → sp vs H Q E →
    codeAny (model P w) A (.call (.ref f) args) (CR CX outer P w H s Q E) s
section
variable {X : Cx} {pins : List (Addr × Obj)} {σ : St} {H : Hp} {s s' : Shared}
theorem Inv.env0 (I : Inv X pins σ H s) : Env0 X.prog X.w X.K X.mg X.base X.A X.stack s H :=
  ⟨I.ok.frames, I.ok.mod, I.bs, Nat.le_trans I.ok.bsz I.sz, I.stack, I.stkFree, I.hok, I.bare⟩
theorem Inv.after {Q : VK} {u : Value} (I : Inv X pins σ H s) (h : CE X.stack X.prog X.w H s Q u s') : EP X pins σ Q u s' := by
  obtain ⟨v, H', os, bare, un, hok, r, q⟩ := h
  obtain ⟨hh, g, d, t, os'⟩ := s'
  obtain rfl : os' = s.os := os
  exact ⟨v, H', I.call (h' := hh) (g' := g) (d' := d) (t' := t) (ch := []) un hok bare (fun b z => absurd z (by simp)), r, q⟩
end
def tCall (sp : Sp) (dvs : List V) (E : XK) (t : TA) : TE := fun σ H Q => t σ H fun vs H1 => sp (vs ++ dvs) H1 Q E
def Binds (K : PySem.W.Frag) (fd : FuncData) (ps : List Str) (ds : List Value) : Prop :=
  ∀ (s : Shared) (us : List Value), K.In s.heap → (us ++ ds).length = ps.length → BindsTo s fd ⟨us, []⟩ (ps.zip (us ++ ds))
theorem Binds.all {K : PySem.W.Frag} {fd : FuncData} {ps : List Str} (h : ∀ us : List Value, us.length = ps.length → bindArgs fd ⟨us, []⟩ = pure (ps.zip us)) : Binds K fd ps [] := fun s us _ hl => by
  rw [List.append_nil] at hl ⊢
  exact .of_eq (h us hl)
def Passes (CX : CXT) (X : Cx) (E : XK) : Prop := ∀ (pins : List (Addr × Obj)) (σ : St) (H : Hp) (s : Shared) (e : Value) (s' : Shared), Inv X pins σ H s → CX X.stack H s E e s' → X.xe e s'
section
variable {X : Cx} {CX : CXT} {k : Nat} {f C : Addr} {fd : FuncData} {ps : List Str} {sp : Sp} {dvs : List V} {ds : List Value} {E : XK} {x m : Str} {p pos apos : Pos} {e o : Expr} {es : List Expr} {ta : TE} {t : TA}
theorem run_fn {pins : List (Addr × Obj)} {σ : St} {H : Hp} {s : Shared} {Q : VK} {us : List Value} {vs : List V} (F : FnOk X.prog X.w X.K X.mg X.base CX k f fd ps sp) (hr : Room k X.A) (hb : Binds X.K fd ps ds) (hd : Vals dvs ds) (hx : Passes CX X E)
    (I : Inv X pins σ H s) (r : Vals vs us) (h : sp (vs ++ dvs) H Q E) : wpAny (model X.prog X.w) X.A (call (.ref f) us) (EP X pins σ Q) X.xe s := by
  have r2 : Vals (vs ++ dvs) (us ++ ds) := r.append hd
  have hl : (us ++ ds).length = ps.length := by rw [← r2.length]; exact F.len _ _ _ _ h
  refine wpAny_call (codeAny_mono (F.run X.A X.stack s H ⟨us, []⟩ (us ++ ds) (vs ++ dvs) Q E hr I.env0 (hb s us I.kIn hl) r2 h) fun r s' hq => ?_)
  cases r with
  | error e => exact hx pins σ H s e s' I hq
  | ok fl =>
    cases fl with
    | ret u => exact I.after hq
    | next => exact False.elim hq
    | brk => exact False.elim hq
    | cont => exact False.elim hq
theorem pe_call (F : FnOk X.prog X.w X.K X.mg X.base CX k f fd ps sp) (hr : Room k X.A) (hg : Gl X x) (hm : X.mg x = some (.ref f)) (hk : PySem.W.keepIn X.K (.ref f) = true) (hb : Binds X.K fd ps ds) (hd : Vals dvs ds) (hx : Passes CX X E)
    (ha : PA X (e :: es) t) (hdb : (x == ("__debug__" : Str)) = false := by decide) (he : starEach (e :: es) X.env = (false, eval e X.env) :: starEach es X.env := by rfl) (hpl : (backTo pos (starEach es X.env)).any (·.1) = false := by rfl) :
    PE X (.Call (.Name x p) (e :: es) [] pos) (tCall sp dvs E t) := by
  intro pins s σ H Q I h
  refine wpAny_Call_Name_kw (ld_glob I hg hm ?_ hdb)
  refine PySem.W.callWith_K (h₀ := X.base) I.ok.mod.kin hk (thn (ha pos pins s σ H _ I h) fun us s1 ⟨vs, H1, I1, r, q⟩ => ⟨I1.kIn, ?_⟩) he hpl
  exact run_fn F hr hb hd hx I1 r q
structure Mk (K : PySem.W.Frag) (C f : Addr) : Prop where
  makes : PySem.W.makesIn K C = true
  init : PySem.W.findIn K (.ref C) "__init__" = some (some (.ref f))
  fn : PySem.W.isFn K (.ref f) = true
  kp : PySem.W.keepIn K (.ref C) = true
end
section
variable {X : Cx} {CX : CXT} {k : Nat} {f C : Addr} {fd : FuncData} {ps ks : List Str} {sp : Sp} {E : XK} {x m : Str} {p pos apos kpos : Pos} {e o : Expr} {es : List Expr} {kws : List Keyword} {te ta : TE} {t tk : TA} {nm : Option Str}
structure KBinds (K : PySem.W.Frag) (fd : FuncData) (ps ks : List Str) (g : List Value → List Value → List Value) (gV : List V → List V → List V) : Prop where
  to : ∀ (s : Shared) (us ws : List Value), K.In s.heap → (g us ws).length = ps.length → BindsTo s fd ⟨us, ks.zip ws⟩ (ps.zip (g us ws))
  rel : ∀ {vs : List V} {us : List Value} {zs : List V} {ws : List Value}, Vals vs us → Vals zs ws → Vals (gV vs zs) (g us ws)
variable {g : List Value → List Value → List Value} {gV : List V → List V → List V}
end
structure FnScope (N P : List Str) (sc : Scope) : Prop where
  kind : sc.kind = .function
  co : sc.isCoroutine = false
  gen : sc.isGenerator = false
  nd : N.Nodup
  pre : N.take P.length = P
  par : ∀ x ∈ P, sc.names.lookup x = some .local ∨ sc.names.lookup x = some .cell
  nofree : ∀ y ∈ sc.names, y.2 ≠ .free
theorem bindL_out {kindOf : Str → Option NameKind} {x : Str} : ∀ {binds : List (Str × Value)} {m : Str → Option Value}, (∀ v, (x, v) ∉ binds) → bindL kindOf binds m x = m x
  | [], _, _ => rfl
  | (n, v) :: r, m, h => by
    unfold bindL
    rw [bindL_out fun w hw => h w (List.mem_cons_of_mem _ hw)]
    split
    · have : x ≠ n := by rintro rfl; exact h v List.mem_cons_self
      simp [this]
    · rfl
theorem bindC_out {kindOf : Str → Option NameKind} {x : Str} : ∀ {binds : List (Str × Value)} {m : Str → Option Value}, (∀ v, (x, v) ∉ binds) → bindC kindOf binds m x = m x
  | [], _, _ => rfl
  | (n, v) :: r, m, h => by
    unfold bindC
    rw [bindC_out fun w hw => h w (List.mem_cons_of_mem _ hw)]
    split
    · rfl
    · have : x ≠ n := by rintro rfl; exact h v List.mem_cons_self
      simp [this]
theorem bindL_get {kindOf : Str → Option NameKind} {x : Str} {v : Value} : ∀ {P : List Str} {vs : List Value} {i : Nat} {m : Str → Option Value}, P.Nodup → P[i]? = some x → vs[i]? = some v → kindOf x = some .local →
    bindL kindOf (P.zip vs) m x = some v
  | [], _, _, _, _, h, _, _ => by simp at h
  | _ :: _, [], _, _, _, _, h, _ => by simp at h
  | p :: P, w :: vs, 0, m, nd, h1, h2, hk => by
    simp at h1 h2; subst h1; subst h2
    show bindL kindOf ((p, w) :: P.zip vs) m p = _
    unfold bindL
    rw [bindL_out fun v hv => (List.nodup_cons.mp nd).1 (List.of_mem_zip hv).1, if_pos hk]
    simp
  | p :: P, w :: vs, i + 1, m, nd, h1, h2, hk => by
    show bindL kindOf ((p, w) :: P.zip vs) m x = _
    unfold bindL
    exact bindL_get (i := i) (List.nodup_cons.mp nd).2 (by simpa using h1) (by simpa using h2) hk
theorem bindC_get {kindOf : Str → Option NameKind} {x : Str} {v : Value} : ∀ {P : List Str} {vs : List Value} {i : Nat} {m : Str → Option Value}, P.Nodup → P[i]? = some x → vs[i]? = some v → kindOf x ≠ some .local →
    bindC kindOf (P.zip vs) m x = some v
  | [], _, _, _, _, h, _, _ => by simp at h
  | _ :: _, [], _, _, _, _, h, _ => by simp at h
  | p :: P, w :: vs, 0, m, nd, h1, h2, hk => by
    simp at h1 h2; subst h1; subst h2
    show bindC kindOf ((p, w) :: P.zip vs) m p = _
    unfold bindC
    rw [bindC_out fun v hv => (List.nodup_cons.mp nd).1 (List.of_mem_zip hv).1, if_neg hk]
    simp
  | p :: P, w :: vs, i + 1, m, nd, h1, h2, hk => by
    show bindC kindOf ((p, w) :: P.zip vs) m x = _
    unfold bindC
    exact bindC_get (i := i) (List.nodup_cons.mp nd).2 (by simpa using h1) (by simpa using h2) hk
def start (N : List Str) (vs : List V) : St := vs.map some ++ List.replicate (N.length - vs.length) none
def cxOf (CX : CXT) (P : Program) (w : World) (K : PySem.W.Frag) (mg : Str → Option Value) (base : Heap) (N : List Str) (qual : Str) (scope : Scope) (f : Addr) (cd : Value) (A : Around) (outer : List Env) (s : Shared) (H : Hp) (E : XK) : Cx where
  prog := P
  w := w
  K := K
  mg := mg
  base := base
  A := A.deeper (envOfC qual scope s.heap.objs.size f cd)
  N := N
  s₀ := s
  H₀ := H
  env := envOfC qual scope s.heap.objs.size f cd
  outer := outer
  stack := envOfC qual scope s.heap.objs.size f cd :: outer
  ex := []
  calm := true
  fn := fun _ => true
  pn := []
  xe := fun e s' => wpAny (model P w) (A.deeper (envOfC qual scope s.heap.objs.size f cd)) (leaving (envOfC qual scope s.heap.objs.size f cd) e) (fun _ s'' => CX outer H s E e s'') (fun e' s'' => CX outer H s E e' s'') s'
theorem cell_has {sc : Scope} {n : Nat} {x : Str} (h : sc.names.lookup x = some .cell) : ∃ c, (cellsFrom n sc.names []).lookup x = some c := by
  have q := PySem.W.cellsFrom_some sc.names n [] (.inl h)
  exact Option.isSome_iff_exists.mp q
theorem inv_start {CX : CXT} {P : Program} {w : World} {K : PySem.W.Frag} {mg : Str → Option Value} {base : Heap} {N ps : List Str} {qual : Str} {scope : Scope} {f : Addr} {cd : Value} {A : Around} {outer : List Env} {s s1 : Shared} {H : Hp} {E : XK} {us : List Value} {vs : List V}
    (S : FnScope N ps scope) (hd : A.handled = none) (e0 : Env0 P w K mg base A outer s H) (hl : vs.length = ps.length) (r : Vals vs us)
    (x : InCallC s s.heap.objs.size (bindL (envOfC qual scope s.heap.objs.size f cd).kindOf (ps.zip us) fun _ => none) (cellsFrom (s.heap.objs.size + 1) scope.names []) (bindC (envOfC qual scope s.heap.objs.size f cd).kindOf (ps.zip us) fun _ => none) s1) :
    Inv (cxOf CX P w K mg base N qual scope f cd A outer s H E) [] (start N vs) H s1 := by
  have hpl : ps.length ≤ N.length := by have := congrArg List.length S.pre; rw [List.length_take] at this; omega
  obtain ⟨h1, tk, rfl, hk⟩ := x.done
  have noA : ∀ b : Addr, b ∉ (cxOf CX P w K mg base N qual scope f cd A outer s H E).ex := fun b z => absurd (show b ∈ ([] : List Addr) from z) (by simp)
  refine ⟨⟨e0.mod, S.kind, rfl, rfl, Nat.le_refl _, fun y z c h1 h2 => ?_, fun y hy => ?_, fun y c _ h => ?_, fun _ => hd, Around.frames_deeper e0.frames, .inr ⟨rfl, rfl⟩, fun b z => absurd z (noA b), e0.bs, e0.bsz, fun b _ _ => noA b, fun b z => absurd z (noA b), e0.funs, e0.frf⟩,
    rfl, e0.bare, Un.kept hk, ⟨_, x.toInCall.ns, fun i y v h1 h2 h3 => ?_⟩, fun y c h => ⟨_, x.cell y c h⟩, e0.hok.fresh (Nat.le_refl _), fun y c h => ?_, fun p hp => absurd (show p ∈ ([] : List (Addr × Obj)) from hp) (by simp), e0.hok.kept hk, ?_⟩
  · exact name_of_addr x.apart (PySem.mem_of_lookup h1) (PySem.mem_of_lookup h2)
  · have hy : scope.names.lookup y = some .cell ∨ scope.names.lookup y = some .free := hy
    rcases hy with hy | hy
    · exact cell_has hy
    · exact absurd rfl (S.nofree _ (PySem.mem_of_lookup hy))
  · exact Nat.le_of_lt (x.above y c (PySem.mem_of_lookup h))
  · have hi : i < vs.length := by
      unfold start at h2
      by_cases hi : i < vs.length
      · exact hi
      · rw [List.getElem?_append_right (by simpa using hi)] at h2
        rw [List.getElem?_replicate] at h2
        split at h2 <;> cases h2
    have ha : vs[i]? = some v := by
      unfold start at h2
      rw [List.getElem?_append_left (by simpa using hi), List.getElem?_map] at h2
      cases e : vs[i]? with
      | none => rw [e] at h2; cases h2
      | some a => rw [e] at h2; cases h2; rfl
    obtain ⟨u, hu, rv⟩ := r.get ha
    have hp : ps[i]? = some y := by
      rw [← S.pre, List.getElem?_take_of_lt (by omega)]; exact h1
    have ndP : ps.Nodup := by rw [← S.pre]; exact S.nd.sublist (List.take_sublist _ _)
    refine ⟨u, rv, ?_⟩
    rcases S.par y (List.mem_of_getElem? hp) with k | k
    · exact .inl ⟨k, bindL_get ndP hp hu k⟩
    · obtain ⟨c, e⟩ := cell_has (n := s.heap.objs.size + 1) k
      refine .inr ⟨.inl k, c, e, ?_⟩
      have q := x.cell y c e
      rw [bindC_get ndP hp hu (by show scope.names.lookup y ≠ _; rw [k]; decide)] at q
      exact q
  · exact e0.hok.fresh (Nat.le_of_lt (x.above y c (PySem.mem_of_lookup h)))
  · unfold start
    show _ = N.length
    rw [List.length_append, List.length_map, List.length_replicate]
    omega
theorem fn_of {CX : CXT} {P : Program} {w : World} {K : PySem.W.Frag} {mg : Str → Option Value} {base : Heap} {k : Nat} {f : Addr} {name qual : Str} {params : Arguments} {body : List Stmt} {scope : Scope} {dV kV doc pm cdv ct oc : Value} {an od : Option Addr}
    {osl : Array (Option Value)} {N ps : List Str} {sp : Sp} (lk : K.lookup f = some ⟨oc, od, .func (PySem.W.fnOf name qual params body scope dV kV doc pm an cdv ct), osl⟩) (hcd : PySem.W.codeIn K cdv qual = true) (S : FnScope N ps scope)
    (len : ∀ vs H Q E, sp vs H Q E → vs.length = ps.length)
    (hbody : ∀ (A : Around) (outer : List Env) (s : Shared) (H : Hp) (vs : List V) (Q : VK) (E : XK), Room k (A.deeper (envOfC qual scope s.heap.objs.size f cdv)) → sp vs H Q E →
      ∃ t, PSs (cxOf CX P w K mg base N qual scope f cdv A outer s H E) body t ∧ t { nx := fun _ H' => Q .non H', rt := Q } (start N vs) H) :
    FnOk P w K mg base CX (k + 1) f (PySem.W.fnOf name qual params body scope dV kV doc pm an cdv ct) ps sp := by
  refine ⟨len, fun A outer s H args us vs Q E hr e0 hb r hsp => ?_⟩
  have hl := len _ _ _ _ hsp
  have KX : K.In s.heap := e0.mod.kin.keeps fun b o e => (e0.bs b o e).1
  have lim : s.heap.NoLimit := e0.mod.nolimit.keeps fun b o e => (e0.bs b o e).1
  have hkind : ∀ y ∈ ps.zip us, scope.names.lookup y.1 = some .local ∨ (scope.names.lookup y.1 = some .cell ∧ ((cellsFrom (s.heap.objs.size + 1) scope.names []).lookup y.1).isSome = true) := fun ⟨n, v⟩ hy => by
    rcases S.par n (List.of_mem_zip hy).1 with q | q
    · exact .inl q
    · exact .inr ⟨q, PySem.W.cellsFrom_some _ _ _ (.inl q)⟩
  refine codeAny_call_function hr.depth (KX _ _ lk) rfl S.co S.gen rfl (PySem.W.codeRec_of KX hcd) (hb _ _ _ _ ?_)
  refine wpAny_newFunctionEnv_cells S.kind hkind fun env he s1 x => ?_
  subst he
  refine ⟨lim.keeps x.toInCall.keep, codeAny_func ?_⟩
  obtain ⟨t, ht, hq⟩ := hbody A outer s H vs Q E (hr.deeper _) hsp
  have I : Inv (cxOf CX P w K mg base N qual scope f cdv A outer s H E) [] (start N vs) H s1 := inv_start S hr.hd e0 hl r x
  refine wpAny_mono (ht [] s1 (start N vs) H _ I hq) (fun fl s' hs => ?_) fun e s' hs => hs
  have fin : ∀ {σ' : St} {H' : Hp} {v : V} {u : Value}, Inv (cxOf CX P w K mg base N qual scope f cdv A outer s H E) [] σ' H' s' → RelV v u → Q v H' → CE outer P w H s Q u s' :=
    fun {σ' H' v u} J rv q => ⟨v, H', J.os, J.bare, J.base, J.hok, rv, q⟩
  cases fl with
  | ret u =>
    obtain ⟨v, σ', H', J, rv, q⟩ := hs
    exact fin J rv q
  | next =>
    obtain ⟨σ', H', J, q⟩ := hs
    exact fin (v := V.non) (u := Value.none) J rfl q
  | brk =>
    obtain ⟨_, _, _, q⟩ := hs
    exact False.elim q
  | cont =>
    obtain ⟨_, _, _, q⟩ := hs
    exact False.elim q
end L2
namespace L2
open PySem PySem.Spec PyProof.Rows
section
variable {X : Cx} {x : Str} {p pos : Pos} {e : Expr} {es : List Expr} {t : TA} {id T : String} {r : List V → Hp → VK → Prop}
def tCB (r : List V → Hp → VK → Prop) (t : TA) : TE := fun σ H Q => t σ H fun vs H1 => r vs H1 Q
theorem pe_callB (hc : CallR X (.builtin id) r) (hg : Gl X x) (hm : X.mg x = none) (hv : bootBuiltins x = some (.builtin id)) (ha : PA X (e :: es) t) (hn : x ≠ "__name__" := by decide) (hdb : (x == ("__debug__" : Str)) = false := by decide)
    (he : starEach (e :: es) X.env = (false, eval e X.env) :: starEach es X.env := by rfl) (hpl : (backTo pos (starEach es X.env)).any (·.1) = false := by rfl) : PE X (.Call (.Name x p) (e :: es) [] pos) (tCB r t) := by
  intro pins s σ H Q I h
  refine wpAny_Call_Name_kw (ld_blt I hg hm hv ?_ hn hdb)
  exact PyProof.Rows.callWith_builtin1 (thn (ha pos pins s σ H _ I h) fun us s1 ⟨vs, H1, I1, r1, q1⟩ => hc pins s1 σ H1 vs us Q I1 r1 q1) he hpl
theorem pe_callTy (hc : CallR X (.type T) r) (hg : Gl X x) (hm : X.mg x = none) (hv : bootBuiltins x = some (.type T)) (ha : PA X (e :: es) t) (hn : x ≠ "__name__" := by decide) (hdb : (x == ("__debug__" : Str)) = false := by decide)
    (he : starEach (e :: es) X.env = (false, eval e X.env) :: starEach es X.env := by rfl) (hpl : (backTo pos (starEach es X.env)).any (·.1) = false := by rfl) : PE X (.Call (.Name x p) (e :: es) [] pos) (tCB r t) := by
  intro pins s σ H Q I h
  refine wpAny_Call_Name_kw (ld_blt I hg hm hv ?_ hn hdb)
  exact PyProof.Rows.callWith_type1 (thn (ha pos pins s σ H _ I h) fun us s1 ⟨vs, H1, I1, r1, q1⟩ => hc pins s1 σ H1 vs us Q I1 r1 q1) he hpl
end
end L2
namespace HT
open PySem PyProof.Rows
section
open PySem.SeqAt
open PySem.AutoSeq1 (wpAny_loadPart')
open PySem.MeetsSeq PySem.MeetsSeq2 PySem.MeetsSeq3
end
section
variable {prog : Program} {w : World} {A : Around} {E : Value → Shared → Prop} {s : Shared}
def sIx (n d : Nat) : Option Int → Nat
  | none => d
  | some v => if v < 0 then (v + (n : Int)).toNat else min v.toNat n
end
end HT
namespace L2
open PySem PySem.Spec PyProof.Rows
abbrev TO := St → Hp → (Option Int → Hp → Prop) → Prop
def PO (X : Cx) (e : Option Expr) (t : TO) : Prop :=
  ∀ (pins : List (Addr × Obj)) (s : Shared) (σ : St) (H : Hp) (Q : Option Int → Hp → Prop), Inv X pins σ H s → t σ H Q →
    wpAny (model X.prog X.w) X.A (evalPart e X.env) (fun u s' => ∃ o H', Inv X pins σ H' s' ∧ IsPart u o ∧ Q o H') X.xe s
def tNoPart : TO := fun _ H Q => Q none H
def tPart (t : TE) : TO := fun σ H Q => t σ H fun x H1 => ∃ i, x = .int i ∧ Q (some i) H1
section
variable {X : Cx} {e : Expr} {te : TE} {lo hi : Option Expr} {tl th : TO} {pos p2 : Pos}
theorem po_none : PO X none tNoPart := by
  intro pins s σ H Q I h
  rw [evalPart_none]
  exact wpAny_pure ⟨none, H, I, .none, h⟩
theorem po_some (h : PE X e te) : PO X (some e) (tPart te) := by
  intro pins s σ H Q I hw
  rw [evalPart_some]
  refine thn (h pins s σ H _ I hw) fun u s1 ⟨x, H1, I1, r1, q1⟩ => ?_
  obtain ⟨i, rfl, q⟩ := q1
  obtain ⟨t, rfl⟩ := r1
  exact ⟨some i, H1, I1, .int i t, q⟩
def SlR (X : Cx) (r : V → Option Int → Option Int → Hp → VK → Prop) : Prop :=
  ∀ (pins : List (Addr × Obj)) (s : Shared) (σ : St) (H : Hp) (x : V) (v vl vu : Value) (lo hi : Option Int) (sl : Addr) (Q : VK), Inv X pins σ H s → RelV x v → s.heap.IsSliceOf sl vl vu .none → IsPart vl lo → IsPart vu hi → r x lo hi H Q →
    ∃ T id, typeLookup (.type T) "__getitem__" = pure (some (.builtin id)) ∧ s.TypeIs v T ∧ wpAny (model X.prog X.w) X.A (getItem v (.ref sl)) (EP X pins σ Q) X.xe s
def tSl (r : V → Option Int → Option Int → Hp → VK → Prop) (te : TE) (tl th : TO) : TE := fun σ H Q => te σ H fun x H1 => tl σ H1 fun l H2 => th σ H2 fun u H3 => r x l u H3 Q
theorem pe_slice {r : V → Option Int → Option Int → Hp → VK → Prop} (hr : SlR X r) (he : PE X e te) (hl : PO X lo tl) (hu : PO X hi th) : PE X (.Subscript e (.Slice lo hi none p2) pos) (tSl r te tl th) := by
  intro pins s σ H Q I h
  refine Subscript_ (thn (he pins s σ H _ I h) fun v s1 ⟨x, H1, I1, r1, q1⟩ => ?_)
  refine wpAny_Slice (thn (hl pins s1 σ H1 _ I1 q1) fun vl s2 ⟨l, H2, I2, pl, q2⟩ => thn (hu pins s2 σ H2 _ I2 q2) fun vu s3 ⟨u, H3, I3, pu, q3⟩ => ?_)
  rw [evalPart_none]
  refine wpAny_pure ?_
  have I4 : Inv X pins σ H3 { s3 with heap := s3.heap.push { cls := .type "slice", data := .fields #[vl, vu, .none] } } := I3.kept (t' := s3.toks) fun b ob q => Heap.get?_push_of_some _ q
  obtain ⟨T, id, hT, ht, hg⟩ := hr pins { s3 with heap := s3.heap.push { cls := .type "slice", data := .fields #[vl, vu, .none] } } σ H3 x v vl vu l u s3.heap.objs.size Q I4 r1 (Heap.IsSliceOf.new ..) pl pu q3
  show wpAny (model X.prog X.w) X.A (subscriptTail e (.Slice lo hi none p2) v (.ref s3.heap.objs.size)) (EP X pins σ Q) X.xe { s3 with heap := s3.heap.push { cls := .type "slice", data := .fields #[vl, vu, .none] } }
  exact tail_any (ops := [.ref s3.heap.objs.size, v]) ht hT hg (by with_unfolding_all rfl)
def cutV (xs : List V) (lo hi : Option Int) : List V := (xs.drop (HT.sIx xs.length 0 lo)).take (HT.sIx xs.length xs.length hi - HT.sIx xs.length 0 lo)
theorem cutV_length (xs : List V) (lo hi : Option Int) : (cutV xs lo hi).length ≤ xs.length := by
  unfold cutV
  rw [List.length_take, List.length_drop]
  omega
end
end L2
namespace L2
open PySem PySem.Spec PyProof.Rows
def ixN (n : Nat) (i : Int) : Option Nat := if 0 ≤ i then (if i < n then some i.toNat else none) else if -(n : Int) ≤ i then some (i + n).toNat else none
def atI {α : Type} (xs : List α) (i : Int) : Option α := (ixN xs.length i).bind fun j => xs[j]?
theorem ixN_seq {n : Nat} {i : Int} {j : Nat} (h : ixN n i = some j) : seqIndex? i n = some j ∧ j < n ∧ -(n : Int) ≤ i ∧ i < n := by
  unfold ixN at h
  by_cases h0 : 0 ≤ i
  · rw [if_pos h0] at h
    by_cases h1 : i < n
    · rw [if_pos h1] at h
      have e : i.toNat = j := Option.some.inj h
      exact ⟨by rw [seqIndex_of h0 h1, e], by omega, by omega, h1⟩
    · rw [if_neg h1] at h; cases h
  · rw [if_neg h0] at h
    by_cases h1 : -(n : Int) ≤ i
    · rw [if_pos h1] at h
      have e : (i + n).toNat = j := Option.some.inj h
      exact ⟨by rw [seqIndex_neg (by omega) h1, e], by omega, h1, by omega⟩
    · rw [if_neg h1] at h; cases h
theorem atI_get {α : Type} {xs : List α} {i : Int} {v : α} (h : atI xs i = some v) : ∃ j, seqIndex? i xs.length = some j ∧ xs[j]? = some v ∧ j < xs.length ∧ -(xs.length : Int) ≤ i ∧ i < xs.length := by
  unfold atI at h
  cases e : ixN xs.length i with
  | none => rw [e] at h; cases h
  | some j =>
    rw [e] at h
    obtain ⟨h1, h2, h3, h4⟩ := ixN_seq e
    exact ⟨j, h1, h, h2, h3, h4⟩
theorem atI_nat {α : Type} {xs : List α} {j : Nat} {v : α} (h : xs[j]? = some v) : atI xs (j : Int) = some v := by
  have hj : j < xs.length := (List.getElem?_eq_some_iff.mp h).1
  have e : ixN xs.length (j : Int) = some j := by
    unfold ixN
    rw [if_pos (by omega), if_pos (by omega)]; simp
  unfold atI; rw [e]; exact h
def PlainIx (b : Expr) : Prop := ∀ o i, subscripted b false o i = operate [o, i] (getItem o i)
def IxR (X : Cx) (r : R2) : Prop :=
  ∀ (value slice : Expr) (pins : List (Addr × Obj)) (s : Shared) (σ : St) (H : Hp) (x y : V) (v u : Value) (Q : VK), Inv X pins σ H s → RelV x v → RelV y u → r x y H Q →
    subscripted slice false v u = operate [v, u] (getItem v u) → wpAny (model X.prog X.w) X.A (subscriptTail value slice v u) (EP X pins σ Q) X.xe s
def MtR (X : Cx) (id : String) (r : V → List V → Hp → VK → Prop) : Prop :=
  ∀ (pins : List (Addr × Obj)) (s : Shared) (σ : St) (H : Hp) (x : V) (xs : List V) (v : Value) (us : List Value) (Q : VK), Inv X pins σ H s → RelV x v → Vals xs us → r x xs H Q →
    wpAny (model X.prog X.w) X.A (call (.builtin id) (v :: us)) (EP X pins σ Q) X.xe s
section
variable {X : Cx} {a b : Expr} {ta tb : TE} {pos : Pos}
theorem pe_ix {r : R2} (hr : IxR X r) (ha : PE X a ta) (hb : PE X b tb) (hs : PlainIx b) : PE X (.Subscript a b pos) (tOp r ta tb) := by
  intro pins s σ H Q I h
  exact Subscript_ (binT ha hb I h fun v u s2 x y H2 I2 rx ry q => hr a b pins s2 σ H2 x y v u Q I2 rx ry q (hs _ _))
def rIxL (K : PySem.W.Frag) : R2 := fun x y H Q => ∃ p xs i v, x = .ref p ∧ y = .int i ∧ SqL K H p xs ∧ atI xs i = some v ∧ Q v H
def rIxT (K : PySem.W.Frag) : R2 := fun x y H Q => ∃ p xs i v, x = .ref p ∧ y = .int i ∧ SqT K H p xs ∧ atI xs i = some v ∧ Q v H
theorem ix_list : IxR X (rIxL X.K) := by
  intro value slice pins s σ H x y v u Q I rx ry h hs
  obtain ⟨p, xs, i, z, rfl, rfl, hq, he, q⟩ := h
  cases rx
  obtain ⟨t, rfl⟩ := ry
  obtain ⟨its, r, pl, hz⟩ := I.list hq
  obtain ⟨j, h1, h2, h3, h4, h5⟩ := atI_get he
  obtain ⟨w, ew, rw'⟩ := r.get h2
  have hl := r.length
  have hn := line63
  have fin : EP X pins σ Q w s := ⟨z, H, I, rw', q⟩
  by_cases h0 : 0 ≤ i
  · have hj : i.toNat = j := by
      rw [seqIndex_of h0 h5] at h1
      exact Option.some.inj h1
    exact item_listR pl.isList h0 (by omega) (by rw [hj]; simpa using ew) fin hs
  · have hj : (i + (its.toArray.size : Int)).toNat = j := by
      rw [seqIndex_neg (by omega) h4] at h1
      rw [List.size_toArray, ← hl]
      exact Option.some.inj h1
    exact subscriptTail_builtinR (x := w) pl.isList.typeIs slot_list_getitem.lookup
      (wpAny_getItem_list_neg (Q := fun r s' => r = w ∧ EP X pins σ Q r s') pl.isList (by omega) (by rw [List.size_toArray] <;> omega) (by omega) (by rw [hj]; simpa using ew) ⟨rfl, fin⟩) hs
theorem ix_tup : IxR X (rIxT X.K) := by
  intro value slice pins s σ H x y v u Q I rx ry h hs
  obtain ⟨p, xs, i, z, rfl, rfl, hq, he, q⟩ := h
  cases rx
  obtain ⟨t, rfl⟩ := ry
  obtain ⟨its, r, pl, hz⟩ := I.tuple hq
  obtain ⟨j, h1, h2, h3, h4, h5⟩ := atI_get he
  obtain ⟨w, ew, rw'⟩ := r.get h2
  have hl := r.length
  have hn := line63
  have fin : EP X pins σ Q w s := ⟨z, H, I, rw', q⟩
  exact subscriptTail_builtinR (x := w) pl.typeIs slot_tuple_getitem.lookup
    (getItem_tuple (j := j) (Q := fun r s' => r = w ∧ EP X pins σ Q r s') pl (by omega) (by omega) (by rw [List.size_toArray, ← hl]; exact h1) (by simpa using ew) ⟨rfl, fin⟩) hs
theorem mapSeq_set (its : List Value) (n j : Nat) (u : Value) : Obj.mapSeq (·.setIfInBounds j u) { cls := .type "list", data := .seq its.toArray n } = { cls := .type "list", data := .seq (its.set j u).toArray n } := by
  simp [Obj.mapSeq]
theorem Inv.lst {pins : List (Addr × Obj)} {σ : St} {H : Hp} {s : Shared} {p : Addr} {xs : List V} (I : Inv X pins σ H s) (h : H p = some (.lst xs)) :
    ∃ (its : List Value) (n : Nat), Vals xs its ∧ s.heap.get? p = some { cls := .type "list", data := .seq its.toArray n } ∧ xs.length ≤ sizeLine := by
  obtain ⟨z, its, n, r, e⟩ := I.hok p _ h
  exact ⟨its, n, r, e, z⟩
theorem Inv.lstUpd {pins : List (Addr × Obj)} {σ : St} {H : Hp} {s : Shared} {p : Addr} {xs ys : List V} {its its' : List Value} {n n' : Nat} {f : Obj → Obj} (I : Inv X pins σ H s) (h : H p = some (.lst xs))
    (ho : s.heap.get? p = some { cls := .type "list", data := .seq its.toArray n }) (hf : f { cls := .type "list", data := .seq its.toArray n } = { cls := .type "list", data := .seq its'.toArray n' }) (r : Vals ys its') (hz : ys.length ≤ sizeLine) (t : Nat) :
    Inv X pins σ (upd H p (.lst ys)) { s with heap := s.heap.update p f, toks := t } := by
  have e : (s.heap.update p f).get? p = some { cls := .type "list", data := .seq its'.toArray n' } := by
    rw [Heap.get?_update_self f ho (by rw [hf] <;> rfl), hf]
  refine I.write (x := p) (e := p) (by rw [h]; trivial) (.inl rfl) (fun b u hb q => (Heap.get?_update_other _ _ (Ne.symm hb)).trans q) ⟨_, e⟩ ?_
  exact ⟨hz, its', n', r, e⟩
def rSetL : V → V → V → Hp → (Hp → Prop) → Prop := fun o i v H Q => ∃ p xs k j, o = .ref p ∧ i = .int k ∧ H p = some (.lst xs) ∧ ixN xs.length k = some j ∧ Q (upd H p (.lst (xs.set j v)))
theorem set_list : PSet X rSetL := by
  intro pins s σ H o i v ov iv u Q I ro ri rv h
  obtain ⟨p, xs, k, j, rfl, rfl, hp, hj, q⟩ := h
  cases ro
  obtain ⟨t, rfl⟩ := ri
  obtain ⟨its, n, r, ho, hz⟩ := I.lst hp
  obtain ⟨h1, h2, h3, h4⟩ := ixN_seq hj
  have hl := r.length
  have hn := line63
  have I' : Inv X pins σ (upd H p (.lst (xs.set j v))) { s with heap := s.heap.update p (Obj.mapSeq (·.setIfInBounds j u)) } :=
    I.lstUpd hp ho (mapSeq_set its n j u) (r.set rv j) (by rw [List.length_set]; exact hz) s.toks
  by_cases h0 : 0 ≤ k
  · have hk : k.toNat = j := by
      rw [seqIndex_of h0 h4] at h1
      exact Option.some.inj h1
    exact PySem.W.ki_setAt ho h0 (by omega) (by rw [List.size_toArray, ← hl]; exact h4) (by rw [hk]; exact ⟨_, I', q⟩)
  · have hk : (k + (its.toArray.size : Int)).toNat = j := by
      rw [seqIndex_neg (by omega) h3] at h1
      rw [List.size_toArray, ← hl]
      exact Option.some.inj h1
    exact PySem.W.ki_setBack ho (by omega) (by rw [List.size_toArray, ← hl]; exact h3) (by omega) (by rw [hk]; exact ⟨_, I', q⟩)
theorem slice_bounds (lo hi : Option Int) (n : Nat) : (sliceBounds lo hi none n).1 = ((HT.sIx n 0 lo : Nat) : Int) ∧ (sliceBounds lo hi none n).2.1 = ((HT.sIx n n hi : Nat) : Int) ∧ (sliceBounds lo hi none n).2.2 = 1 := by
  refine ⟨?_, ?_, rfl⟩
  · cases lo with
    | none => simp [sliceBounds, HT.sIx]
    | some i =>
      simp only [sliceBounds, HT.sIx, Option.getD_none, show (1 : Int) > 0 by decide, if_true]
      by_cases h : i < 0
      · simp only [h, if_true] <;> omega
      · simp only [h, if_false] <;> omega
  · cases hi with
    | none => simp [sliceBounds, HT.sIx]
    | some i =>
      simp only [sliceBounds, HT.sIx, Option.getD_none, show (1 : Int) > 0 by decide, if_true]
      by_cases h : i < 0
      · simp only [h, if_true] <;> omega
      · simp only [h, if_false] <;> omega
theorem slicePick_cut (its : List Value) (lo hi : Option Int) : slicePick its.toArray lo hi none = ((its.drop (HT.sIx its.length 0 lo)).take (HT.sIx its.length its.length hi - HT.sIx its.length 0 lo)).toArray := by
  obtain ⟨h1, h2, h3⟩ := slice_bounds lo hi its.toArray.size
  unfold slicePick
  rw [h1, h2, h3]
  simp only [sliceRange_one, pick_run, List.size_toArray] <;> rfl
def rSlL (K : PySem.W.Frag) : V → Option Int → Option Int → Hp → VK → Prop := fun x lo hi H Q => ∃ a xs, x = .ref a ∧ SqL K H a xs ∧ ∀ p, H p = none → Q (.ref p) (upd H p (.lst (cutV xs lo hi)))
theorem sl_list : SlR X (rSlL X.K) := by
  intro pins s σ H x v vl vu lo hi sl Q I rx hs pl pu h
  obtain ⟨a, xs, rfl, hx, q⟩ := h
  cases rx
  obtain ⟨its, r, ht, hz⟩ := I.list hx
  have hlen := r.length
  refine ⟨"list", _, slot_list_getitem.lookup, ht.isList.typeIs, ?_⟩
  refine wpAny_getItem_list_slice ht.isList hs pl pu .none (by simp) ?_ (by rw [List.size_toArray] <;> omega)
  rw [slicePick_cut, ← hlen]
  refine ⟨.ref s.heap.objs.size, _, I.laid (t' := s.toks) (o := .lst (cutV xs lo hi)) (fun b ob q => Heap.get?_push_of_some _ q) (Nat.le_refl _) ?_, rfl, q _ (I.hok.fresh (Nat.le_refl _))⟩
  exact ⟨Nat.le_trans (cutV_length xs lo hi) hz, _, 0, (r.drop (HT.sIx xs.length 0 lo)).take (HT.sIx xs.length xs.length hi - HT.sIx xs.length 0 lo), Heap.get?_push_size _ rfl⟩
theorem call_len_seq : CallR X (.builtin "len") (fun xs H Q => ∃ p ys, xs = [.ref p] ∧ (SqL X.K H p ys ∨ SqT X.K H p ys) ∧ Q (.int ys.length) H) := by
  intro pins s σ H xs us Q I r h
  obtain ⟨p, ys, rfl, hq, q⟩ := h
  obtain ⟨u, rfl, rx⟩ := vals1 r
  cases rx
  have hn := line63
  rcases hq with hq | hq
  · obtain ⟨its, r', pl, hz⟩ := I.list hq
    have hlen := r'.length
    exact Calls.call_len_list pl.isList (by simp only [List.size_toArray] <;> omega) ⟨.int ys.length, H, I.tok _, ⟨s.toks + 1, by rw [List.size_toArray, hlen]⟩, q⟩
  · obtain ⟨its, r', pl, hz⟩ := I.tuple hq
    have hlen := r'.length
    exact len_tuple pl (by simp only [List.size_toArray] <;> omega) ⟨.int ys.length, H, I.tok _, ⟨s.toks + 1, by rw [List.size_toArray, hlen]⟩, q⟩
theorem call_list_of : CallR X (.type "list") (fun xs H Q => ∃ p ys, xs = [.ref p] ∧ (SqL X.K H p ys ∨ SqT X.K H p ys) ∧ ∀ l, H l = none → Q (.ref l) (upd H l (.lst ys))) := by
  intro pins s σ H xs us Q I r h
  obtain ⟨p, ys, rfl, hq, q⟩ := h
  obtain ⟨u, rfl, rx⟩ := vals1 r
  cases rx
  have fin : ∀ (its : List Value), Vals ys its → ys.length ≤ sizeLine → ∀ (h' : Heap) (c' : Nat), (∀ b o', s.heap.get? b = some o' → h'.get? b = some o') →
      h'.get? s.heap.objs.size = some { cls := .type "list", dict := none, data := .seq its.toArray c', slots := #[] } → EP X pins σ Q (.ref s.heap.objs.size) { s with heap := h' } := fun its r' hz h' c' kp e =>
    ⟨.ref s.heap.objs.size, _, I.laid (t' := s.toks) kp (Nat.le_refl _) (show ObjOk X.prog X.w _ h' _ (.lst ys) from ⟨hz, its, c', r', e⟩), rfl, q _ (I.hok.fresh (Nat.le_refl _))⟩
  rcases hq with hq | hq
  · obtain ⟨its, r', pl, hz⟩ := I.list hq
    have hlen := r'.length
    obtain ⟨o, ho, hc, n, hd⟩ := pl.isList
    exact call_list_seq p (.inl rfl) ho hc hd (fun h' c' kp e => fin its r' hz h' c' kp e) (by simp only [List.size_toArray] <;> omega)
  · obtain ⟨its, r', pl, hz⟩ := I.tuple hq
    have hlen := r'.length
    obtain ⟨o, ho, hc, n, hd⟩ := pl
    exact call_list_seq p (.inr rfl) ho hc hd (fun h' c' kp e => fin its r' hz h' c' kp e) (by simp only [List.size_toArray] <;> omega)
theorem call_tuple_of : CallR X (.type "tuple") (fun xs H Q => ∃ p ys, xs = [.ref p] ∧ ((SqL X.K H p ys ∧ ∀ l, H l = none → Q (.ref l) (upd H l (.tup ys))) ∨ (SqT X.K H p ys ∧ Q (.ref p) H))) := by
  intro pins s σ H xs us Q I r h
  obtain ⟨p, ys, rfl, h⟩ := h
  obtain ⟨u, rfl, rx⟩ := vals1 r
  cases rx
  rcases h with ⟨hq, q⟩ | ⟨hq, q⟩
  · obtain ⟨its, r', pl, hz⟩ := I.list hq
    have hlen := r'.length
    refine call_tuple_list pl.isList (fun h' kp => ?_) (by simp only [List.size_toArray] <;> omega)
    have I1 : Inv X pins σ H { s with heap := h' } := I.kept (t' := s.toks) kp
    have I2 : Inv X pins σ (upd H h'.objs.size (.tup ys)) { s with heap := h'.push { cls := .type "tuple", data := .seq its.toArray } } :=
      I1.laid (t' := s.toks) (fun b o e => Heap.get?_push_of_some _ e) (Nat.le_refl _) (show ObjOk X.prog X.w _ _ _ (.tup ys) from ⟨hz, its, r', IsTup.new _ _⟩)
    exact ⟨.ref h'.objs.size, _, I2, rfl, q _ (I1.hok.fresh (Nat.le_refl _))⟩
  · obtain ⟨its, r', pl, hz⟩ := I.tuple hq
    exact call_tuple_same pl ⟨.ref p, H, I, rfl, q⟩
def tyV (K : PySem.W.Frag) (T : String) (x : V) (H : Hp) : Prop := match x with
  | .str _ => T = "str"
  | .int _ => T = "int"
  | .ref p => (T = "list" ∧ ∃ xs, SqL K H p xs) ∨ (T = "tuple" ∧ ∃ o, K.lookup p = some o ∧ o.cls = .type "tuple" ∧ o.dict = none) ∨
      (T = "dict" ∧ ((∃ kvs, H p = some (.dK kvs)) ∨ ∃ kvs, H p = some (.dT kvs))) ∨ (T = "set" ∧ ∃ S n, H p = some (.set S n))
  | _ => False
theorem tyV_is {pins : List (Addr × Obj)} {σ : St} {H : Hp} {s : Shared} {T : String} {x : V} {v : Value} (I : Inv X pins σ H s) (r : RelV x v) (ty : tyV X.K T x H) :
    s.TypeIs v T ∧ ∀ a, v = .ref a → ∃ ob, s.heap.get? a = some ob ∧ ob.dict = none := by
  cases x with
  | str z =>
    obtain ⟨t, rfl⟩ := r
    cases (show T = "str" from ty)
    exact ⟨typeIs_str s z t, fun _ e => nomatch e⟩
  | int i =>
    obtain ⟨t, rfl⟩ := r
    cases (show T = "int" from ty)
    exact ⟨typeIs_int s i t, fun _ e => nomatch e⟩
  | ref p =>
    cases r
    rcases ty with ⟨rfl, xs, hq⟩ | ⟨rfl, o, hk, hc, hd⟩ | ⟨rfl, hk⟩ | ⟨rfl, S, n, hk⟩
    · obtain ⟨its, _, pl, _⟩ := I.list hq
      refine ⟨pl.isList.typeIs, fun a e => ?_⟩
      cases e
      obtain ⟨o, n, e, c, hd, _⟩ := pl
      exact ⟨o, e, hd⟩
    · refine ⟨⟨o, I.kIn p o hk, hc⟩, fun a e => ?_⟩
      cases e
      exact ⟨o, I.kIn _ o hk, hd⟩
    · have z : ∃ o, s.heap.get? p = some o ∧ o.ExactDict := by
        rcases hk with ⟨kvs, hk⟩ | ⟨kvs, hk⟩
        · obtain ⟨_, _, _, _, o, _, _, e, ex, _⟩ := I.hok p _ hk
          exact ⟨o, e, ex⟩
        · obtain ⟨_, _, _, _, o, _, _, e, ex, _⟩ := I.hok p _ hk
          exact ⟨o, e, ex⟩
      obtain ⟨o, e, ex⟩ := z
      refine ⟨⟨o, e, ex.1⟩, fun a e2 => ?_⟩
      cases e2
      exact ⟨o, e, ex.2.1⟩
    · obtain ⟨o, _, _, _, e, ex, _⟩ := I.hok p _ hk
      refine ⟨⟨o, e, ex.1⟩, fun a e2 => ?_⟩
      cases e2
      exact ⟨o, e, ex.2.1⟩
  | _ => exact False.elim ty
def tBM (K : PySem.W.Frag) (T : String) (r : V → List V → Hp → VK → Prop) (to : TE) (t : TA) : TE := fun σ H Q => to σ H fun x H1 => tyV K T x H1 ∧ t σ H1 fun xs H2 => r x xs H2 Q
variable {o e : Expr} {es : List Expr} {to : TE} {t : TA} {name : Str} {apos cpos : Pos} {T id : String} {r : V → List V → Hp → VK → Prop}
theorem pe_bm (pa : PlainAttrs T) (slot : Slot T name id) (hty : typeOf (.builtin id) = pure (.type "method_descriptor")) (hm : MtR X id r) (ho : PE X o to) (ha : PA X (e :: es) t)
    (hbase : attributeBase o name X.env (eval o X.env) = eval o X.env := by rfl)
    (hfew : ((backTo cpos (starEach (e :: es) X.env)).all (fun x => !x.1) && (backToKw cpos (keywordEach [] X.env)).all (fun x => x.1.isSome)
      && decide ((e :: es).length + ([] : List Keyword).length + (if ([] : List Keyword).isEmpty then 0 else 1) < 30)) = true := by rfl)
    (hline : (apos.endLine == cpos.line) = true := by rfl) (hs : starEach (e :: es) X.env = (false, eval e X.env) :: starEach es X.env := by rfl) (hplain : (backTo cpos (starEach es X.env)).any (·.1) = false := by rfl) :
    PE X (.Call (.Attribute o name apos) (e :: es) [] cpos) (tBM X.K T r to t) := by
  intro pins s σ H Q I h
  refine wpAny_Call_method_late hbase hfew hline rfl (thn (ho pins s σ H _ I h) fun v s1 ⟨x, H1, I1, r1, ty, q1⟩ => ?_)
  obtain ⟨h1, h2⟩ := tyV_is I1 r1 ty
  refine ⟨T, id, pa, slot, hty, h1, h2, ?_⟩
  have hA := ha cpos pins s1 σ H1 _ I1 q1
  rw [hs] at hA ⊢
  refine Calls.callWith_builtin (by show (false || (backTo cpos (starEach es X.env)).any (·.1)) = false; rw [hplain] <;> rfl) (Calls.evalArgs_plain ?_)
  exact thn hA fun us s2 ⟨vs, H2, I2, r2, q2⟩ => hm pins s2 σ H2 x vs v us Q I2 r1 r2 q2
end
end L2
namespace L2
open PySem PySem.Spec PyProof.Rows
def MtM (X : Cx) (id : String) (r : V → List V → Hp → VK → Prop) : Prop :=
  ∀ (pins : List (Addr × Obj)) (s : Shared) (σ : St) (H : Hp) (x : V) (xs : List V) (v : Value) (us : List Value) (Q : VK), Inv X pins σ H s → RelV x v → Vals xs us → r x xs H Q →
    wpAny (model X.prog X.w) X.A (call (.builtin id) (v :: us)) (EP X pins σ Q) X.xe s
theorem Vals.one : ∀ {x : V} {us : List Value}, Vals [x] us → ∃ u, us = [u] ∧ RelV x u
  | _, _, .cons r .nil => ⟨_, rfl, r⟩
theorem Vals.zero : ∀ {us : List Value}, Vals [] us → us = []
  | _, .nil => rfl
section
variable {X : Cx} {pins : List (Addr × Obj)} {σ : St} {H : Hp} {s : Shared} {l b : Addr} {xs ys zs : List V}
theorem Inv.lset {its its' : List Value} {n : Nat} {f : Array Value → Array Value} {t' : Nat} (I : Inv X pins σ H s) (hH : H l = some (.lst xs))
    (e : s.heap.get? l = some { cls := .type "list", data := .seq its.toArray n }) (hf : f its.toArray = its'.toArray) (hv : Vals ys its') (hz : ys.length ≤ sizeLine) :
    Inv X pins σ (upd H l (.lst ys)) { s with heap := s.heap.update l (Obj.mapSeq f), toks := t' } := by
  have q := PySem.IsL.update e f
  rw [hf] at q
  refine I.write (x := l) (e := l) (by rw [hH]; exact trivial) (.inl rfl) (fun b' u hb hu => (Heap.get?_update_other s.heap (Obj.mapSeq f) (Ne.symm hb)).trans hu) ⟨_, q⟩ ?_
  exact ⟨hz, its', _, hv, q⟩
theorem Inv.lnew {its : List Value} {t' : Nat} (I : Inv X pins σ H s) (hv : Vals ys its) (hz : ys.length ≤ sizeLine) :
    Inv X pins σ (upd H s.heap.objs.size (.lst ys)) { s with heap := s.heap.push { cls := .type "list", data := .seq its.toArray }, toks := t' } :=
  I.laid (fun _ _ q => Heap.get?_push_of_some _ q) (Nat.le_refl _) ⟨hz, its, 0, hv, Heap.get?_push_size _ rfl⟩
theorem Inv.fresh (I : Inv X pins σ H s) : H s.heap.objs.size = none := I.hok.fresh (Nat.le_refl _)
theorem Inv.lstM (I : Inv X pins σ H s) (hH : H l = some (.lst xs)) : xs.length ≤ sizeLine ∧ ∃ (its : List Value) (n : Nat), Vals xs its ∧ xs.length = its.length ∧ s.heap.get? l = some { cls := .type "list", data := .seq its.toArray n } := by
  obtain ⟨z, its, n, r, e⟩ := I.hok l _ hH
  exact ⟨z, its, n, r, r.length, e⟩
theorem notLongL {n : Nat} (h : n ≤ sizeLine) : Builtin.List.listTooLong n = false := by
  unfold Builtin.List.listTooLong
  exact decide_eq_false (by omega)
end
section
variable {X : Cx}
def rAppend : V → List V → Hp → VK → Prop := fun x vs H Q => ∃ l xs y, x = .ref l ∧ vs = [y] ∧ H l = some (.lst xs) ∧ xs.length < sizeLine ∧ Q .non (upd H l (.lst (xs ++ [y])))
theorem mt_append : MtM X "list.append" rAppend := by
  intro pins s σ H x vs v us Q I rx rv h
  obtain ⟨l, xs, y, rfl, rfl, hH, hz, q⟩ := h
  cases rx
  obtain ⟨u, rfl, ru⟩ := rv.one
  obtain ⟨z, its, n, r, hl, e⟩ := I.lstM hH
  refine call_meets F.slot_list_append ⟨_, e, rfl⟩ F.entry_list_append (F.args_list_append_2 _ _) (PySem.list_append l its.toArray n u (by rw [List.size_toArray]; omega)) ⟨e, ?_⟩
  refine ⟨.non, _, I.lset (its' := its ++ [u]) hH e (by simp) (r.append (.cons ru .nil)) ?_, rfl, q⟩
  rw [List.length_append, List.length_singleton]
  omega
def rExtend : V → List V → Hp → VK → Prop := fun x vs H Q => ∃ l b xs zs, x = .ref l ∧ vs = [.ref b] ∧ H l = some (.lst xs) ∧ H b = some (.lst zs) ∧ xs.length + zs.length ≤ sizeLine ∧ Q .non (upd H l (.lst (xs ++ zs)))
theorem mt_extend : MtM X "list.extend" rExtend := by
  intro pins s σ H x vs v us Q I rx rv h
  obtain ⟨l, b, xs, zs, rfl, rfl, hH, hB, hz, q⟩ := h
  cases rx
  obtain ⟨u, rfl, ru⟩ := rv.one
  cases ru
  obtain ⟨z, its, n, r, hl, e⟩ := I.lstM hH
  obtain ⟨z2, its2, n2, r2, hl2, e2⟩ := I.lstM hB
  have hsz : its.toArray.size + its2.toArray.size ≤ sizeLine := by rw [List.size_toArray, List.size_toArray]; omega
  have hlong : ¬ (!its.toArray.isEmpty && Builtin.List.listTooLong (its.toArray.size + its2.toArray.size)) = true := by
    rw [notLongL hsz, Bool.and_false]
    exact Bool.false_ne_true
  refine call_meets F.slot_list_extend ⟨_, e, rfl⟩ F.entry_list_extend (F.args_list_extend_2 _ _)
    (AutoSeq1.list_extend_list_list_0 l its.toArray n b its2.toArray n2 hlong (by rw [List.size_toArray]; omega) (by omega)) ⟨e, e2, ?_⟩
  refine ⟨.non, _, I.lset (its' := its ++ its2) hH e (by simp) (r.append r2) ?_, rfl, q⟩
  rw [List.length_append]
  omega
def rCat : R2 := fun x y H Q => ∃ l b xs zs, x = .ref l ∧ y = .ref b ∧ H l = some (.lst xs) ∧ H b = some (.lst zs) ∧ xs.length + zs.length ≤ sizeLine ∧ ∀ p, H p = none → Q (.ref p) (upd H p (.lst (xs ++ zs)))
theorem op_cat : OpR X (binaryOp .Add) rCat := by
  intro pins s σ H x y v u Q I rx ry h
  obtain ⟨l, b, xs, zs, rfl, rfl, hH, hB, hz, q⟩ := h
  cases rx
  cases ry
  obtain ⟨z, its, n, r, hl, e⟩ := I.lstM hH
  obtain ⟨z2, its2, n2, r2, hl2, e2⟩ := I.lstM hB
  refine PySem.P.add_list e e2 ?_ (by rw [List.size_toArray, List.size_toArray]; omega)
  have ea : its.toArray ++ its2.toArray = (its ++ its2).toArray := by simp
  rw [ea]
  exact ⟨.ref _, _, I.lnew (t' := s.toks) (r.append r2) (by rw [List.length_append]; omega), rfl, q _ I.fresh⟩
end
section
variable {prog : Program} {w : World} {A : Around} {E : Value → Shared → Prop} {s : Shared}
set_option maxRecDepth 100000 in
end
section
variable {X : Cx}
end
end L2
namespace Att
open PySem PySem.W PySem.Calls PyProof.Rows
theorem ints_of_wellAll {P : Params} {h : Heap} : ∀ (ns : List Int) (vs : List Value), WellAll P h vs (ns.map WData.int) → IntsAre vs ns := by
  intro ns
  induction ns with
  | nil =>
    intro vs w
    rw [List.map_nil] at w
    cases w
    exact .nil
  | cons n ns ih =>
    intro vs w
    rw [List.map_cons] at w
    cases w with
    | cons a b =>
      cases a
      exact .cons _ _ (ih _ b)
theorem script_of {l : OpenLaw} {n : Nat} (hn : l.most = some n) {P : Params} {h : Heap} {args : List WData} {vals : List Value}
    (hpre : l.row.toRowW.claim.pre args = true) (hwl : WellAll P h vals args) :
    ∃ a vs ns, vals = [Value.ref a] ∧ args = [WData.list (ns.map WData.int)] ∧ h.get? a = some { cls := .type "list", data := .seq vs.toArray } ∧ IntsAre vs ns ∧ ns.length ≤ n := by
  have hsh : WShape.hasAll [] args [.list .int] = true := (pre_splitW hpre).1
  have hc : l.pre.holds [] { args := args } = true := (pre_splitW hpre).2
  obtain ⟨d, r, rfl, h1, h2⟩ := hasAllW_cons hsh
  obtain rfl := hasAllW_nil h2
  obtain ⟨xs, rfl, h3⟩ := hasW_list h1
  obtain ⟨ns, rfl⟩ := items_int h3
  have hlen : ns.length ≤ n := by
    unfold OpenLaw.pre at hc
    have h4 : (WTm.not (.lt (.lit (.int (n : Int))) (.len (.arg 0)))).holds [] { args := [.list (ns.map .int)] } = true := by
      have h4 := (holds_andW hc).1
      rw [hn] at h4
      exact h4
    have h5 := condW_of h4 (w_not (w_lt w_lit (w_len_list (w_arg rfl))))
    rw [List.length_map] at h5
    refine Nat.le_of_not_lt fun q => ?_
    have q' : (n : Int) < ((ns.length : Nat) : Int) := by omega
    first
      | (rw [decide_eq_true q'] at h5; exact absurd h5 (by decide))
      | (simp at h5; omega)
  cases hwl with
  | cons w1 w2 =>
    cases w2
    cases w1 with
    | list ho hall => exact ⟨_, _, ns, rfl, rfl, ho, ints_of_wellAll ns _ hall, hlen⟩
theorem post_true (l : OpenLaw) (args : List WData) : l.row.toRowW.claim.post args (.bool true) args = true :=
  postW_of (r := l.row.toRowW) (X := (true == true))
    (show WShape.has [] (.bool true) .bool = true by first | rfl | decide | simp [WShape.has, WShape.arms, WShape.armsAll])
    (show (WTm.eq .res (.lit (.bool true))).value [] { args := args, res := some (.bool true), after := args } = some (.bool (true == true)) from w_eq_bool (w_res rfl) w_lit) rfl
theorem attach_call {l : OpenLaw} {n : Nat} {q : Program} {loose : List Str} {XP : (Str → Option Value) → Heap → Prop} {YP : World → Heap → Prop} {d : DefRec}
    (hn : l.most = some n) (hdf : d.params.defaults = [])
    (call : ∀ (w : World) (s₀ s₁ : Shared) (mg mb : Str → Option Value) (fa : Addr) (o : Obj) (pm cd doc : Value) (a : Addr) (vs : List Value) (ns : List Int),
      Ground q loose [] XP w s₀ mg mb s₁.heap → YP w s₁.heap →
      s₁.heap.get? fa = some o → o.data = .func (docDef d.name d.params d.body d.scope pm cd doc) → s₁.heap.CodeRec cd d.name → mg d.name = some (.ref fa) →
      s₁.heap.get? a = some { cls := .type "list", data := .seq vs.toArray } → IntsAre vs ns → ns.length ≤ n → s₁.gens = #[] →
      codeAny (model l.prog w) callerA (.call (.ref fa) ⟨[.ref a], []⟩) (fun r s' => r = .ok (.ret (.bool true)) ∧ OldK s₁.heap s'.heap ∧ s'.os = s₁.os ∧ AllBare s'.gens) s₁) :
    WalkO q loose XP YP l.row.toRowW d [] (fun f vs => PySem.call f vs) := by
  intro w s₀ s₁ mg mb G Y fa o pm cd doc dV kV ho hd hcd hD hmg hg args vals as hpre hlay hrd hwl hlo
  obtain rfl : dV = .none := Dflts.none hD hdf
  obtain rfl : kV = .none := Dflts.noKw hD
  obtain ⟨a, vs, ns, rfl, rfl, hobj, hints, hlen⟩ := script_of hn hpre hwl
  refine enter_call (codeAny_mono (call w s₀ s₁ mg mb fa o pm cd doc a vs ns G Y ho (fd_plain hd) hcd hmg hobj hints hlen hg) fun r s' hq => ?_)
  obtain ⟨rfl, h2, h3, h4⟩ := hq
  exact ⟨.inl ⟨.bool true, .bool true, [], rfl, fun _ => rfl, .bool true, post_true l _, fun _ => ⟨List.Pairwise.nil, fun _ hm => (nomatch hm)⟩⟩, h2, h3, h4⟩
section
variable {prog : Program} {w : World} {A : Around} {E : Value → Shared → Prop} {s : Shared} {K : Frag}
end
end Att
namespace L2
open PySem PySem.Spec PyProof.Rows
theorem vals_ints : ∀ {vs : List Value} {ns : List Int}, IntsAre vs ns → Vals (ns.map V.int) vs
  | _, _, .nil => .nil
  | _, _, .cons n t h => .cons ⟨t, rfl⟩ (vals_ints h)
def Only (H : Hp) : Prop := ∀ b, H b = none ∨ ∃ o xs, H b = some (.frz o (.lst xs))
theorem law_call {P : Program} {w : World} {K : PySem.W.Frag} {mg mb : Str → Option Value} {CX : CXT} {k : Nat} {fa a : Addr} {fd : FuncData} {x : Str} {sp : Sp} {s₁ : Shared} {vs : List Value} {ns : List Int}
    (KX : K.In s₁.heap) (hns : s₁.heap.Ns mainGlobals mg) (hb : s₁.heap.Ns builtinsNs mb) (hbb : ∀ x : Str, x ≠ "__name__" → mb x = bootBuiltins x) (hlim : s₁.heap.NoLimit) (hg : s₁.gens = #[])
    (ha : s₁.heap.get? a = some { cls := .type "list", data := .seq vs.toArray }) (hi : IntsAre vs ns) (hl : ns.length ≤ sizeLine) (hr : Room k callerA)
    (F : ∀ base : Heap, K.In base → base.Ns mainGlobals mg → FnOk P w K mg base CX k fa fd [x] sp) (hbind : ∀ (s : Shared) (u : Value), BindsTo s fd ⟨[u], []⟩ [(x, u)])
    (hsp : ∀ H : Hp, Only H → SqL K H a (ns.map V.int) → sp [.ref a] H (fun v _ => v = .bl true) fun _ _ _ => False)
    (hCX : ∀ H e s', CX [] H s₁ (fun _ _ _ => False) e s' → False) :
    codeAny (model P w) callerA (.call (.ref fa) ⟨[.ref a], []⟩) (fun r s' => r = .ok (.ret (.bool true)) ∧ OldK s₁.heap s'.heap ∧ s'.os = s₁.os ∧ AllBare s'.gens) s₁ := by
  have rv := vals_ints hi
  have lenV := hi.length
  -- from an abstract heap in which nothing but the script may be tracked
  have core : ∀ H : Hp, Only H → SqL K H a (ns.map V.int) → HOk P w H s₁.heap → (∀ b, H b ≠ none → b = a) → (H a ≠ none → K.lookup a = none) →
      codeAny (model P w) callerA (.call (.ref fa) ⟨[.ref a], []⟩) (fun r s' => r = .ok (.ret (.bool true)) ∧ OldK s₁.heap s'.heap ∧ s'.os = s₁.os ∧ AllBare s'.gens) s₁ := by
    intro H hO hS hok hA hK
    have base_of : ∀ {b : Addr} {o : Obj}, s₁.heap.get? b = some o → H b = none → (hidT s₁.heap H).get? b = some o := fun e n => hidT_get e n
    have noA : ∀ {b : Addr} {o : Obj} {es : Array DictEntry} {ep : Nat}, s₁.heap.get? b = some o → o.data = .dict es ep → H b = none := fun {b o es ep} e d => by
      cases q : H b with
      | none => rfl
      | some u =>
        have e' : b = a := hA b (by rw [q]; simp)
        subst e'
        rw [ha] at e; cases e
        have d' : Data.seq vs.toArray _ = Data.dict es ep := d
        cases d'
    have nsK : ∀ {b : Addr} {m : Str → Option Value}, s₁.heap.Ns b m → (hidT s₁.heap H).Ns b m := fun {b m} ⟨o, es, ep, e, d, r⟩ => ⟨o, es, ep, base_of e (noA e d), d, r⟩
    have hKb : K.In (hidT s₁.heap H) := fun b o e => base_of (KX b o e) (by
      cases q : H b with
      | none => rfl
      | some u =>
        have e' : b = a := hA b (by rw [q]; simp)
        subst e'
        rw [hK (by rw [q]; simp)] at e; cases e)
    have hM : Mod K mg (hidT s₁.heap H) := ⟨hKb, nsK hns, ⟨mb, nsK hb, hbb⟩, let ⟨mc, h1, h2⟩ := hlim; ⟨mc, nsK h1, h2⟩⟩
    have e0 : Env0 P w K mg (hidT s₁.heap H) callerA [] s₁ H := ⟨rfl, hM, fun b o e => of_hidT e, Nat.le_of_eq (hidT_size _ _), trivial, fun b hb => absurd (show b ∈ ([] : List Addr) from hb) (by simp), hok, .of_eq hg⟩
    refine codeAny_mono ((F _ hKb (nsK hns)).run callerA [] s₁ H ⟨[.ref a], []⟩ [.ref a] [.ref a] _ _ hr e0 (hbind s₁ (.ref a)) (.cons rfl .nil) (hsp H hO hS)) fun r s' h => ?_
    cases r with
    | error e => exact (hCX H e s' h).elim
    | ok fl =>
      cases fl with
      | next => exact False.elim h
      | brk => exact False.elim h
      | cont => exact False.elim h
      | ret u =>
        obtain ⟨v, H', os, bare, un, hok', r', q⟩ := h
        have q' : v = .bl true := q
        subst q'
        obtain rfl : u = Value.bool true := r'
        refine ⟨rfl, OldK.of_keep fun b o e => ?_, os, bare⟩
        cases q : H b with
        | none => exact un.keep b o e q (by intro z; exact absurd (show b ∈ ([] : List Addr) from z) (by simp)) (by simp)
        | some u =>
          rcases hO b with z | ⟨ob, xs, z⟩
          · rw [q] at z; cases z
          · have z2 := un.frzs b ob _ z
            obtain ⟨e1, _⟩ := hok b _ z
            obtain ⟨e2, _⟩ := hok' b _ z2
            rw [e] at e1; cases e1
            exact e2
  cases hk : K.lookup a with
  | some o =>
    -- the script is one of the module's own objects
    have e := KX a o hk
    rw [ha] at e
    cases e
    refine core (fun _ => none) (fun _ => .inl rfl) (.inr ⟨_, vs.toArray, _, hk, rfl, rfl, rfl, by rw [List.size_toArray, lenV]; exact hl, by simpa using rv⟩) (fun b u z => by have z' : (none : Option HO) = some u := z; cases z') (fun b z => absurd rfl z) fun z => absurd rfl z
  | none =>
    refine core (fun b => if b = a then some (.frz { cls := .type "list", data := .seq vs.toArray } (.lst (ns.map V.int))) else none) (fun b => ?_) (.inl (.inr ⟨{ cls := .type "list", data := .seq vs.toArray }, if_pos rfl⟩)) (fun b u z => ?_) (fun b z => ?_) fun _ => hk
    · by_cases hb : b = a
      · exact .inr ⟨_, _, if_pos hb⟩
      · exact .inl (if_neg hb)
    · by_cases hb : b = a
      · have z' := (if_pos hb).symm.trans z
        cases z'
        subst hb
        exact ⟨ha, by rw [List.length_map]; exact hl, vs, _, rv, ha⟩
      · have z' := (if_neg hb).symm.trans z
        cases z'
    · by_cases hb : b = a
      · exact hb
      · exact absurd (if_neg hb) z
end L2
namespace L2
open PySem PySem.Spec PyProof.Rows
abbrev KOf {K : PySem.W.Frag} {h : Heap} (_ : K.In h) : PySem.W.Frag := K
theorem walk_of {l : PySem.W.OpenLaw} {n k : Nat} {q : Program} {loose : List Str} {XP : (Str → Option Value) → Heap → Prop} {YP : World → Heap → Prop} {d : DefRec} {K : Params → PySem.W.Frag} {CX : World → CXT} {sp : World → Sp} {x : Str}
    (hn : l.most = some n) (hn2 : n ≤ sizeLine) (hdf : d.params.defaults = []) (hr : Room k callerA)
    (hY : ∀ (w : World) (h : Heap), YP w h → (K w.params).In h)
    (F : ∀ (w : World) (mg : Str → Option Value) (fa : Addr) (h : Heap), (K w.params).In h → h.Ns mainGlobals mg → mg d.name = some (.ref fa) →
      ∃ fd : FuncData, (∀ (s : Shared) (u : Value), BindsTo s fd ⟨[u], []⟩ [(x, u)]) ∧
        ∀ base : Heap, (K w.params).In base → base.Ns mainGlobals mg → FnOk l.prog w (K w.params) mg base (CX w) k fa fd [x] (sp w))
    (hsp : ∀ (w : World) (H : Hp) (a : Addr) (ns : List Int), ns.length ≤ n → Only H → SqL (K w.params) H a (ns.map V.int) → sp w [.ref a] H (fun v _ => v = .bl true) fun _ _ _ => False)
    (hCX : ∀ (w : World) (H : Hp) (s : Shared) (e : Value) (s' : Shared), CX w [] H s (fun _ _ _ => False) e s' → False) :
    PySem.W.WalkO q loose XP YP l.row.toRowW d [] (fun f vs => PySem.call f vs) := by
  refine Att.attach_call hn hdf fun w s₀ s₁ mg mb fa o pm cd doc a vs ns G Y ho hd hcd hmg hobj hints hlen hg => ?_
  have KX := hY w _ Y
  obtain ⟨fd, hb, hF⟩ := F w mg fa _ KX G.T.g hmg
  exact law_call KX G.T.g G.T.b G.T.builtins G.T.nolimit hg hobj hints (Nat.le_trans hlen hn2) hr hF hb (fun H hO hS => hsp w H a ns hlen hO hS) fun H e s' => hCX w H s₁ e s'
end L2
namespace L2
open PySem PySem.Spec PyProof.Rows
def defArgs (s : Stmt) : Arguments := match s with
  | .FunctionDef _ a _ _ _ _ _ _ _ _ => a
  | _ => { posonlyargs := [], args := [], vararg := none, kwonlyargs := [], kw_defaults := [], kwarg := none, defaults := [] }
def defBody (s : Stmt) : List Stmt := match s with
  | .FunctionDef _ _ b _ _ _ _ _ _ _ => b
  | _ => []
def defScope (s : Stmt) : Scope := match s with
  | .FunctionDef _ _ _ _ _ _ sc _ _ _ => sc
  | _ => { kind := .function, names := [], isGenerator := false, isCoroutine := false }
abbrev CX0 : CXT := fun _ _ _ _ _ _ => False
abbrev E0 : XK := fun _ _ _ => False
theorem pass0 {X : Cx} : Passes CX0 X E0 := fun _ _ _ _ _ _ _ h => h.elim
structure Fun (K : PySem.W.Frag) (x qual : Str) (st : Stmt) (f : Addr) (fd : FuncData) : Prop where
  ex : ∃ (oc : Value) (od : Option Addr) (kV doc pm : Value) (an : Option Addr) (cdv ct : Value) (osl : Array (Option Value)),
    fd = PySem.W.fnOf x qual (defArgs st) (defBody st) (defScope st) .none kV doc pm an cdv ct ∧ K.lookup f = some ⟨oc, od, .func fd, osl⟩ ∧ PySem.W.codeIn K cdv qual = true
  kp : PySem.W.keepIn K (.ref f) = true
section
variable {P : Program} {w : World} {K : PySem.W.Frag} {mg : Str → Option Value} {base : Heap}
theorem Fun.ok {x qual : Str} {st : Stmt} {f : Addr} {fd : FuncData} {N ps : List Str} {k : Nat} {sp : Sp} (F : Fun K x qual st f fd) (S : FnScope N ps (defScope st)) (len : ∀ vs H Q E, sp vs H Q E → vs.length = ps.length)
    (hbody : ∀ (cdv : Value) (A : Around) (outer : List Env) (s : Shared) (H : Hp) (vs : List V) (Q : VK) (E : XK), Room k (A.deeper (envOfC qual (defScope st) s.heap.objs.size f cdv)) → sp vs H Q E →
      ∃ t, PSs (cxOf CX0 P w K mg base N qual (defScope st) f cdv A outer s H E).nox (defBody st) t ∧ t { nx := fun _ H' => Q .non H', rt := Q } (start N vs) H) : FnOk P w K mg base CX0 (k + 1) f fd ps sp := by
  obtain ⟨oc, od, kV, doc, pm, an, cdv, ct, osl, rfl, lk, hcd⟩ := F.ex
  refine fn_of lk hcd S len fun A outer s H vs Q E hr hsp => ?_
  obtain ⟨t, h, q⟩ := hbody cdv A outer s H vs Q E hr hsp
  exact ⟨t, h.nox, q⟩
theorem Fun.binds {x qual : Str} {st : Stmt} {f : Addr} {fd : FuncData} {ps : List Str} (F : Fun K x qual st f fd)
    (h : ∀ (kV doc pm : Value) (an : Option Addr) (cdv ct : Value) (us : List Value), us.length = ps.length → bindArgs (PySem.W.fnOf x qual (defArgs st) (defBody st) (defScope st) .none kV doc pm an cdv ct) ⟨us, []⟩ = pure (ps.zip us)) : Binds K fd ps [] := by
  obtain ⟨oc, od, kV, doc, pm, an, cdv, ct, osl, rfl, lk, hcd⟩ := F.ex
  exact .all (h kV doc pm an cdv ct)
theorem fun_mk {x qual : Str} {st : Stmt} {f : Addr} {oc : Value} {od an : Option Addr} {osl : Array (Option Value)} {kV doc pm cdv ct : Value} (l : K.lookup f = some ⟨oc, od, .func (PySem.W.fnOf x qual (defArgs st) (defBody st) (defScope st) .none kV doc pm an cdv ct), osl⟩)
    (c : PySem.W.codeIn K cdv qual = true) (k : PySem.W.keepIn K (.ref f) = true) : Fun K x qual st f (PySem.W.fnOf x qual (defArgs st) (defBody st) (defScope st) .none kV doc pm an cdv ct) := ⟨⟨oc, od, kV, doc, pm, an, cdv, ct, osl, rfl, l, c⟩, k⟩
end
theorem hu_of {A : Around} {k : Nat} (hr : Room k A) : A.units + 1 < cLine := Nat.lt_of_le_of_lt (Nat.add_le_add_left (by decide : 1 ≤ 64) _) hr.units
section
variable {X : Cx}
theorem pv (i : Nat) {x : Str} {pos : Pos} (hN : X.N[i]? = some x := by rfl) (hv : Vis X.env.scope x := by first | exact Or.inl rfl | exact Or.inr (Or.inl rfl) | exact Or.inr (Or.inr rfl)) (hd : (x == ("__debug__" : Str)) = false := by decide)
    (hcd : (x == ("__classdict__" : Str)) = false := by decide) : PE X (.Name x pos) (tVar i) := pe_var hN hv hd hcd
end
theorem iteF {A B : Prop} (h : B) : if false = true then A else B := by
  rw [if_neg Bool.false_ne_true]
  exact h
theorem iteT {A B : Prop} (h : A) : if true = true then A else B := by
  rw [if_pos rfl]
  exact h
theorem ite2 {c A B : Prop} [Decidable c] (h1 : c → A) (h2 : ¬ c → B) : if c then A else B := by
  by_cases h : c
  · rw [if_pos h]
    exact h1 h
  · rw [if_neg h]
    exact h2 h
def Same (H H' : Hp) : Prop := ∀ b o, H b = some o → H' b = some o
theorem Same.refl (H : Hp) : Same H H := fun _ _ h => h
theorem Same.trans {H H1 H2 : Hp} (a : Same H H1) (b : Same H1 H2) : Same H H2 := fun c o h => b c o (a c o h)
theorem Same.free {H H' : Hp} (e : Same H H') {l : Addr} (h : H' l = Option.none) : H l = Option.none := by
  cases q : H l with
  | none => rfl
  | some o =>
    rw [e l o q] at h
    cases h
end L2
set_option Elab.async false
set_option linter.all false
set_option maxRecDepth 100000
namespace L2
open PySem PySem.Spec PyProof.Rows
section
variable {κ : Type} [DecidableEq κ]
def valV (kvs : List (κ × V)) (k : κ) : Option V := (kvs.find? fun kv => decide (kv.1 = k)).map (·.2)
def putK (kvs : List (κ × V)) (k : κ) (v : V) : List (κ × V) :=
  if (kvs.any fun kv => decide (kv.1 = k)) = true then kvs.map (fun kv => if kv.1 = k then (kv.1, v) else kv) else kvs ++ [(k, v)]
def dropK (kvs : List (κ × V)) (k : κ) : List (κ × V) := kvs.filter fun kv => decide (kv.1 ≠ k)
theorem valV_pos {p : κ × V} {r : List (κ × V)} {k : κ} (e : p.1 = k) : valV (p :: r) k = some p.2 := by simp [valV, List.find?_cons, e]
theorem valV_neg {p : κ × V} {r : List (κ × V)} {k : κ} (e : ¬ p.1 = k) : valV (p :: r) k = valV r k := by simp [valV, List.find?_cons, e]
theorem valV_any (k : κ) : ∀ kvs : List (κ × V), (kvs.any fun kv => decide (kv.1 = k)) = (valV kvs k).isSome
  | [] => rfl
  | p :: r => by
    rw [List.any_cons]
    by_cases e : p.1 = k
    · simp only [valV_pos e, decide_eq_true e, Bool.true_or, Option.isSome_some]
    · rw [valV_neg e, decide_eq_false e, Bool.false_or]; exact valV_any k r
theorem length_putK (kvs : List (κ × V)) (k : κ) (v : V) : (putK kvs k v).length ≤ kvs.length + 1 := by
  unfold putK
  split
  · rw [List.length_map]; omega
  · rw [List.length_append, List.length_cons, List.length_nil]; omega
theorem RelO.isSome_eq {o : Option V} {u : Option Value} (r : RelO o u) : o.isSome = u.isSome := by
  cases o with
  | none => cases u with
    | none => rfl
    | some _ => exact (show False from r).elim
  | some _ => cases u with
    | none => exact (show False from r).elim
    | some _ => rfl
theorem RelO.getD {o : Option V} {u : Option Value} {d : V} {d' : Value} (r : RelO o u) (rd : RelV d d') : RelV (o.getD d) (u.getD d') := by
  cases o with
  | none => cases u with
    | none => exact rd
    | some _ => exact (show False from r).elim
  | some _ => cases u with
    | none => exact (show False from r).elim
    | some _ => exact r
theorem KV.val {kvs : List (κ × V)} {vs : List (κ × Value)} (r : KV kvs vs) (k : κ) : RelO (valV kvs k) (valueAt vs k) := by
  unfold KV at r
  induction r with
  | nil => exact True.intro
  | @cons p q ps qs h t ih =>
    obtain ⟨h1, h2⟩ := h
    by_cases e : p.1 = k
    · have e' : q.1 = k := h1.symm.trans e
      have b : valueAt (q :: qs) k = some q.2 := by simp [valueAt, List.find?_cons, e']
      rw [valV_pos e, b]; exact h2
    · have e' : ¬ q.1 = k := fun z => e (h1.trans z)
      have b : valueAt (q :: qs) k = valueAt qs k := by simp [valueAt, List.find?_cons, e']
      rw [valV_neg e, b]; exact ih
theorem KV.any {kvs : List (κ × V)} {vs : List (κ × Value)} (r : KV kvs vs) (k : κ) : (kvs.any fun kv => decide (kv.1 = k)) = vs.any fun kv => decide (kv.1 = k) := by
  unfold KV at r
  induction r with
  | nil => rfl
  | cons h t ih => rw [List.any_cons, List.any_cons, ih, h.1]
theorem KV.repl {kvs : List (κ × V)} {vs : List (κ × Value)} (r : KV kvs vs) (k : κ) {y : V} {u : Value} (ry : RelV y u) :
    KV (kvs.map fun kv => if kv.1 = k then (kv.1, y) else kv) (vs.map fun kv => if kv.1 = k then (kv.1, u) else kv) := by
  unfold KV at r ⊢
  induction r with
  | nil => exact .nil
  | @cons p q ps qs h t ih =>
    rw [List.map_cons, List.map_cons]
    refine .cons ?_ ih
    obtain ⟨h1, h2⟩ := h
    by_cases e : p.1 = k
    · rw [if_pos e, if_pos (h1.symm.trans e)]; exact ⟨h1, ry⟩
    · rw [if_neg e, if_neg (fun z => e (h1.trans z))]; exact ⟨h1, h2⟩
theorem KV.put {kvs : List (κ × V)} {vs : List (κ × Value)} (r : KV kvs vs) (k : κ) {y : V} {u : Value} (ry : RelV y u) : KV (putK kvs k y) (stored vs k u) := by
  unfold putK stored
  rw [r.any k]
  by_cases e : (vs.any fun kv => decide (kv.1 = k)) = true
  · rw [if_pos e, if_pos e]; exact r.repl k ry
  · rw [if_neg e, if_neg e]; exact Paired.snoc r ⟨rfl, ry⟩
theorem KV.drop {kvs : List (κ × V)} {vs : List (κ × Value)} (r : KV kvs vs) (k : κ) : KV (dropK kvs k) (without vs k) := by
  unfold KV at r ⊢
  unfold dropK without
  induction r with
  | nil => exact .nil
  | @cons p q ps qs h t ih =>
    obtain ⟨h1, h2⟩ := h
    rw [List.filter_cons, List.filter_cons]
    by_cases e : p.1 = k
    · have a : ¬ decide (p.1 ≠ k) = true := by simp [e]
      have b : ¬ decide (q.1 ≠ k) = true := by simp [h1.symm.trans e]
      rw [if_neg a, if_neg b]; exact ih
    · have e' : ¬ q.1 = k := fun z => e (h1.trans z)
      have a : decide (p.1 ≠ k) = true := by simp [e]
      have b : decide (q.1 ≠ k) = true := by simp [e']
      rw [if_pos a, if_pos b]; exact .cons ⟨h1, h2⟩ ih
theorem KV.keys {kvs : List (κ × V)} {vs : List (κ × Value)} (r : KV kvs vs) : kvs.map (·.1) = vs.map (·.1) := by
  unfold KV at r
  induction r with
  | nil => rfl
  | cons h t ih => rw [List.map_cons, List.map_cons, ih, h.1]
theorem KV.length {kvs : List (κ × V)} {vs : List (κ × Value)} (r : KV kvs vs) : kvs.length = vs.length := Paired.length r
end
theorem kV_is {P : Program} {w : World} {k : Key} {u : Value} (r : RelV (kV k) u) : (mixKind P w).is k u = true := by
  cases k with
  | inl i => obtain ⟨t, e⟩ := (show ∃ t, u = Value.int i t from r); subst e; exact mixKind_int P w i t
  | inr x => obtain ⟨t, e⟩ := (show ∃ t, u = Value.str x t from r); subst e; exact mixKind_str P w x t
theorem items_are {P : Program} {w : World} : ∀ {ks : List Key} {us : List Value}, Vals (ks.map kV) us → ItemsAre (mixKind P w) ks us
  | [], _, r => by rw [List.map_nil] at r; cases r; exact .nil
  | k :: ks, _, r => by
    rw [List.map_cons] at r
    cases r with
    | cons h t => exact .cons (kV_is h) (items_are t)
abbrev KT (H : Hp) : List (List Key × V) → List (List Key × Addr × Value) → Prop := Paired fun p q => p.1 = q.1 ∧ H q.2.1 = some (.tup (p.1.map kV)) ∧ RelV p.2 q.2.2
theorem KT.val {H : Hp} {kvs : List (List Key × V)} {xs : List (List Key × Addr × Value)} (r : KT H kvs xs) (k : List Key) : RelO (valV kvs k) ((atKey xs k).map (·.2)) := by
  induction r with
  | nil => exact True.intro
  | @cons p q ps qs h t ih =>
    obtain ⟨h1, _, h2⟩ := h
    by_cases e : p.1 = k
    · have e' : q.1 = k := h1.symm.trans e
      have b : atKey (q :: qs) k = some q.2 := by simp [atKey, List.find?_cons, e']
      rw [valV_pos e, b]; exact h2
    · have e' : ¬ q.1 = k := fun z => e (h1.trans z)
      have b : atKey (q :: qs) k = atKey qs k := by simp [atKey, List.find?_cons, e']
      rw [valV_neg e, b]; exact ih
theorem KT.repl {H : Hp} {kvs : List (List Key × V)} {xs : List (List Key × Addr × Value)} (r : KT H kvs xs) (k : List Key) {y : V} {u : Value} (ry : RelV y u) :
    KT H (kvs.map fun kv => if kv.1 = k then (kv.1, y) else kv) (xs.map (putAt k u)) := by
  induction r with
  | nil => exact .nil
  | @cons p q ps qs h t ih =>
    rw [List.map_cons, List.map_cons]
    refine .cons ?_ ih
    obtain ⟨h1, h2, h3⟩ := h
    unfold putAt
    by_cases e : p.1 = k
    · rw [if_pos e, if_pos (h1.symm.trans e)]; exact ⟨h1, h2, ry⟩
    · rw [if_neg e, if_neg (fun z => e (h1.trans z))]; exact ⟨h1, h2, h3⟩
theorem KT.put {H : Hp} {kvs : List (List Key × V)} {xs : List (List Key × Addr × Value)} (r : KT H kvs xs) (k : List Key) {b : Addr} {y : V} {u : Value} (hb : H b = some (.tup (k.map kV))) (ry : RelV y u) :
    KT H (putK kvs k y) (storedH xs k b u) := by
  have e : (kvs.any fun kv => decide (kv.1 = k)) = (atKey xs k).isSome := by
    rw [valV_any, (r.val k).isSome_eq, Option.isSome_map]
  unfold putK storedH
  rw [e]
  by_cases q : (atKey xs k).isSome = true
  · rw [if_pos q, if_pos q]; exact r.repl k ry
  · rw [if_neg q, if_neg q]; exact Paired.snoc r ⟨rfl, hb, ry⟩
theorem KT.keeps {H H' : Hp} {kvs : List (List Key × V)} {xs : List (List Key × Addr × Value)} (r : KT H kvs xs) (ht : ∀ b ys, H b = some (.tup ys) → H' b = some (.tup ys)) : KT H' kvs xs :=
  Paired.mapP r fun _ _ z => ⟨z.1, ht _ _ z.2.1, z.2.2⟩
section
variable {P : Program} {w : World} {H : Hp} {h : Heap} {a : Addr}
theorem rd_of {u : HO} (ok : HOk P w H h) (e : Rd H a u) : ObjOk P w H h a u := e.ok ok
theorem dk_rd {kvs : List (Key × V)} (ok : HOk P w H h) (e : Rd H a (.dK kvs)) : kvs.length ≤ sizeLine ∧ (a == sysModules) = false ∧ ∃ vs, KV kvs vs ∧ h.DictOf (mixKind P w) a vs :=
  show ObjOk P w H h a (.dK kvs) from rd_of ok e
theorem dk_of {kvs : List (Key × V)} (ok : HOk P w H h) (e : H a = some (.dK kvs)) : kvs.length ≤ sizeLine ∧ (a == sysModules) = false ∧ ∃ vs, KV kvs vs ∧ h.DictOf (mixKind P w) a vs := dk_rd ok (.inl e)
theorem key_of {ks : List Key} (ok : HOk P w H h) (e : H a = some (.tup (ks.map kV))) : (tupleKind (mixKind P w)).is h ks a := by
  obtain ⟨_, its, r, o, h1, h2, n, h3⟩ := (show ObjOk P w H h a (.tup (ks.map kV)) from ok a _ e)
  exact ⟨o, its.toArray, n, h1, h2, h3, by simpa using items_are r⟩
theorem dt_rd {kvs : List (List Key × V)} (ok : HOk P w H h) (e : Rd H a (.dT kvs)) : kvs.length ≤ sizeLine ∧ (a == sysModules) = false ∧
    ∃ xs, KT H kvs xs ∧ h.DictOfH (tupleKind (mixKind P w)) a xs := by
  obtain ⟨z, y, xs, r, o, es, ep, h1, h2, h3, h4, h5⟩ := (show ObjOk P w H h a (.dT kvs) from rd_of ok e)
  refine ⟨z, y, xs, r, o, es, ep, h1, h2, h3, h4, fun x hx => ?_, h5⟩
  have all : ∀ {l : List (List Key × V)} {m : List (List Key × Addr × Value)}, KT H l m → ∀ x ∈ m, (tupleKind (mixKind P w)).is h x.1 x.2.1 := by
    intro l m q
    induction q with
    | nil => intro x hx; exact nomatch hx
    | @cons p q ps qs hq t ih =>
      intro x hx
      rcases List.mem_cons.mp hx with e | hx
      · subst e
        exact key_of ok (by rw [← hq.1]; exact hq.2.1)
      · exact ih x hx
  exact all r x hx
theorem dt_of {kvs : List (List Key × V)} (ok : HOk P w H h) (e : H a = some (.dT kvs)) : kvs.length ≤ sizeLine ∧ (a == sysModules) = false ∧
    ∃ xs, KT H kvs xs ∧ h.DictOfH (tupleKind (mixKind P w)) a xs := dt_rd ok (.inl e)
end
def DGet (H : Hp) (a : Addr) (y : V) (r : Option V) : Prop :=
  (∃ kvs k, Rd H a (.dK kvs) ∧ y = kV k ∧ r = valV kvs k) ∨ ∃ kvs k b, Rd H a (.dT kvs) ∧ y = .ref b ∧ H b = some (.tup (k.map kV)) ∧ r = valV kvs k
def DPut (H : Hp) (a : Addr) (y v : V) (H' : Hp) : Prop :=
  (∃ kvs k, H a = some (.dK kvs) ∧ y = kV k ∧ kvs.length < sizeLine ∧ H' = upd H a (.dK (putK kvs k v))) ∨
  ∃ kvs k b, H a = some (.dT kvs) ∧ y = .ref b ∧ H b = some (.tup (k.map kV)) ∧ kvs.length < sizeLine ∧ H' = upd H a (.dT (putK kvs k v))
theorem DGet.k {H : Hp} {a : Addr} {kvs : List (Key × V)} {k : Key} (e : H a = some (.dK kvs)) : DGet H a (kV k) (valV kvs k) := .inl ⟨kvs, k, .inl e, rfl, rfl⟩
theorem DPut.k {H : Hp} {a : Addr} {kvs : List (Key × V)} {k : Key} {v : V} (e : H a = some (.dK kvs)) (hl : kvs.length < sizeLine) : DPut H a (kV k) v (upd H a (.dK (putK kvs k v))) := .inl ⟨kvs, k, e, rfl, hl, rfl⟩
section
variable {X : Cx} {pins : List (Addr × Obj)} {σ : St} {H : Hp} {s : Shared} {a : Addr} {y v : V} {u r : Value} {o : Option V} {A : Around} {E : Value → Shared → Prop}
theorem Inv.big (I : Inv X pins σ H s) : sysModules < s.heap.objs.size := by
  have h : mainGlobals < s.heap.objs.size := (I.mod.glob.keeps I.bk).lt
  exact Nat.lt_trans (by decide) h
theorem d_getItem {Q : Value → Shared → Prop} (hu : A.units + 1 < cLine) (I : Inv X pins σ H s) (g : DGet H a y (some v)) (ry : RelV y u) (h : ∀ w' s', Inv X pins σ H s' → RelV v w' → Q w' s') :
    wpAny (model X.prog X.w) A (getItem (.ref a) u) Q E s := by
  rcases g with ⟨kvs, k, e, ey, l⟩ | ⟨kvs, k, b, e, ey, eb, l⟩
  · subst ey
    obtain ⟨z, hd, vs, rel, dd⟩ := dk_rd I.hok e
    obtain ⟨w', hw, rw'⟩ := RelO.some_of (v := v) (o := valueAt vs k) (by rw [l]; exact rel.val k)
    exact wpAny_getItem_of (kV_is ry) dd.mapOf hw (h w' _ (I.tok _) rw')
  · subst ey
    cases (show u = Value.ref b from ry)
    obtain ⟨z, hd, xs, rel, dd⟩ := dt_rd I.hok e
    obtain ⟨w', hw, rw'⟩ := RelO.some_of (v := v) (o := (atKey xs k).map (·.2)) (by rw [l]; exact rel.val k)
    obtain ⟨p, hp, hp2⟩ := Option.map_eq_some_iff.mp hw
    refine wpAny_getItem_heap (tupleKind_room_in1 hu) (key_of I.hok eb) dd hp ?_
    rw [hp2]
    exact h w' _ (I.tok _) rw'
theorem d_write {h' : Heap} {t' : Nat} {ob : HO} (I : Inv X pins σ H s) (mu : Mut (H a)) (hs : Heap.SameBut a s.heap h') (he : ∃ q, h'.get? a = some q) (new : ObjOk X.prog X.w (upd H a ob) h' a ob) :
    Inv X pins σ (upd H a ob) { s with heap := h', toks := t' } :=
  I.write (x := a) (e := a) mu (.inl rfl) (fun b q hb z => (hs.2 b hb).trans z) he new
theorem dk_new {P : Program} {w : World} {H' : Hp} {h' : Heap} {kvs : List (Key × V)} {vs : List (Key × Value)} (z : kvs.length ≤ sizeLine) (hd : (a == sysModules) = false) (rel : KV kvs vs) (dd : h'.DictOf (mixKind P w) a vs) :
    ObjOk P w H' h' a (.dK kvs) := ⟨z, hd, vs, rel, dd⟩
theorem d_setItem {H' : Hp} {Q : Unit → Shared → Prop} (hu : A.units + 1 < cLine) (I : Inv X pins σ H s) (g : DPut H a y v H') (ry : RelV y u) (rv : RelV v r) (h : ∀ s', Inv X pins σ H' s' → Q () s') :
    wpAny (model X.prog X.w) A (setItem (.ref a) u r) Q E s := by
  rcases g with ⟨kvs, k, e, ey, l, eH⟩ | ⟨kvs, k, b, e, ey, eb, l, eH⟩
  · subst ey eH
    obtain ⟨z, hd, vs, rel, dd⟩ := dk_of I.hok e
    have hz : vs.length ≤ sizeLine := by rw [← rel.length]; exact z
    have hl : (putK kvs k v).length ≤ sizeLine := by have := length_putK kvs k v; omega
    refine wpAny_setItem_pairs (hsz := hz) (kV_is ry) dd fun h' dd' hs => h _ ?_
    have he : ∃ q, h'.get? a = some q := let ⟨q, _, _, hq, _⟩ := dd'; ⟨q, hq⟩
    exact d_write I (by rw [e]; exact True.intro) hs he (dk_new hl hd (rel.put k rv) dd')
  · subst ey eH
    cases (show u = Value.ref b from ry)
    obtain ⟨z, hd, xs, rel, dd⟩ := dt_of I.hok e
    have hz : xs.length ≤ sizeLine := by rw [← Paired.length rel]; exact z
    have hl : (putK kvs k v).length ≤ sizeLine := by have := length_putK kvs k v; omega
    refine wpAny_setItem_heap (hsz := hz) (tupleKind_room_in1 hu) (key_of I.hok eb) dd fun h' dd' hs => h _ ?_
    obtain ⟨q, es, ep, hq, h2, h3, h4, _, h5⟩ := dd'
    refine d_write I (by rw [e]; exact True.intro) hs ⟨q, hq⟩ ⟨hl, hd, _, (rel.put k eb rv).keeps fun c ys ec => ?_, q, es, ep, hq, h2, h3, h4, h5⟩
    rw [upd_ne (ne_of ec e (fun z => nomatch z))]
    exact ec
end
section
variable {X : Cx} {pins : List (Addr × Obj)} {σ : St} {H : Hp} {s : Shared} {a : Addr} {kvs : List (Key × V)} {k : Key} {u : Value} {A : Around} {E : Value → Shared → Prop}
end
def NoSl (i : Expr) : Prop := ∀ ov iv, subscripted i false ov iv = operate [ov, iv] (getItem ov iv)
theorem subD_of {prog : Program} {w : World} {A : Around} {E : Value → Shared → Prop} {s : Shared} {env : Env} {value slice : Expr} {pos : Pos} {T id : String} {Q : Value → Shared → Prop}
    (hl : typeLookup (.type T) "__getitem__" = pure (some (.builtin id))) (hs : NoSl slice)
    (h : wpAny (model prog w) A (eval value env) (fun o s₁ => wpAny (model prog w) A (eval slice env) (fun i s₂ => s₂.TypeIs o T ∧ wpAny (model prog w) A (getItem o i) Q E s₂) E s₁) E s) :
    wpAny (model prog w) A (eval (.Subscript value slice pos) env) Q E s := by
  refine Subscript_ (wpAny_mono h (fun o s₁ h₁ => wpAny_mono h₁ (fun i s₂ h₂ => ?_) fun _ _ x => x) fun _ _ x => x)
  obtain ⟨hT, h₂⟩ := h₂
  unfold subscriptTail
  refine wpAny_bind ?_
  rw [getitemInPython_of_ne hT.not_modules]
  refine wpAny_bind (wpAny_specialOf hT hl ?_)
  have fin : wpAny (model prog w) A (subscripted slice false o i) (fun r s₃ => wpAny (model prog w) A (letTemporaryGo value o r >>= fun _ => pure r) Q E s₃) E s₂ := by
    rw [hs o i]
    exact wpAny_operating (wpAny_mono h₂ (fun r s₃ h₃ => wpAny_bind (wpAny_letTemporaryGo (wpAny_pure h₃))) fun _ _ x => x)
  first
    | exact wpAny_pure (wpAny_bind fin)
    | exact wpAny_bind (wpAny_pure (wpAny_bind fin))
    | exact wpAny_bind fin
theorem dict_typeIs {X : Cx} {pins : List (Addr × Obj)} {σ : St} {H : Hp} {s : Shared} {a : Addr} {y : V} {o : Option V} (I : Inv X pins σ H s) (g : DGet H a y o) : s.TypeIs (.ref a) "dict" := by
  rcases g with ⟨kvs, k, e, _, _⟩ | ⟨kvs, k, b, e, _, _, _⟩
  · obtain ⟨_, _, vs, _, dd⟩ := dk_rd I.hok e
    exact dd.typeIs
  · obtain ⟨_, _, xs, _, dd⟩ := dt_rd I.hok e
    exact dd.typeIs
def tDGet (td ty : TE) : TE := fun σ H Q => td σ H fun x H1 => ty σ H1 fun y H2 => ∃ a v, x = .ref a ∧ DGet H2 a y (some v) ∧ Q v H2
def sDPut (td ty tv : TE) : TS := fun D σ H => tv σ H fun v H1 => td σ H1 fun x H2 => ty σ H2 fun y H3 => ∃ a H4, x = .ref a ∧ DPut H3 a y v H4 ∧ D.nx σ H4
section
variable {X : Cx} {o i e value : Expr} {pos pos' tpos : Pos} {td ty tv : TE}
theorem pe_dget (hu : X.A.units + 1 < cLine) (ho : PE X o td) (hi : PE X i ty) (hs : NoSl i) : PE X (.Subscript o i pos) (tDGet td ty) := by
  intro pins s σ H Q I h
  refine subD_of PySem.F.slot_dict_getitem.lookup hs (thn (ho pins s σ H _ I h) fun u s1 ⟨x, H1, I1, rx, q1⟩ => thn (hi pins s1 σ H1 _ I1 q1) fun iv s2 ⟨y, H2, I2, ry, a, v, ex, g, q2⟩ => ?_)
  subst ex
  obtain rfl : u = Value.ref a := rx
  exact ⟨dict_typeIs I2 g, d_getItem hu I2 g ry fun w' s3 I3 rw' => ⟨v, H2, I3, rw', q2⟩⟩
theorem ps_dput (hu : X.A.units + 1 < cLine) (ho : PE X o td) (hi : PE X i ty) (hv : PE X value tv) (hs : swapsWith value (some (.Subscript o i pos')) pos.line X.env = pure false) :
    PS X (.Assign [.Subscript o i pos'] value pos) (sDPut td ty tv) := by
  intro pins s σ H D I h
  refine wpAny_Assign_Subscript (thn (hv pins s σ H _ I h) fun r s1 ⟨v, H1, I1, rv, q1⟩ => thn (ho pins s1 σ H1 _ I1 q1) fun u s2 ⟨x, H2, I2, rx, q2⟩ => thn (hi pins s2 σ H2 _ I2 q2) fun iv s3 ⟨y, H3, I3, ry, a, H4, ex, g, q3⟩ => ?_) hs
  subst ex
  obtain rfl : u = Value.ref a := rx
  exact d_setItem hu I3 g ry rv fun s4 I4 => ⟨σ, H4, I4, q3⟩
end
theorem dk_empty {P : Program} {w : World} {H : Hp} (h : Heap) (hb : sysModules < h.objs.size) : ObjOk P w H (h.push { cls := .type "dict", data := .dict #[] }) h.objs.size (.dK []) :=
  ⟨Nat.zero_le _, beq_eq_false_iff_ne.mpr (Ne.symm (Nat.ne_of_lt hb)), [], .nil, Heap.DictOf.new h⟩
section
variable {X : Cx} {pos : Pos}
end
def tPairs : List (TE × TE) → St → Hp → (List (V × V) → Hp → Prop) → Prop
  | [], _, H, Q => Q [] H
  | (tk, tv) :: r, σ, H, Q => tk σ H fun x H1 => tv σ H1 fun y H2 => tPairs r σ H2 fun ps H3 => Q ((x, y) :: ps) H3
abbrev VV : List (V × V) → List (Value × Value) → Prop := Paired fun p q => RelV p.1 q.1 ∧ RelV p.2 q.2
def PPs (X : Cx) (pos : Pos) (keys : List (Option Expr)) (values : List Expr) (trs : List (TE × TE)) : Prop :=
  ∀ (pins : List (Addr × Obj)) (s : Shared) (σ : St) (H : Hp) (Q : List (V × V) → Hp → Prop), Inv X pins σ H s → tPairs trs σ H Q →
    wpAny (model X.prog X.w) X.A (evalPairs (pairTrees keys values X.env pos)) (fun vs s' => ∃ ps H', Inv X pins σ H' s' ∧ VV ps vs ∧ Q ps H') X.xe s
theorem pps_nil {X : Cx} {pos : Pos} : PPs X pos [] [] [] := fun pins s σ H Q I h => pairTrees_nil_walk ⟨[], H, I, .nil, h⟩
theorem pps_cons {X : Cx} {pos : Pos} {k v : Expr} {ks : List (Option Expr)} {vs : List Expr} {tk tv : TE} {trs : List (TE × TE)} (hk : PE X k tk) (hv : PE X v tv) (hr : PPs X pos ks vs trs) :
    PPs X pos (some k :: ks) (v :: vs) ((tk, tv) :: trs) := fun pins s σ H Q I h =>
  pairTrees_cons_walk (thn (hk pins s σ H _ I h) fun u s1 ⟨x, H1, I1, rx, q1⟩ => thn (hv pins s1 σ H1 _ I1 q1) fun w2 s2 ⟨y, H2, I2, ry, q2⟩ =>
    thn (hr pins s2 σ H2 _ I2 q2) fun ws s3 ⟨ps, H3, I3, rel, q3⟩ => ⟨(x, y) :: ps, H3, I3, .cons ⟨rx, ry⟩ rel, q3⟩)
def mergeK (kvs more : List (Key × V)) : List (Key × V) := more.foldl (fun acc kv => putK acc kv.1 kv.2) kvs
theorem KV.merge : ∀ {more : List (Key × V)} {rs : List (Key × Value)} {kvs : List (Key × V)} {vs : List (Key × Value)}, KV more rs → KV kvs vs → KV (mergeK kvs more) (merged vs rs) := by
  intro more rs kvs vs r
  unfold KV at r
  induction r generalizing kvs vs with
  | nil => intro q; exact q
  | @cons p q ps qs h t ih =>
    intro r0
    have e : KV (putK kvs p.1 p.2) (stored vs q.1 q.2) := by
      have := r0.put p.1 h.2
      rw [← h.1]; exact this
    exact ih e
theorem length_mergeK : ∀ (more kvs : List (Key × V)), (mergeK kvs more).length ≤ kvs.length + more.length
  | [], kvs => by show kvs.length ≤ kvs.length + 0; omega
  | p :: r, kvs => by
    have h1 := length_mergeK r (putK kvs p.1 p.2)
    have h2 := length_putK kvs p.1 p.2
    show (mergeK (putK kvs p.1 p.2) r).length ≤ _
    rw [List.length_cons]; omega
theorem carries_of {P : Program} {w : World} : ∀ {kvs : List (Key × V)} {ws : List (Value × Value)}, VV (kvs.map fun kv => (kV kv.1, kv.2)) ws → ∃ rs, Carries (mixKind P w) ws rs ∧ KV kvs rs
  | [], _, r => by rw [List.map_nil] at r; cases r; exact ⟨[], True.intro, .nil⟩
  | p :: kvs, _, r => by
    rw [List.map_cons] at r
    cases r with
    | @cons a b as bs h t =>
      obtain ⟨rs, c, q⟩ := carries_of (P := P) (w := w) t
      obtain ⟨b1, b2⟩ := b
      exact ⟨(p.1, b2) :: rs, ⟨kV_is h.1, rfl, c⟩, .cons ⟨rfl, h.2⟩ q⟩
def tDisp (trs : List (TE × TE)) : TE := fun σ H Q => ∀ p, H p = none → tPairs trs σ (upd H p (.dK [])) fun ps H2 => H2 p = some (.dK []) ∧ ∃ kvs : List (Key × V), ps = kvs.map (fun kv => (kV kv.1, kv.2)) ∧ kvs.length ≤ 15 ∧ Q (.ref p) (upd H2 p (.dK (mergeK [] kvs)))
theorem pe_disp {X : Cx} {pos : Pos} {keys : List (Option Expr)} {values : List Expr} {trs : List (TE × TE)} (h : PPs X pos keys values trs) (hall : keys.all (·.isSome) = true) (hl : keys.length = values.length) (h0 : keys ≠ [])
    (h15 : keys.length ≤ 15) : PE X (.Dict keys values pos) (tDisp trs) := by
  intro pins s σ H Q I q
  have hn := I.hok.fresh (Nat.le_refl s.heap.objs.size)
  have I1 := I.laid (a := s.heap.objs.size) (o := .dK []) (h' := s.heap.push { cls := .type "dict", data := .dict #[] }) (t' := s.toks) (fun _ _ q => Heap.get?_push_of_some _ q) (Nat.le_refl _) (dk_empty s.heap I.big)
  refine wpAny_Dict_walk (knd := mixKind X.prog X.w) hall hl h0 h15 (thn (h pins _ σ _ _ I1 (q _ hn)) fun ws s2 ⟨ps, H2, I2, rel, e, kvs, ep, lk, q2⟩ => ?_)
  subst ep
  obtain ⟨rs, c, rk⟩ := carries_of (P := X.prog) (w := X.w) rel
  obtain ⟨z, hd, vs0, r0, dd⟩ := dk_of I2.hok e
  cases r0
  refine ⟨rs, c, dd, fun h' dd' hs => ⟨.ref s.heap.objs.size, _, ?_, rfl, q2⟩⟩
  have hz : (mergeK [] kvs).length ≤ sizeLine := by
    have h1 := length_mergeK kvs []
    rw [List.length_nil] at h1
    rw [sizeLine_eq]; omega
  have he : ∃ q, h'.get? s.heap.objs.size = some q := let ⟨q, _, _, hq, _⟩ := dd'; ⟨q, hq⟩
  exact d_write I2 (by rw [e]; exact True.intro) hs he (dk_new hz hd (rk.merge .nil) dd')
structure M1 (X : Cx) (o : Expr) (m : Str) (apos : Pos) (e : Expr) (cpos : Pos) : Prop where
  base : attributeBase o m X.env (eval o X.env) = eval o X.env
  few : ((backTo cpos (starEach [e] X.env)).all (fun x => !x.1) && (backToKw cpos (keywordEach [] X.env)).all (fun x => x.1.isSome)
    && decide (([e] : List Expr).length + ([] : List Keyword).length + (if ([] : List Keyword).isEmpty then 0 else 1) < 30)) = true
  line : (apos.endLine == cpos.line) = true
  trees : backTo cpos (starEach [e] X.env) = [(false, eval e X.env)]
structure M2 (X : Cx) (o : Expr) (m : Str) (apos : Pos) (e f : Expr) (cpos : Pos) : Prop where
  base : attributeBase o m X.env (eval o X.env) = eval o X.env
  few : ((backTo cpos (starEach [e, f] X.env)).all (fun x => !x.1) && (backToKw cpos (keywordEach [] X.env)).all (fun x => x.1.isSome)
    && decide (([e, f] : List Expr).length + ([] : List Keyword).length + (if ([] : List Keyword).isEmpty then 0 else 1) < 30)) = true
  line : (apos.endLine == cpos.line) = true
  trees : backTo cpos (starEach [e, f] X.env) = [(false, eval e X.env), (false, eval f X.env)]
section
variable {X : Cx} {pins : List (Addr × Obj)} {σ : St} {H : Hp} {s : Shared} {a : Addr} {y d : V} {u r : Value} {o : Option V} {A : Around} {E : Value → Shared → Prop}
end
section
variable {X : Cx} {o e f : Expr} {apos cpos : Pos} {td ty tx : TE}
end
section
variable {X : Cx} {pins : List (Addr × Obj)} {σ : St} {H : Hp} {s : Shared} {a : Addr} {kvs : List (Key × V)} {A : Around} {E : Value → Shared → Prop}
end
section
variable {X : Cx} {pins : List (Addr × Obj)} {σ : St} {H : Hp} {s : Shared} {a : Addr} {y : V} {u : Value} {A : Around} {E : Value → Shared → Prop}
end
end L2
namespace L2
open PySem PySem.Spec PyProof.Rows
section
variable {X : Cx}
end
section
variable {κ : Type} [DecidableEq κ]
end
end L2
set_option Elab.async false
set_option linter.all false
set_option maxRecDepth 100000
namespace L2
open PySem PySem.Spec PyProof.Rows
def noX : Value → Shared → Prop := fun _ _ => False
def closL (env : Env) : List (Str × NameKind) → List (Str × Addr) → List (Str × Addr)
  | [], acc => acc
  | (n, k) :: r, acc => closL env r (if (k == NameKind.free) = true then (n, (env.cells.lookup n).getD 0) :: acc else acc)
theorem closL_sub {env : Env} : ∀ {names : List (Str × NameKind)} {acc : List (Str × Addr)}, (∀ x, (x, NameKind.free) ∈ names → ∃ c, env.cells.lookup x = some c) → (∀ x c, acc.lookup x = some c → env.cells.lookup x = some c) →
    ∀ x c, (closL env names acc).lookup x = some c → env.cells.lookup x = some c
  | [], acc, _, ha, x, c, h => ha x c h
  | (n, k) :: r, acc, hf, ha, x, c, h => by
    refine closL_sub (names := r) (fun y hy => hf y (List.mem_cons_of_mem _ hy)) (fun y d hd => ?_) x c h
    split at hd
    · rename_i hk
      have hk' : k = NameKind.free := by simpa using hk
      subst hk'
      obtain ⟨e, he⟩ := hf n List.mem_cons_self
      by_cases hyn : y = n
      · subst hyn
        rw [List.lookup_cons_self, he] at hd
        rw [he]; exact hd
      · rw [List.lookup_cons, beq_eq_false_iff_ne.mpr hyn] at hd
        exact ha y d hd
    · exact ha y d hd
theorem closL_has {env : Env} : ∀ {names : List (Str × NameKind)} {acc : List (Str × Addr)} {x : Str}, ((x, NameKind.free) ∈ names ∨ ∃ c, acc.lookup x = some c) → ∃ c, (closL env names acc).lookup x = some c
  | [], acc, x, h => by
    rcases h with h | h
    · exact absurd h (by simp)
    · exact h
  | (n, k) :: r, acc, x, h => by
    refine closL_has (names := r) ?_
    rcases h with h | ⟨c, h⟩
    · rcases List.mem_cons.mp h with e | h
      · cases e
        refine .inr ⟨(env.cells.lookup n).getD 0, ?_⟩
        rw [if_pos (by rfl), List.lookup_cons_self]
      · exact .inl h
    · refine .inr ?_
      split
      · by_cases hyn : x = n
        · subst hyn
          exact ⟨_, List.lookup_cons_self⟩
        · refine ⟨c, ?_⟩
          rw [List.lookup_cons, beq_eq_false_iff_ne.mpr hyn]
          exact h
      · exact ⟨c, h⟩
theorem closure_run {env : Env} (f : Str × NameKind → List (Str × Addr) → Sem (ForInStep (List (Str × Addr))))
    (hf : ∀ n k c, f (n, k) c = (if (k == NameKind.free) = true then (do let a ← cellOf env n; pure (ForInStep.yield ((n, a) :: c))) else pure (ForInStep.yield c))) :
    ∀ (names : List (Str × NameKind)) (acc : List (Str × Addr)), (∀ x, (x, NameKind.free) ∈ names → ∃ c, env.cells.lookup x = some c) → forIn names acc f = (pure (closL env names acc) : Sem _)
  | [], acc, _ => rfl
  | (n, k) :: r, acc, h => by
    have ih := fun acc => closure_run f hf r acc fun x hx => h x (List.mem_cons_of_mem _ hx)
    rw [List.forIn_cons, hf]
    by_cases hk : (k == NameKind.free) = true
    · have hk' : k = NameKind.free := by simpa using hk
      subst hk'
      obtain ⟨c, hc⟩ := h n List.mem_cons_self
      rw [if_pos hk]
      unfold cellOf closL
      rw [hc, if_pos hk]
      exact ih _
    · rw [if_neg hk]
      unfold closL
      rw [if_neg hk]
      exact ih _
theorem closure_ok {scope : Scope} {env : Env} (h : ∀ x, (x, NameKind.free) ∈ scope.names → ∃ c, env.cells.lookup x = some c) : closureFor scope env = pure (closL env scope.names []) := by
  unfold closureFor
  dsimp only
  rw [closure_run (env := env) _ (fun n k c => ?_) scope.names [] h]
  · rfl
  · rfl
theorem relabel_lookup {env : Env} {x : Str} : ∀ {names : List (Str × NameKind)},
    (names.map fun (n, k) => if (k == NameKind.free && env.scope.kind == .function && env.kindOf n == some .cell) = true then (n, NameKind.cell) else (n, k)).lookup x =
      (names.lookup x).map fun k => if (k == NameKind.free && env.scope.kind == .function && env.kindOf x == some .cell) = true then NameKind.cell else k
  | [] => rfl
  | (n, k) :: r => by
    have ih := @relabel_lookup env x r
    rw [List.map_cons]
    by_cases hx : x = n
    · subst hx
      dsimp only
      rw [List.lookup_cons_self (b := k), Option.map_some]
      split
      · rw [List.lookup_cons_self]
      · rw [List.lookup_cons_self]
    · have hb : (x == n) = false := beq_eq_false_iff_ne.mpr hx
      dsimp only
      rw [List.lookup_cons (k := n) (b := k), hb]
      dsimp only
      rw [← ih]
      split
      · rw [List.lookup_cons, hb]
      · rw [List.lookup_cons, hb]
structure LcZ where
  L : Addr
  cl : List (Str × Addr)
  ex : List Addr
  s₀ : Shared
  H₀ : Hp
def lcCx (X : Cx) (scope : Scope) (own : List Str) (fv : List Nat) (z : LcZ) : Cx where
  prog := X.prog
  w := X.w
  K := X.K
  mg := X.mg
  base := X.base
  A := X.A
  N := own ++ fv.map fun i => X.N.getD i Str.empty
  s₀ := z.s₀
  H₀ := z.H₀
  env := compEnvC scope z.cl z.L X.env
  outer := X.stack
  stack := X.stack
  ex := z.ex
  fn := fun _ => false
  calm := X.calm
  pn := []
  xe := noX
structure LcScope (X : Cx) (scope : Scope) (own : List Str) (fv : List Nat) : Prop where
  kind : scope.kind = .function
  nocell : ∀ y ∈ scope.names, y.2 ≠ .cell
  names : ∀ y ∈ scope.names, y.2 = .local → scope.names.lookup y.1 = some .local
  free : ∀ y ∈ scope.names, y.2 = .free → X.env.kindOf y.1 = some .cell ∨ X.env.kindOf y.1 = some .free
  nd : (own ++ fv.map fun i => X.N.getD i Str.empty).Nodup
  fvs : ∀ i ∈ fv, i < X.N.length ∧ scope.names.lookup (X.N.getD i Str.empty) = some .free
def lcStart (own : List Str) (fv : List Nat) (σ : St) : St := (own.map fun _ => none) ++ fv.map fun i => (σ[i]?).join
theorem compLoop_any {prog : Program} {w : World} {A : Around} {R : Result → Shared → Prop} {s : Shared} {elt target iter : Expr} {ifs : List Expr} {scope : Scope} {pos : Pos} {it acc : Value} {env : Env} (I : Nat → Shared → Prop)
    (turn : ∀ n s, I n s → wpAny (model prog w) A (pyNext it) (fun r s₁ => match r with
      | none => R (.ok .next) s₁
      | some v => wpAny (model prog w) A (letOwnedTupleGo target it v) (fun _ s₁ => wpAny (model prog w) A (assign target env v) (fun _ s₂ =>
          wpAny (model prog w) A (forIn ifs true fun c r => if r = true then do let ok ← isTrue c env (eval c env); pure (ForInStep.yield ok) else pure (ForInStep.yield r)) (fun ok s₃ =>
            if ok = true then wpAny (model prog w) A (eval elt env) (fun x s₄ =>
              wpAny (model prog w) A (call (.builtin "list.append") [acc, x]) (fun _ s₅ => ∃ m, m < n ∧ I m s₅) noX s₄) noX s₃
            else ∃ m, m < n ∧ I m s₃) noX s₂) noX s₁) noX s₁) noX s)
    (n : Nat) (h : I n s) :
    codeAny (model prog w) A (.compLoop (.ListComp elt [⟨target, iter, ifs, 0⟩] scope pos) 0 it acc env) R s := by
  refine codeAny_loop rfl I (fun n s hI => ?_) n h
  show wpAny _ A ((compTurn (.ListComp elt [⟨target, iter, ifs, 0⟩] scope pos) 0 it acc env).onRaise (fun x => do noteFrame x env; theTreesLotGoes x)) _ _ s
  refine wpAny_noted ?_
  rw [compTurn_list]
  refine wpAny_bind (wpAny_standAt (wpAny_bind (wpAny_mono (turn n s hI) (fun r s₁ h₁ => ?_) fun _ _ h' => h'.elim)))
  cases r with
  | none => exact wpAny_pure h₁
  | some v =>
    refine wpAny_bind (wpAny_mono h₁ (fun _ s₁ h₁ => ?_) fun _ _ h' => h'.elim)
    refine wpAny_bind (wpAny_mono h₁ (fun _ s₂ h₂ => wpAny_bind (wpAny_mono h₂ (fun ok s₃ h₃ => ?_) fun _ _ h' => h'.elim)) fun _ _ h' => h'.elim)
    cases ok with
    | false => exact wpAny_pure ⟨rfl, h₃⟩
    | true =>
      exact wpAny_bind (wpAny_bind (wpAny_mono h₃ (fun x s₄ h₄ => wpAny_bind (wpAny_mono h₄ (fun _ s₅ h₅ => wpAny_pure (wpAny_pure ⟨rfl, h₅⟩)) fun _ _ h' => h'.elim)) fun _ _ h' => h'.elim))
section
variable {X : Cx} {pins : List (Addr × Obj)} {σ : St} {H : Hp} {s : Shared}
theorem Inv.other {h' : Heap} {L : Addr} {n : Nat} (I : Inv X pins σ H s) (hb : X.s₀.heap.objs.size ≤ L) (h0 : H L = none) (h1 : L ≠ X.env.locals) (h2 : ∀ x c, X.env.cells.lookup x = some c → c ≠ L) (h3 : ∀ p ∈ X.pn ++ pins, p.1 ≠ L)
    (k : Heap.SameBut L s.heap h') : Inv X pins σ H { s with heap := h' } :=
  I.turned (t' := s.toks) (fun b o hb e => (k.2 b hb).trans e) h0 h1 (.inr hb) h2 h3
theorem lc_ok {scope : Scope} {own : List Str} {fv : List Nat} {fp : List Addr} (I : Inv X pins σ H s) (S : LcScope X scope own fv) (hf : ∀ b ∈ fp, FpOk X pins H b) (hsz : ∀ b ∈ fp, b < s.heap.objs.size) :
    (lcCx X scope own fv ⟨s.heap.objs.size, closL X.env scope.names [], fp, s, H⟩).Ok := by
  have hfr : ∀ x, (x, NameKind.free) ∈ scope.names → ∃ c, X.env.cells.lookup x = some c := fun x hx => I.ok.has x (S.free _ hx rfl)
  have sub := closL_sub (env := X.env) (names := scope.names) (acc := []) hfr (fun x c z => by simp at z)
  refine ⟨I.ok.mod, S.kind, I.ok.glob, I.ok.blt, Nat.le_refl _, fun x y c h1 h2 => I.ok.inj x y c (sub _ _ h1) (sub _ _ h2), fun x hx => ?_, fun x c hx => ?_, I.ok.hd, I.ok.frames, .inl rfl, fun b hb => ⟨?_, fun x c e => ?_⟩, I.bs, Nat.le_trans I.ok.bsz I.sz, fun b o e hb => ?_, fun b hb hb' => ?_, I.stack, I.stkFree⟩
  · refine closL_has (.inl ?_)
    have hx' : (relabel scope X.env).names.lookup x = some .cell ∨ (relabel scope X.env).names.lookup x = some .free := hx
    unfold relabel at hx'
    rw [relabel_lookup] at hx'
    cases e : scope.names.lookup x with
    | none => rw [e] at hx'; simp at hx'
    | some k =>
      have hm := PySem.mem_of_lookup e
      have nc := S.nocell _ hm
      rw [e] at hx'
      simp only [Option.map_some, Option.some.injEq] at hx'
      cases k with
      | free => exact hm
      | cell => exact absurd rfl nc
      | _ => simp at hx'
  · cases hx
  · exact Nat.ne_of_lt (hsz b hb)
  · exact (hf b hb).2.2.2.2.1 x c (sub _ _ e)
  · rcases (hf b hb).2.2.2.1 with z | z
    · exact I.ok.noex b o e z
    · exact absurd (Nat.lt_of_lt_of_le (Heap.lt_size (I.ok.bs b o e).1) z) (Nat.lt_irrefl _)
  · rcases List.mem_cons.mp (I.stkSub b hb') with z | z
    · exact (hf b hb).2.1 z
    · exact (hf b hb).2.2.1 z
theorem lc_start {scope : Scope} {own : List Str} {fv : List Nat} {fp : List Addr} {h₁ : Heap} {tk : Nat} (I : Inv X pins σ H s) (S : LcScope X scope own fv) (hf : ∀ b ∈ fp, FpOk X pins H b) (hsz : ∀ b ∈ fp, b < s.heap.objs.size)
    (hns : h₁.Ns s.heap.objs.size (fun _ => none)) (hk : ∀ b o, s.heap.get? b = some o → h₁.get? b = some o) :
    Inv (lcCx X scope own fv ⟨s.heap.objs.size, closL X.env scope.names [], fp, s, H⟩) [] (lcStart own fv σ) H { s with heap := h₁, toks := tk } := by
  have hfr : ∀ x, (x, NameKind.free) ∈ scope.names → ∃ c, X.env.cells.lookup x = some c := fun x hx => I.ok.has x (S.free _ hx rfl)
  have sub := closL_sub (env := X.env) (names := scope.names) (acc := []) hfr (fun x c z => by simp at z)
  refine ⟨lc_ok I S hf hsz, rfl, I.bare, Un.kept hk, ⟨_, hns, fun i x v h1 h2 h3 => ?_⟩, fun x c e => ?_, I.hok.fresh (Nat.le_refl _), fun x c e => I.freeC x c (sub _ _ e), fun p hp => absurd (show p ∈ ([] : List (Addr × Obj)) from hp) (by simp), I.hok.kept hk, ?_⟩
  · have h1 : (own ++ fv.map fun i => X.N.getD i Str.empty)[i]? = some x := h1
    unfold lcStart at h2
    have hi : own.length ≤ i := by
      apply Nat.le_of_not_lt
      intro hi
      rw [List.getElem?_append_left (by simpa using hi), List.getElem?_map] at h2
      cases e : own[i]? with
      | none => rw [e] at h2; cases h2
      | some z => rw [e] at h2; cases h2
    rw [List.getElem?_append_right (by simpa using hi), List.length_map, List.getElem?_map] at h2
    rw [List.getElem?_append_right hi, List.getElem?_map] at h1
    cases e : fv[i - own.length]? with
    | none => rw [e] at h1; cases h1
    | some j =>
      rw [e] at h1 h2
      have hj := S.fvs j (List.mem_of_getElem? e)
      have h1 : X.N.getD j Str.empty = x := Option.some.inj h1
      have h2 : (σ[j]?).join = some v := Option.some.inj h2
      have h2' : σ[j]? = some (some v) := by
        cases q : σ[j]? with
        | none => rw [q] at h2; cases h2
        | some y => rw [q] at h2; exact congrArg some h2
      have hx : X.N[j]? = some x := by
        rw [List.getD_eq_getElem?_getD] at h1
        rw [List.getElem?_eq_getElem hj.1] at h1 ⊢
        exact congrArg some h1
      have hlk : scope.names.lookup x = some .free := h1 ▸ hj.2
      have hmem := PySem.mem_of_lookup hlk
      obtain ⟨m, hn, hl⟩ := id I.loc
      have hkd := S.free _ hmem rfl
      obtain ⟨u, ru, lk⟩ := hl j x v hx h2' (by
        rcases hkd with z | z
        · exact .inr (.inl z)
        · exact .inr (.inr z))
      refine ⟨u, ru, ?_⟩
      rcases lk with ⟨z, _⟩ | ⟨_, c, e1, z⟩
      · rcases hkd with y | y
        · have y' : X.env.kindOf x = some .cell := y
          rw [z] at y'; cases y'
        · have y' : X.env.kindOf x = some .free := y
          rw [z] at y'; cases y'
      · obtain ⟨c', e2⟩ := closL_has (env := X.env) (names := scope.names) (acc := []) (x := x) (.inl hmem)
        have e3 := sub _ _ e2
        rw [e1] at e3
        cases e3
        obtain ⟨o, ho, hd⟩ := z
        refine .inr ⟨?_, c, e2, o, hk _ _ ho, hd⟩
        show (relabel scope X.env).names.lookup x = some .cell ∨ (relabel scope X.env).names.lookup x = some .free
        unfold relabel
        rw [relabel_lookup, hlk, Option.map_some]
        split
        · exact .inl rfl
        · exact .inr rfl
  · obtain ⟨v, o, ho, hd⟩ := I.cell x c (sub _ _ e)
    exact ⟨v, o, hk _ _ ho, hd⟩
  · unfold lcStart
    show _ = (own ++ fv.map fun i => X.N.getD i Str.empty).length
    rw [List.length_append, List.length_append, List.length_map, List.length_map, List.length_map]
theorem lc_back {scope : Scope} {own : List Str} {fv : List Nat} {fp : List Addr} {pins' : List (Addr × Obj)} {σ' : St} {H' : Hp} {s' : Shared} {cl : List (Str × Addr)} (I : Inv X pins σ H s) (hf : ∀ b ∈ fp, FpOk X pins H b)
    (J : Inv (lcCx X scope own fv ⟨s.heap.objs.size, cl, fp, s, H⟩) pins' σ' H' s') : Inv X pins σ H' s' :=
  I.call' (ch := fp) J.os J.base J.hok J.bare fun b hb => ⟨(hf b hb).2.2.2.1, (hf b hb).2.1, (hf b hb).2.2.2.2.1, (hf b hb).2.2.2.2.2⟩
end
def PTs (X : Cx) (ifs : List Expr) (t : TT) : Prop :=
  ∀ (pins : List (Addr × Obj)) (s : Shared) (σ : St) (H : Hp) (Q : Bool → Hp → Prop), Inv X pins σ H s → t σ H Q →
    wpAny (model X.prog X.w) X.A (forIn ifs true fun c r => if r = true then do let ok ← isTrue c X.env (eval c X.env); pure (ForInStep.yield ok) else pure (ForInStep.yield r)) (TP X pins σ Q) X.xe s
def tTrue : TT := fun _ H Q => Q true H
theorem pts_nil {X : Cx} : PTs X [] tTrue := fun pins s σ H Q I h => wpAny_tests_nil ⟨H, I, h⟩
theorem pts_one {X : Cx} {c : Expr} {t : TT} (h : PT X c t) : PTs X [c] t := fun pins s σ H Q I hq => wpAny_tests_one (h pins s σ H Q I hq)
def lcRun (own : List Str) (fv : List Nat) (wi : TI) (g : TG) (tc : TT) (te : TE) (K : Addr → Hp → Prop) : St → Hp → Prop := fun σ H => wi σ H fun J H1 => ∀ p, H1 p = none →
  ∃ W : Nat → Nat → St → Hp → Prop, (∃ m, W 0 m (lcStart own fv σ) (upd H1 p (.lst []))) ∧ ∀ i m σ H, W i m σ H →
    (J.stop i H ∧ K p H) ∨ (J.go i H ∧ ∃ N : St → Hp → Prop, (∀ σ' H', N σ' H' → ∃ m', m' < m ∧ W (i + 1) m' σ' H') ∧ ∀ x H', J.yld i H x H' → g x σ H' fun σ2 H2 => tc σ2 H2 fun b H3 =>
      if b = true then te σ2 H3 fun y H4 => ∃ ys, H4 p = some (.lst ys) ∧ ys.length < sizeLine ∧ N σ2 (upd H4 p (.lst (ys ++ [y])))
      else N σ2 H3)
def tLc (own : List Str) (fv : List Nat) (wi : TI) (g : TG) (tc : TT) (te : TE) : TE := fun σ H Q => lcRun own fv wi g tc te (fun p H' => Q (.ref p) H') σ H
section
variable {X : Cx} {tg iter elt : Expr} {ifs : List Expr} {scope : Scope} {pos : Pos} {own : List Str} {fv : List Nat} {wi : TI} {g : TG} {tc : TT} {te : TE}
theorem lc_core {pins : List (Addr × Obj)} {s : Shared} {σ : St} {H : Hp} {K : Addr → Hp → Prop} {use : Option (Value → Sem Unit)} {Q : Value → Shared → Prop} {E : Value → Shared → Prop} (hc : X.calm = true) (S : LcScope X scope own fv) (hi : PI X tg iter wi)
    (hg : ∀ z, PG (lcCx X scope own fv z) tg g) (ht : ∀ z, PTs (lcCx X scope own fv z) ifs tc) (he : ∀ z, PE (lcCx X scope own fv z) elt te)
    (I : Inv X pins σ H s) (h : lcRun own fv wi g tc te K σ H) (hxe : ∀ e s, X.xe e s → E e s)
    (fin : ∀ (p : Addr) (L : Addr) (H' : Hp) (s' : Shared) (m : Str → Option Value), Inv X pins σ H' s' → K p H' → s'.heap.Ns L m → X.s₀.heap.objs.size ≤ L → H' L = none → L ≠ X.env.locals → (∀ x c, X.env.cells.lookup x = some c → c ≠ L) → (∀ q ∈ X.pn ++ pins, q.1 ≠ L) →
      compPost (model X.prog X.w) X.A E use Q (.ref p) L (.ok .next) s') (hs : ∀ x, foldedSetIterable iter X.env x = pure x := by intro _; rfl) :
    wpAny (model X.prog X.w) X.A (comprehension (.ListComp elt [⟨tg, iter, ifs, 0⟩] scope pos) scope X.env (firstIterPos [⟨tg, iter, ifs, 0⟩] pos) (newList []) false (eval iter X.env) use) Q E s := by
  have hfr : ∀ x, (x, NameKind.free) ∈ scope.names → ∃ c, X.env.cells.lookup x = some c := fun x hx => I.ok.has x (S.free _ hx rfl)
  refine wpAny_comprehension_free rfl hs (closure_ok hfr) S.kind S.names (wpAny_mono (hi pins s σ H _ I h) (fun v s1 h1 => wpAny_mono h1 (fun itv s2 h2 => ?_) hxe) hxe)
  obtain ⟨it, fp, tn, J, H2, e, I2, T, st2, f2, q2⟩ := h2
  subst e
  -- the list
  refine wpAny_newObj_type ?_
  have fresh2 : H2 s2.heap.objs.size = none := I2.hok.fresh (Nat.le_refl _)
  have I3 : Inv X pins σ (upd H2 s2.heap.objs.size (.lst [])) { s2 with heap := s2.heap.push { cls := .type "list", dict := none, data := .seq ([] : List Value).toArray } } :=
    I2.laid (t' := s2.toks) (fun b u e => Heap.get?_push_of_some _ e) (Nat.le_refl _) ⟨Nat.zero_le _, [], 0, .nil, Heap.get?_push_size _ rfl⟩
  obtain ⟨W, ⟨m0, w0⟩, turn⟩ := q2 s2.heap.objs.size fresh2
  have lt2 : ∀ b ∈ fp, b < s2.heap.objs.size := fun b hb => by
    obtain ⟨o, e, _⟩ := T.obj 0 _ st2 b hb
    exact Heap.lt_size e
  have f3 : ∀ b ∈ fp, FpOk X pins (upd H2 s2.heap.objs.size (.lst [])) b := fun b hb => ⟨by rw [upd_ne (Nat.ne_of_lt (lt2 b hb))]; exact (f2 b hb).1, (f2 b hb).2⟩
  generalize hp : s2.heap.objs.size = p at *
  generalize hH3 : upd H2 p (.lst []) = H3 at *
  have st3 : tn 0 (s2.heap.push { cls := .type "list", dict := none, data := .seq ([] : List Value).toArray }) := T.keep _ _ _ st2 fun b _ o e => Heap.get?_push_of_some _ e
  have lt3 : ∀ b ∈ fp, b < (s2.heap.push { cls := .type "list", dict := none, data := .seq ([] : List Value).toArray }).objs.size := fun b hb => by
    rw [Heap.size_push]
    have := lt2 b hb
    rw [hp]
    exact Nat.lt_succ_of_lt this
  generalize hs3 : ({ s2 with heap := s2.heap.push { cls := .type "list", dict := none, data := .seq ([] : List Value).toArray } } : Shared) = s3 at *
  have st3' : tn 0 s3.heap := by rw [← hs3]; exact st3
  have lt3' : ∀ b ∈ fp, b < s3.heap.objs.size := by rw [← hs3]; exact lt3
  -- the block's frame
  refine wpAny_newFunctionEnv S.nocell (by intro y hy; simp at hy) (fun h₁ hns₁ hsb₁ => ?_) S.kind
  have keep1 : ∀ b o, s3.heap.get? b = some o → h₁.get? b = some o := fun b o e => hsb₁.extBut b o (Nat.ne_of_lt (Heap.lt_size e)) (Heap.get?_push_of_some _ e)
  have J0 : Inv (lcCx X scope own fv ⟨s3.heap.objs.size, closL X.env scope.names [], fp, s3, H3⟩) [] (lcStart own fv σ) H3 { s3 with heap := h₁, toks := s3.toks + ([] : List (Str × Value)).length } := lc_start I3 S f3 lt3' hns₁ keep1
  have cOk := lc_ok I3 S f3 lt3'
  generalize hz : (⟨s3.heap.objs.size, closL X.env scope.names [], fp, s3, H3⟩ : LcZ) = z at *
  have st4 : tn 0 h₁ := T.keep _ _ _ st3' fun b _ o e => keep1 b o e
  have fr4 : ∀ b ∈ fp, H3 b = none := fun b hb => (f3 b hb).1
  have stat : ∀ {H' : Hp}, (∀ b ∈ fp, H' b = none) → ∀ b ∈ fp, FpOk (lcCx X scope own fv z) [] H' b := fun hn b hb => by
    subst hz
    refine ⟨hn b hb, (cOk.exf b hb).1, cOk.exfs b hb, .inl hb, (cOk.exf b hb).2, fun q hq => absurd (show q ∈ ([] : List (Addr × Obj)) from hq) (by simp)⟩
  have envE : ({ newEnv scope s3.heap.objs.size X.env.globals (closL X.env scope.names []) X.env.qual none .none (some X.env) builtinsNs with scope := relabel scope X.env } : Env) = (lcCx X scope own fv z).env := by
    subst hz
    rfl
  have loop : ∀ sA : Shared, sA = { s3 with heap := h₁, toks := s3.toks + ([] : List (Str × Value)).length } → codeAny (model X.prog X.w) X.A (.compLoop (.ListComp elt [⟨tg, iter, ifs, 0⟩] scope pos) 0 (.ref it) (.ref p) (lcCx X scope own fv z).env)
      (compPost (model X.prog X.w) X.A E use Q (.ref p) s3.heap.objs.size) sA := by
    rintro sA rfl
    refine compLoop_any (fun n s' => ∃ i σ' H', Inv (lcCx X scope own fv z) [] σ' H' s' ∧ tn i s'.heap ∧ (∀ b ∈ fp, H' b = none) ∧ W i n σ' H') ?_ m0 ⟨0, _, H3, J0, st4, fr4, w0⟩
    rintro n s4 ⟨i, σ4, H4, I4, st4, fr4, w4⟩
    rcases turn i n σ4 H4 w4 with ⟨stop, qn⟩ | ⟨go, Nx, hNx, step⟩
    · refine thn (T.done (lcCx X scope own fv z) rfl rfl rfl hc i [] s4 σ4 H4 noX I4 (stat fr4) st4 stop) fun r s5 ⟨hr, I5⟩ => ?_
      subst hr
      subst hz
      have I6 : Inv X pins σ H4 s5 := lc_back I3 f3 I5
      obtain ⟨m, hn, _⟩ := id I5.loc
      have fpL := I3.fpOk (H' := H4) (b := s3.heap.objs.size) (Nat.le_refl _) I5.free
      refine fin p s3.heap.objs.size H4 s5 m I6 qn hn I3.sz fpL.1 fpL.2.1 fpL.2.2.2.2.1 fpL.2.2.2.2.2
    · refine thn (T.item (lcCx X scope own fv z) rfl rfl rfl hc i [] s4 σ4 H4 noX I4 (stat fr4) st4 go) fun r s5 ⟨u, hr, h5⟩ => ?_
      subst hr
      refine thn h5 fun _ s6 ⟨x, H6, I6, r6, y6, st6, fr6⟩ => ?_
      have I6' := I6.pinned (stat fr6) (T.obj _ _ st6)
      have again : ∀ {σ7 : St} {H7 : Hp} {s7 : Shared} {m' : Nat}, m' < n → Inv (lcCx X scope own fv z) ([] ++ pinsAt fp s6.heap) σ7 H7 s7 → W (i + 1) m' σ7 H7 →
          ∃ m, m < n ∧ ∃ i σ' H', Inv (lcCx X scope own fv z) [] σ' H' s7 ∧ tn i s7.heap ∧ (∀ b ∈ fp, H' b = none) ∧ W i m σ' H' := fun {σ7 H7 s7 m'} hm I7 w7 => by
        refine ⟨m', hm, i + 1, σ7, H7, I7.unpinned, T.keep _ _ _ st6 fun b hb o e => (I7.pin (b, o) (List.mem_append_right _ (List.mem_append_right _ (mem_pinsAt hb e)))).1, fun b hb => ?_, w7⟩
        obtain ⟨o, e, d⟩ := T.obj _ _ st6 b hb
        exact (I7.pin (b, o) (List.mem_append_right _ (List.mem_append_right _ (mem_pinsAt hb e)))).2.1
      refine thn (hg z _ s6 σ4 H6 x u _ I6' r6 (step x H6 y6)) fun _ s7 ⟨σ7, H7, I7, q7⟩ => ?_
      refine thn (ht z _ s7 σ7 H7 _ I7 q7) fun b s8 ⟨H8, I8, q8⟩ => ?_
      cases b with
      | false =>
        obtain ⟨m', hm, w8⟩ := hNx _ _ q8
        exact again hm I8 w8
      | true =>
        refine thn (he z _ s8 σ7 H8 _ I8 q8) fun v s9 ⟨y, H9, I9, r9, ys, ep, hl, w9⟩ => ?_
        refine thn (mt_append (X := lcCx X scope own fv z) _ s9 σ7 H9 (.ref p) [y] (.ref p) [v] (fun _ H' => Nx σ7 H') I9 rfl (.cons r9 .nil) ⟨p, ys, y, rfl, rfl, ep, hl, w9⟩) fun _ s10 ⟨_, H10, I10, _, q10⟩ => ?_
        obtain ⟨m', hm, w10⟩ := hNx _ _ q10
        exact again hm I10 w10
  rw [envE]
  exact codeAny_compStart_list (loop _ rfl) (T.self _ _ _ _ _ st4 (loop _ rfl))
theorem pe_lc (hc : X.calm = true) (S : LcScope X scope own fv) (hi : PI X tg iter wi) (hg : ∀ z, PG (lcCx X scope own fv z) tg g) (ht : ∀ z, PTs (lcCx X scope own fv z) ifs tc) (he : ∀ z, PE (lcCx X scope own fv z) elt te)
    (hs : ∀ x, foldedSetIterable iter X.env x = pure x := by intro _; rfl) : PE X (.ListComp elt [⟨tg, iter, ifs, 0⟩] scope pos) (tLc own fv wi g tc te) := by
  intro pins s σ H Q I h
  rw [eval_ListComp]
  refine lc_core (use := none) (K := fun p H' => Q (.ref p) H') hc S hi hg ht he I h (fun _ _ q => q) (fun p L H' s' m I' q hn h1 h2 h3 h4 h5 => ?_) hs
  exact ⟨m, hn, fun h' hs' => ⟨.ref p, H', I'.other (n := 0) h1 h2 h3 h4 h5 hs', rfl, q⟩⟩
end
theorem lc_range {lo : Int} {n : Nat} {g : TG} {tc : TT} {te : TE} {Kf : Hp → Prop} {σ0 : St} {H0 : Hp} {p : Addr} (Pv : Nat → St → Hp → Prop) (h0 : Pv 0 σ0 H0)
    (hs : ∀ i σ H, i < n → Pv i σ H → g (.int (lo + i)) σ H fun σ2 H2 => tc σ2 H2 fun b H3 => if b = true then te σ2 H3 fun y H4 => ∃ ys, H4 p = some (.lst ys) ∧ ys.length < sizeLine ∧ Pv (i + 1) σ2 (upd H4 p (.lst (ys ++ [y]))) else Pv (i + 1) σ2 H3)
    (hd : ∀ σ H, Pv n σ H → Kf H) :
    ∃ W : Nat → Nat → St → Hp → Prop, (∃ m, W 0 m σ0 H0) ∧ ∀ i m σ H, W i m σ H →
      ((Itr lo n).stop i H ∧ Kf H) ∨ ((Itr lo n).go i H ∧ ∃ N : St → Hp → Prop, (∀ σ' H', N σ' H' → ∃ m', m' < m ∧ W (i + 1) m' σ' H') ∧ ∀ x H', (Itr lo n).yld i H x H' → g x σ H' fun σ2 H2 => tc σ2 H2 fun b H3 =>
        if b = true then te σ2 H3 fun y H4 => ∃ ys, H4 p = some (.lst ys) ∧ ys.length < sizeLine ∧ N σ2 (upd H4 p (.lst (ys ++ [y]))) else N σ2 H3) := by
  refine ⟨fun i m σ H => m = n - i ∧ i ≤ n ∧ Pv i σ H, ⟨n, by simp, Nat.zero_le _, h0⟩, ?_⟩
  rintro i m σ H ⟨rfl, hi, q⟩
  by_cases hlt : i < n
  · refine .inr ⟨hlt, Pv (i + 1), fun σ' H' p' => ⟨n - (i + 1), by omega, rfl, hlt, p'⟩, fun x H' y => ?_⟩
    obtain ⟨e, y⟩ := y
    subst e y
    exact hs i σ _ hlt q
  · have e : i = n := by omega
    subst e
    exact .inl ⟨Nat.le_refl _, hd σ H q⟩
theorem lc_list {K : PySem.W.Frag} {a : Addr} {xs : List V} {g : TG} {tc : TT} {te : TE} {Kf : Hp → Prop} {σ0 : St} {H0 : Hp} {p : Addr} (Pv : Nat → St → Hp → Prop) (h0 : Pv 0 σ0 H0) (hl : ∀ i σ H, i ≤ xs.length → Pv i σ H → SqL K H a xs)
    (hs : ∀ i x σ H, xs[i]? = some x → Pv i σ H → g x σ H fun σ2 H2 => tc σ2 H2 fun b H3 => if b = true then te σ2 H3 fun y H4 => ∃ ys, H4 p = some (.lst ys) ∧ ys.length < sizeLine ∧ Pv (i + 1) σ2 (upd H4 p (.lst (ys ++ [y]))) else Pv (i + 1) σ2 H3)
    (hd : ∀ σ H, Pv xs.length σ H → Kf H) :
    ∃ W : Nat → Nat → St → Hp → Prop, (∃ m, W 0 m σ0 H0) ∧ ∀ i m σ H, W i m σ H →
      ((Itl K a).stop i H ∧ Kf H) ∨ ((Itl K a).go i H ∧ ∃ N : St → Hp → Prop, (∀ σ' H', N σ' H' → ∃ m', m' < m ∧ W (i + 1) m' σ' H') ∧ ∀ x H', (Itl K a).yld i H x H' → g x σ H' fun σ2 H2 => tc σ2 H2 fun b H3 =>
        if b = true then te σ2 H3 fun y H4 => ∃ ys, H4 p = some (.lst ys) ∧ ys.length < sizeLine ∧ N σ2 (upd H4 p (.lst (ys ++ [y]))) else N σ2 H3) := by
  refine ⟨fun i m σ H => m = xs.length - i ∧ i ≤ xs.length ∧ Pv i σ H, ⟨xs.length, by simp, Nat.zero_le _, h0⟩, ?_⟩
  rintro i m σ H ⟨rfl, hi, q⟩
  have hq := hl i σ H hi q
  by_cases hlt : i < xs.length
  · refine .inr ⟨⟨xs, xs[i], hq, by simp [hlt]⟩, Pv (i + 1), fun σ' H' p' => ⟨xs.length - (i + 1), by omega, rfl, hlt, p'⟩, fun x H' y => ?_⟩
    obtain ⟨e, y⟩ := y
    subst e
    exact hs i x σ _ (y xs hq) q
  · have e : i = xs.length := by omega
    subst e
    exact .inl ⟨⟨xs, hq, Nat.le_refl _⟩, hd σ H q⟩
def lcCheck (scope : Scope) (own : List Str) (fv : List Nat) (osc : Scope) (N : List Str) : Bool :=
  decide (scope.kind = .function) && scope.names.all (fun y => decide (y.2 ≠ .cell)) && scope.names.all (fun y => decide (y.2 ≠ .local) || decide (scope.names.lookup y.1 = some .local)) &&
  scope.names.all (fun y => decide (y.2 ≠ .free) || (decide (osc.names.lookup y.1 = some .cell) || decide (osc.names.lookup y.1 = some .free))) && decide ((own ++ fv.map fun i => N.getD i Str.empty).Nodup) &&
  fv.all fun i => decide (i < N.length) && decide (scope.names.lookup (N.getD i Str.empty) = some .free)
theorem lcs {X : Cx} {scope : Scope} {own : List Str} {fv : List Nat} (h : lcCheck scope own fv X.env.scope X.N = true) : LcScope X scope own fv := by
  unfold lcCheck at h
  simp only [Bool.and_eq_true, decide_eq_true_eq, List.all_eq_true, Bool.or_eq_true] at h
  obtain ⟨⟨⟨⟨⟨h1, h2⟩, h3⟩, h4⟩, h5⟩, h6⟩ := h
  exact ⟨h1, h2, fun y hy e => (h3 y hy).resolve_left fun z => z e, fun y hy e => (h4 y hy).resolve_left fun z => z e, h5, h6⟩
theorem nd_of {N : List Str} (h : decide N.Nodup = true) : N.Nodup := of_decide_eq_true h
theorem pg_tupK {X : Cx} {K : PySem.W.Frag} {es : List Expr} {k n : Nat} {t : TGs} {pos : Pos} (hK : X.K = K) (hc : X.calm = true) (h : PGs X es t) (hn : (assignEach es X.env).length = n) (hst : (assignEach es X.env).findIdx? (·.1) = none) : PG X (.Tuple es k pos) (gTup K n t) := by
  subst hK hn
  exact pg_tup hc h rfl hst
theorem ix_tupK {X : Cx} {K : PySem.W.Frag} (hK : X.K = K) : IxR X (rIxT K) := by subst hK; exact ix_tup
theorem ix_listK {X : Cx} {K : PySem.W.Frag} (hK : X.K = K) : IxR X (rIxL K) := by subst hK; exact ix_list
end L2
set_option Elab.async false
set_option linter.all false
set_option maxRecDepth 100000
namespace L2
open PySem PySem.Spec PyProof.Rows
theorem below_go {xs : Array Nat} {j : Nat} (up : ∀ a b, a < b → b < xs.size → xs.getD a j < xs.getD b j) : ∀ (fuel lo hi : Nat), lo ≤ hi → hi ≤ xs.size → hi - lo ≤ fuel → (∀ i, i < lo → xs.getD i j < j) → (∀ i, hi ≤ i → i < xs.size → j ≤ xs.getD i j) →
    SetTable.below.go xs j fuel lo hi ≤ xs.size ∧ (∀ i, i < SetTable.below.go xs j fuel lo hi → xs.getD i j < j) ∧ (∀ i, SetTable.below.go xs j fuel lo hi ≤ i → i < xs.size → j ≤ xs.getD i j)
  | 0, lo, hi, h1, h2, h3, a, b => by
    have e : lo = hi := by omega
    subst e
    exact ⟨h2, a, b⟩
  | fuel + 1, lo, hi, h1, h2, h3, a, b => by
    unfold SetTable.below.go
    by_cases hlt : lo < hi
    · rw [if_pos hlt]
      dsimp only
      have hm1 : lo ≤ (lo + hi) / 2 := by omega
      have hm2 : (lo + hi) / 2 < hi := by omega
      by_cases hc : xs.getD ((lo + hi) / 2) j < j
      · rw [if_pos hc]
        refine below_go up fuel _ _ (by omega) h2 (by omega) (fun i hi' => ?_) b
        by_cases e : i = (lo + hi) / 2
        · rw [e]; exact hc
        · exact Nat.lt_trans (up i ((lo + hi) / 2) (by omega) (by omega)) hc
      · rw [if_neg hc]
        refine below_go up fuel _ _ (by omega) (by omega) (by omega) a (fun i hi' hs => ?_)
        by_cases e : i = (lo + hi) / 2
        · rw [e]; omega
        · have := up ((lo + hi) / 2) i (by omega) hs
          omega
    · rw [if_neg hlt]
      have e : lo = hi := by omega
      subst e
      exact ⟨h2, a, b⟩
theorem up_of {xs : Array Nat} (j : Nat) (h : xs.toList.Pairwise (· < ·)) : ∀ a b, a < b → b < xs.size → xs.getD a j < xs.getD b j := fun a b hab hb => by
  have := List.pairwise_iff_getElem.mp h a b (by simpa using Nat.lt_trans hab hb) (by simpa using hb) hab
  rw [Array.getD_eq_getD_getElem?, Array.getD_eq_getD_getElem?, Array.getElem?_eq_getElem (Nat.lt_trans hab hb), Array.getElem?_eq_getElem hb]
  simpa using this
theorem below_spec {xs : Array Nat} {j : Nat} (h : xs.toList.Pairwise (· < ·)) : SetTable.below xs j ≤ xs.size ∧ (∀ i, i < SetTable.below xs j → xs.getD i j < j) ∧ (∀ i, SetTable.below xs j ≤ i → i < xs.size → j ≤ xs.getD i j) := by
  unfold SetTable.below
  exact below_go (up_of j h) xs.size 0 xs.size (Nat.zero_le _) (Nat.le_refl _) (by omega) (fun i hi => absurd hi (by omega)) (fun i hi hs => absurd hs (by omega))
structure T7 (byText : Bool) (t : SetTable) (n : Nat) : Prop where
  mask : t.mask = 7
  dum : t.dummies = #[]
  plain : t.plain = true
  led : t.led = !byText
  size : t.place.size = n
  up : t.place.toList.Pairwise (· < ·)
  le : ∀ j ∈ t.place.toList, j ≤ 7
section
variable {byText : Bool} {t : SetTable} {n : Nat}
theorem T7.slot (T : T7 byText t n) (j : Nat) : (t.slot j = .empty ∧ j ∉ t.place.toList) ∨ (∃ i, t.slot j = .live i ∧ j ∈ t.place.toList) := by
  unfold SetTable.slot
  dsimp only
  have hd : SetTable.has t.dummies j = false := by rw [T.dum]; rfl
  obtain ⟨b1, b2, b3⟩ := below_spec (j := j) T.up
  by_cases hc : t.place[SetTable.below t.place j]? = some j
  · rw [if_pos (by rw [hc]; simp)]
    exact .inr ⟨_, rfl, by rw [← Array.mem_def]; exact Array.mem_of_getElem? hc⟩
  · rw [if_neg (by simpa using hc), hd, if_neg (by simp)]
    refine .inl ⟨rfl, fun hm => ?_⟩
    obtain ⟨i, hi, he⟩ := List.mem_iff_getElem.mp hm
    have hi' : i < t.place.size := by simpa using hi
    have he' : t.place.getD i j = j := by
      rw [Array.getD_eq_getD_getElem?, Array.getElem?_eq_getElem hi']
      simpa using he
    have h1 : ¬ i < SetTable.below t.place j := fun z => by have := b2 i z; omega
    have h2 : SetTable.below t.place j = i := by
      apply Nat.le_antisymm (Nat.le_of_not_lt h1)
      apply Nat.le_of_not_lt
      intro z
      have := b3 (SetTable.below t.place j) (Nat.le_refl _) (by omega)
      have := up_of j T.up _ _ z hi'
      omega
    apply hc
    rw [h2, Array.getElem?_eq_getElem hi']
    simpa using he
def pr (i pt : Nat) : SetTable.Probe := { j := i, more := 0, i := i, perturb := pt, dummy := none }
theorem T7.adv (T : T7 byText t n) (i pt : Nat) : t.advance (pr i pt) = pr ((i * 5 + 1 + pt / 32) % 8) (pt / 32) := by
  unfold SetTable.advance pr SetTable.leap SetTable.runEnd
  rw [T.mask]
  dsimp only
  rw [if_neg (by omega), if_neg (by omega), Nat.sub_self]
theorem T7.go1 (T : T7 byText t n) (h : Int) (f i pt : Nat) :
    (SetTable.probe.go t (fun _ => h + 1) h (f + 1) (pr i pt) = some (.empty i none) ∧ i ∉ t.place.toList) ∨
    (SetTable.probe.go t (fun _ => h + 1) h (f + 1) (pr i pt) = SetTable.probe.go t (fun _ => h + 1) h f (pr ((i * 5 + 1 + pt / 32) % 8) (pt / 32)) ∧ i ∈ t.place.toList) := by
  rcases T.slot i with ⟨e, m⟩ | ⟨k, e, m⟩
  · left
    refine ⟨?_, m⟩
    unfold SetTable.probe.go
    rw [show (pr i pt).j = i from rfl, e]
    rfl
  · right
    refine ⟨?_, m⟩
    rw [SetTable.probe.go]
    rw [show (pr i pt).j = i from rfl, e]
    dsimp only
    rw [if_neg (by simp; omega), T.adv]
def F8 (i : Nat) : Nat := (i * 5 + 1) % 8
def F8n : Nat → Nat → Nat
  | 0, i => i
  | m + 1, i => F8n m (F8 i)
theorem T7.go0 (T : T7 byText t n) (h : Int) (f : Nat) : ∀ (m i : Nat), (∃ j, SetTable.probe.go t (fun _ => h + 1) h (m + f) (pr i 0) = some (.empty j none) ∧ j ∉ t.place.toList ∧ ∃ q, q < m ∧ j = F8n q i) ∨ (∀ q, q < m → F8n q i ∈ t.place.toList)
  | 0, i => .inr fun q hq => absurd hq (by omega)
  | m + 1, i => by
    rcases T.go1 h (m + f) i 0 with ⟨e, z⟩ | ⟨e, z⟩
    · exact .inl ⟨i, by rw [show m + 1 + f = m + f + 1 by omega]; exact e, z, 0, by omega, rfl⟩
    · rw [show m + 1 + f = m + f + 1 by omega, e]
      have e2 : (i * 5 + 1 + 0 / 32) % 8 = F8 i := by unfold F8; omega
      rw [e2]
      rcases T.go0 h f m (F8 i) with ⟨j, e3, z3, q, hq, e4⟩ | e3
      · exact .inl ⟨j, e3, z3, q + 1, by omega, e4⟩
      · refine .inr fun q hq => ?_
        cases q with
        | zero => exact z
        | succ q => exact e3 q (by omega)
theorem F8_all : ∀ i : _root_.Fin 8, ∀ j : _root_.Fin 8, ∃ q : _root_.Fin 8, F8n q.1 i.1 = j.1 := by decide
theorem F8_lt : ∀ (q i : Nat), i < 8 → F8n q i < 8
  | 0, i, h => h
  | q + 1, i, h => F8_lt q (F8 i) (Nat.mod_lt _ (by decide))
theorem T7.goK (T : T7 byText t n) (hn : n ≤ 7) (h : Int) (f : Nat) : ∀ (k i pt : Nat), i < 8 → pt < 32 ^ k → ∃ j, SetTable.probe.go t (fun _ => h + 1) h (k + (8 + f)) (pr i pt) = some (.empty j none) ∧ j ∉ t.place.toList ∧ j ≤ 7
  | 0, i, pt, hi, hp => by
    have e : pt = 0 := by omega
    subst e
    rw [Nat.zero_add]
    rcases T.go0 h f 8 i with ⟨j, e, z, q, hq, e2⟩ | e
    · exact ⟨j, e, z, by have := F8_lt q i hi; omega⟩
    · exfalso
      have sub : [0, 1, 2, 3, 4, 5, 6, 7] ⊆ t.place.toList := fun j hj => by
        have hj8 : j < 8 := by
          simp at hj
          omega
        obtain ⟨q, hq⟩ := F8_all ⟨i, hi⟩ ⟨j, hj8⟩
        rw [← show F8n q.1 i = j from hq]
        exact e q.1 q.2
      have := List.Nodup.length_le_of_subset (by decide : [0, 1, 2, 3, 4, 5, 6, 7].Nodup) sub
      have hs := T.size
      simp at this
      omega
  | k + 1, i, pt, hi, hp => by
    rw [show k + 1 + (8 + f) = k + (8 + f) + 1 by omega]
    rcases T.go1 h (k + (8 + f)) i pt with ⟨e, z⟩ | ⟨e, z⟩
    · exact ⟨i, e, z, by omega⟩
    · rw [e]
      refine T.goK hn h f k _ _ (Nat.mod_lt _ (by decide)) ?_
      rw [Nat.pow_succ] at hp
      omega
theorem T7.free (T : T7 byText t n) (hn : n ≤ 7) (h : Int) : ∃ j, t.freeSlot h = some (j, false) ∧ j ∉ t.place.toList ∧ j ≤ 7 := by
  have hb : SetTable.bits h < 32 ^ 13 := by
    unfold SetTable.bits
    have h1 : 0 ≤ h % (2 ^ 64 : Int) := Int.emod_nonneg _ (by decide)
    have h2 : h % (2 ^ 64 : Int) < 2 ^ 64 := Int.emod_lt_of_pos _ (by decide)
    have : ((2 : Int) ^ 64) = 18446744073709551616 := by decide
    rw [this] at h1 h2 ⊢
    have h3 : (32 : Nat) ^ 13 = 36893488147419103232 := by decide
    omega
  obtain ⟨j, e, z, l⟩ := T.goK hn h 199 13 (SetTable.bits h % 8) (SetTable.bits h) (Nat.mod_lt _ (by decide)) hb
  refine ⟨j, ?_, z, l⟩
  have hst : t.probeStart h = pr (SetTable.bits h % 8) (SetTable.bits h) := by
    unfold SetTable.probeStart pr SetTable.runEnd
    rw [T.mask]
    dsimp only
    rw [if_neg (by omega), Nat.sub_self]
  unfold SetTable.freeSlot SetTable.probe
  rw [hst, show 10 * SetTable.turns t.mask = 13 + (8 + 199) by rw [T.mask]; rfl, e]
  rfl
end
end L2
set_option Elab.async false
set_option linter.all false
set_option maxRecDepth 100000
namespace L2
open PySem PySem.Spec PyProof.Rows
abbrev Ents : List Int → List (Int × Value) → Prop := Paired fun k e => ∃ tk, e = (hashInt k, Value.int k tk)
theorem Ents.perm : ∀ {es es' : List (Int × Value)} {ks : List Int}, Ents ks es → es'.Perm es → ∃ ks', Ents ks' es' ∧ ks'.Perm ks := by
  intro es es' ks h p
  have key : ∀ {a b : List (Int × Value)}, a.Perm b → ∀ ks, Ents ks b → ∃ ks', Ents ks' a ∧ ks'.Perm ks := by
    intro a b p
    induction p with
    | nil => intro ks h; exact ⟨ks, h, .refl _⟩
    | cons x p ih =>
      intro ks h
      cases h with
      | cons r t =>
        obtain ⟨ks', h1, h2⟩ := ih _ t
        exact ⟨_ :: ks', .cons r h1, h2.cons _⟩
    | swap x y l =>
      intro ks h
      cases h with
      | cons r t =>
        cases t with
        | cons r' t' => exact ⟨_, .cons r' (.cons r t'), .swap _ _ _⟩
    | trans p q ih1 ih2 =>
      intro ks h
      obtain ⟨k1, h1, h2⟩ := ih2 ks h
      obtain ⟨k2, h3, h4⟩ := ih1 k1 h1
      exact ⟨k2, h3, h4.trans h2⟩
  exact key p ks h
def byT (w : World) : Bool := w.params.followText "set-order"
def SetI (w : World) (a : Addr) (zs : List Int) (h : Heap) : Prop :=
  ∃ (es : Array (Int × Value)) (ep : Nat) (t : SetTable) (ks : List Int), h.get? a = some { cls := .type "set", data := .set es ep t } ∧ T7 (byT w) t es.size ∧ Ents ks es.toList ∧ ks.Perm zs ∧ zs.Nodup ∧ zs.length ≤ 4
theorem SetI.at {w : World} {a : Addr} {zs : List Int} {h h' : Heap} (x : SetI w a zs h) (k : ∀ o, h.get? a = some o → h'.get? a = some o) : SetI w a zs h' :=
  let ⟨es, ep, t, ks, h1, r⟩ := x; ⟨es, ep, t, ks, k _ h1, r⟩
section
variable {prog : Program} {w : World} {A : Around} {E : Value → Shared → Prop} {s : Shared}
theorem SetI.size {a : Addr} {zs : List Int} {h : Heap} {es : Array (Int × Value)} {ks : List Int} (he : Ents ks es.toList) (hp : ks.Perm zs) : es.size = zs.length := by
  rw [← hp.length_eq, Paired.length he, Array.length_toList]
end
section
variable {prog : Program} {w : World} {A : Around} {R : Result → Shared → Prop} {I : Addr} {fp wr : List Addr} {G : Array GenState → Array GenState → Prop} {n : Nat} {P : Nat → Value → Prop} {St : Nat → Shared → Prop}
end
end L2
set_option Elab.async false
set_option linter.all false
set_option maxRecDepth 100000
namespace L2
open PySem PySem.Spec PyProof.Rows
abbrev freshSet (w : World) : Obj := { cls := .type "set", dict := none, data := .set #[] 0 (.fresh 0 0 (!byT w)) }
section
variable {prog : Program} {w : World} {A : Around} {E : Value → Shared → Prop} {s : Shared}
set_option maxHeartbeats 3200000 in
end
end L2
set_option Elab.async false
set_option linter.all false
set_option maxRecDepth 100000
namespace L2
open PySem PySem.Spec PyProof.Rows
section
variable {prog : Program} {w : World} {A : Around} {E : Value → Shared → Prop} {s : Shared} {a I : Addr} {es : Array (Int × Value)} {ep : Nat} {t : SetTable} {i : Nat}
end
end L2
set_option Elab.async false
set_option linter.all false
set_option maxRecDepth 100000
namespace L2
open PySem PySem.Spec PyProof.Rows
theorem intsAre_of' {ns : List Int} : ∀ {us : List Value}, Vals (ns.map V.int) us → IntsAre us ns := by
  induction ns with
  | nil => intro us h; cases h; exact .nil
  | cons n r ih =>
    intro us h
    cases h with
    | cons r1 r2 =>
      obtain ⟨t, rfl⟩ := r1
      exact IntsAre.cons _ _ (ih r2)
section
variable {X : Cx}
def SetO (w : World) (a : Addr) (zs : List Int) : HO := .ext (SetI w a zs)
theorem Inv.track {pins : List (Addr × Obj)} {s : Shared} {σ : St} {H : Hp} {T : Addr} {o : HO} (I : Inv X pins σ H s) (h0 : H T = none) (h1 : X.s₀.heap.objs.size ≤ T) (h2 : T ≠ X.env.locals) (h3 : ∀ x c, X.env.cells.lookup x = some c → c ≠ T) (h4 : ∀ p ∈ X.pn ++ pins, p.1 ≠ T)
    (new : ObjOk X.prog X.w (upd H T o) s.heap T o) : Inv X pins σ (upd H T o) s := by
  have old : ∀ b ob, X.s₀.heap.get? b = some ob → b ≠ T := fun b ob e => Nat.ne_of_lt (Nat.lt_of_lt_of_le (Heap.lt_size e) h1)
  have some' : ∀ b u, H b = some u → (upd H T o) b = some u := fun b u e => by rw [upd_ne (ne_of_none e h0)]; exact e
  refine ⟨I.ok, I.os, I.bare, ⟨I.base.keep, I.base.slot, fun b ob e n hx => ?_, I.base.there, fun b xs e => some' _ _ (I.base.tups b xs e), fun b ob u e => some' _ _ (I.base.frzs b ob u e), fun b ps e => ?_⟩, I.loc, I.cell, ?_, fun x c e => ?_, fun p hp => ?_, fun b u e => ?_, I.len⟩
  · rw [upd_ne (old b ob e)]; exact I.base.free b ob e n hx
  · obtain ⟨m, e1⟩ := I.base.tbls b ps e
    exact ⟨m, some' _ _ e1⟩
  · rw [upd_ne (Ne.symm h2)]; exact I.free
  · rw [upd_ne (h3 x c e)]; exact I.freeC x c e
  · obtain ⟨e1, n, r⟩ := I.pin p hp
    exact ⟨e1, by rw [upd_ne (h4 p hp)]; exact n, r⟩
  · by_cases hb : b = T
    · subst hb
      rw [upd_same] at e
      cases e
      exact new
    · rw [upd_ne hb] at e
      exact (I.hok b u e).stay (fun c v _ q => q) (fun c q => some' _ _ q) fun c ys q => some' _ _ q
end
end L2
set_option Elab.async false
set_option linter.all false
set_option maxRecDepth 100000
namespace L2
open PySem PySem.Spec PyProof.Rows
section
variable {X : Cx}
theorem range_all' : ∀ (bs : List Bool), ((List.range bs.length).all fun i => (bs[i]?).getD true) = bs.all id := by
  intro bs
  rw [Bool.eq_iff_iff, List.all_eq_true, List.all_eq_true]
  constructor
  · intro h b hb
    obtain ⟨i, hi, e⟩ := List.mem_iff_getElem.mp hb
    have := h i (List.mem_range.mpr hi)
    rw [List.getElem?_eq_getElem hi, e] at this
    exact this
  · intro h i hi
    have hi' := List.mem_range.mp hi
    rw [List.getElem?_eq_getElem hi']
    exact h _ (List.getElem_mem hi')
theorem call_all (hc : X.calm = true) : CallR X (.builtin "all") (fun xs H Q => ∃ (p : Addr) (bs : List Bool), xs = [.ref p] ∧ SqL X.K H p (bs.map V.bl) ∧ Q (.bl (bs.all id)) H) := by
  intro pins s σ H xs us Q I r h
  obtain ⟨p, bs, rfl, hq, q⟩ := h
  obtain ⟨u, rfl, rx⟩ := vals1 r
  cases rx
  obtain ⟨its, rv, pl, hz⟩ := I.list hq
  have hl := pl.isList
  have hlt : p < s.heap.objs.size := by obtain ⟨_, e, _⟩ := hl; exact Heap.lt_size e
  have hlen := rv.length
  rw [List.length_map] at hlen
  refine call_all_walk (wpAny_pyIter_list hl ?_)
  refine ⟨s.heap.objs.size, [s.heap.objs.size, p], [s.heap.objs.size], its.toArray.size, _, _, fun i => (bs[i]?).getD true, rfl, Walks.list (A := X.A.in1) (I.ok.hd hc) _ p (Nat.ne_of_lt hlt) its.toArray,
    ⟨⟨_, Heap.get?_push_size _ rfl, rfl, rfl⟩, hl.push _⟩, fun i v s' Q' E' hP hQ => ?_, fun h' tk hk => ?_⟩
  · have hP' : its[i]? = some v := by simpa using hP
    have hi : i < bs.length := by rw [hlen]; exact (List.getElem?_eq_some_iff.mp hP').1
    obtain ⟨u, hu, ru⟩ := rv.get (i := i) (x := .bl bs[i]) (by rw [List.getElem?_map, List.getElem?_eq_getElem hi]; rfl)
    rw [hP'] at hu
    cases hu
    cases ru
    dsimp only at hQ
    rw [List.getElem?_eq_getElem hi, Option.getD_some] at hQ
    exact wpAny_truthy_bool hQ
  · have e : ((List.range its.toArray.size).all fun i => (bs[i]?).getD true) = bs.all id := by
      rw [List.size_toArray, ← hlen]; exact range_all' bs
    refine ⟨.bl (bs.all id), H, I.kept fun b x e => hk b x (fun hm => by rw [List.mem_singleton.mp hm] at e; exact Nat.lt_irrefl _ (Heap.lt_size e)) (Heap.get?_push_of_some _ e), ?_, q⟩
    rw [e]
    rfl
theorem call_isinst : CallR X (.builtin "isinstance") (fun xs H Q => ∃ x T t b, xs = [x, .ty T] ∧ TyOf X.K H x t ∧ PySem.W.kitOne X.K t (.type T) = some b ∧ Q (.bl b) H) := by
  intro pins s σ H xs us Q I r h
  obtain ⟨x, T, t, b, rfl, ht, hk, q⟩ := h
  obtain ⟨u, v, rfl, r1, r2⟩ := vals2 r
  cases r2
  exact isinst_ok I r1 ht hk fun tk => ⟨.bl b, H, I.tok _, rfl, q⟩
theorem op_eq_nil (hu : X.A.units < cLine) : OpR X (compareOp .Eq) (fun x y H Q => ∃ p l xs, x = .ref p ∧ y = .ref l ∧ SqL X.K H p xs ∧ SqL X.K H l [] ∧ Q (.bl xs.isEmpty) H) := by
  intro pins s σ H x y v u Q I rx ry h
  obtain ⟨p, l, xs, rfl, rfl, h1, h2, q⟩ := h
  cases rx
  cases ry
  obtain ⟨its, r1, p1, z1⟩ := I.list h1
  obtain ⟨its2, r2, p2, z2⟩ := I.list h2
  cases r2
  cases xs with
  | nil =>
    cases r1
    exact SeqAt.eq_listAt (e := fun _ => true) p1.isList p2.isList rfl hu (fun j h _ => absurd h (by simp)) ⟨.bl true, H, I, rfl, q⟩
  | cons a r =>
    cases r1
    exact SeqAt.eq_list_lengthsAt p1.isList p2.isList (by simp) hu ⟨.bl false, H, I, rfl, q⟩
end
end L2
set_option Elab.async false
set_option linter.all false
set_option maxRecDepth 100000
namespace L2
open PySem PySem.Spec PyProof.Rows
section
variable {X : Cx}
theorem Inv.turnedL {pins : List (Addr × Obj)} {s : Shared} {σ : St} {H : Hp} {h' : Heap} {t' : Nat} {ch : List Addr} (I : Inv X pins σ H s) (k : ∀ b o, b ∉ ch → s.heap.get? b = some o → h'.get? b = some o) (hc : ∀ b ∈ ch, FpOk X pins H b) : Inv X pins σ H { s with heap := h', toks := t' } := by
  have nit : ∀ b u, H b = some u → b ∉ ch := fun b u e z => by rw [(hc b z).1] at e; cases e
  refine I.step (g' := s.gens) (d' := s.drawn) (ch := ch) (fun b hb => ⟨(hc b hb).2.2.2.1, (hc b hb).2.1, (hc b hb).2.2.2.2.1, (hc b hb).2.2.2.2.2⟩) (fun b o _ _ hc' e _ => k b o hc' e) (fun b o _ _ hc' e _ => ⟨o.slots, k b o hc' e⟩) (fun _ _ _ _ n => n)
    (fun b o hc' e => ⟨o, k b o hc' e⟩) (fun _ _ e => e) (fun _ _ _ e => e) (fun b ps e => ⟨#[], by rw [e]; simp⟩) (fun m hm => ?_) (fun b u e => ?_) I.bare
  · obtain ⟨o, es, ep, ho, r⟩ := hm
    exact ⟨o, es, ep, k _ o (fun z => (hc _ z).2.1 rfl) ho, r⟩
  · refine (I.hok b u e).stay (fun c v hc' q => k c v ?_ q) (fun _ q => q) fun _ _ q => q
    rcases hc' with z | z
    · rw [z]; exact nit b u e
    · exact nit c _ z
end
end L2
set_option Elab.async false
set_option linter.all false
set_option maxRecDepth 100000
namespace L2
open PySem PySem.Spec PyProof.Rows
theorem nextOf_tuple_item {prog : Program} {w : World} {A : Around} {E : Value → Shared → Prop} {s : Shared} {it t : Addr} {i : Nat} {items : Array Value} {x : Value} {Q : Value → Shared → Prop} (hit : s.heap.IsTupleIter it t i) (ht : s.heap.IsTuple t items) (hx : items[i]? = some x)
    (hQ : ∀ h' : Heap, h'.IsTupleIter it t (i + 1) → Heap.SameBut it s.heap h' → Q x { s with heap := h' }) : wpAny (model prog w) A (Builtin.SmallTypes.nextOf (.ref it)) Q E s := by
  obtain ⟨o, ho, hc, hd⟩ := id hit
  obtain ⟨ol, hol, _, nl, hdl⟩ := ht
  refine wpAny_bind (wpAny_callSpecial?_slot hit.typeIs F.slot_tuple_iterator_next (wpAny_call_entry F.slot_tuple_iterator_next hit.typeIs F.entry_tuple_iterator_next ?_ (F.args_tuple_iterator_next_1 _)))
  show wpAny _ _ (field (.ref it) 0 >>= _) _ _ _
  refine wpAny_bind (wpAny_field ho hd rfl ?_)
  refine wpAny_ite_false rfl ?_
  show wpAny _ _ (field (.ref it) 1 >>= _) _ _ _
  refine wpAny_bind (wpAny_field ho hd rfl ?_)
  show wpAny _ _ (seqItems? (.ref t) >>= _) _ _ _
  refine wpAny_bind (wpAny_seqItems hol hdl ?_)
  show wpAny _ _ (match items[i]? with | some x => _ | none => _) _ _ _
  rw [hx]
  refine wpAny_bind (wpAny_setField ho hd (by simp) ?_)
  refine wpAny_pure ⟨x, rfl, wpAny_pure (hQ _ ⟨_, Heap.get?_update_self _ ho (Obj.isFreed_of_fields (Obj.data_mapFields hd _)), (Obj.cls_mapFields o _).trans hc, ?_⟩ (Heap.SameBut.update _ _ _))⟩
  rw [Obj.data_mapFields hd]
  simp
  rfl
theorem nextOf_tuple_end {prog : Program} {w : World} {A : Around} {E : Value → Shared → Prop} {s : Shared} {it t : Addr} {i : Nat} {items : Array Value} {Q : Value → Shared → Prop} (hh : A.handled = none) (hit : s.heap.IsTupleIter it t i) (ht : s.heap.IsTuple t items) (hx : items[i]? = none)
    (hE : ∀ (h' : Heap) (e : Addr), Heap.ExtBut it s.heap h' → (∃ o, h'.get? e = some o ∧ o.cls = .type "StopIteration") → E (.ref e) { s with heap := h' }) : wpAny (model prog w) A (Builtin.SmallTypes.nextOf (.ref it)) Q E s := by
  obtain ⟨o, ho, hc, hd⟩ := id hit
  obtain ⟨ol, hol, _, nl, hdl⟩ := ht
  refine wpAny_bind (wpAny_callSpecial?_slot hit.typeIs F.slot_tuple_iterator_next (wpAny_call_entry F.slot_tuple_iterator_next hit.typeIs F.entry_tuple_iterator_next ?_ (F.args_tuple_iterator_next_1 _)))
  show wpAny _ _ (field (.ref it) 0 >>= _) _ _ _
  refine wpAny_bind (wpAny_field ho hd rfl ?_)
  refine wpAny_ite_false rfl ?_
  show wpAny _ _ (field (.ref it) 1 >>= _) _ _ _
  refine wpAny_bind (wpAny_field ho hd rfl ?_)
  show wpAny _ _ (seqItems? (.ref t) >>= _) _ _ _
  refine wpAny_bind (wpAny_seqItems hol hdl ?_)
  show wpAny _ _ (match items[i]? with | some x => _ | none => _) _ _ _
  rw [hx]
  refine wpAny_bind (wpAny_rule ?_)
  refine wpAny_bind (wpAny_setField ho hd (by simp) ?_)
  show wpAny _ _ (newExc (.type "StopIteration") [] >>= _) _ _ _
  refine wpAny_bind ?_
  simp only [newExc, newTuple]
  refine wpAny_bind (wpAny_newObj_type ?_ (by size_fits))
  refine wpAny_bind (m := firstArgMember _ _) (wpAny_of_eq (a := Value.none) (by first | rfl | (simp only [firstArgMember]; rfl)) ?_)
  refine wpAny_newObj_type ?_ (by size_fits)
  simp only [raiseNew]
  refine wpAny_bind (wpAny_handled ?_)
  rw [show A.in1.handled = none from hh]
  refine wpAny_bind (wpAny_pure (wpAny_throw ?_))
  exact hE _ _ (((Heap.SameBut.update ..).extBut.push _).push _) ⟨_, Heap.get?_push_size _ rfl, rfl⟩
def SIt (b : Bool) (h : Heap) (it l : Addr) (i : Nat) : Prop := match b with | true => h.IsTupleIter it l i | false => h.IsListIter it l i
def SSq (b : Bool) (h : Heap) (l : Addr) (xs : Array Value) : Prop := match b with | true => h.IsTuple l xs | false => h.IsList l xs
theorem SIt.at {b : Bool} {h h' : Heap} {it l : Addr} {i : Nat} (q : SIt b h it l i) (k : ∀ o, h.get? it = some o → h'.get? it = some o) : SIt b h' it l i := by
  cases b
  · exact Heap.IsListIter.at q k
  · exact Heap.IsTupleIter.at q k
theorem SSq.at {b : Bool} {h h' : Heap} {l : Addr} {xs : Array Value} (q : SSq b h l xs) (k : ∀ o, h.get? l = some o → h'.get? l = some o) : SSq b h' l xs := by
  cases b
  · obtain ⟨o, e, r⟩ := q; exact ⟨o, k o e, r⟩
  · obtain ⟨o, e, r⟩ := q; exact ⟨o, k o e, r⟩
theorem nextOf_item {b : Bool} {prog : Program} {w : World} {A : Around} {E : Value → Shared → Prop} {s : Shared} {it t : Addr} {i : Nat} {items : Array Value} {x : Value} {Q : Value → Shared → Prop} (hit : SIt b s.heap it t i) (ht : SSq b s.heap t items) (hx : items[i]? = some x)
    (hQ : ∀ h' : Heap, SIt b h' it t (i + 1) → Heap.SameBut it s.heap h' → Q x { s with heap := h' }) : wpAny (model prog w) A (Builtin.SmallTypes.nextOf (.ref it)) Q E s := by
  cases b
  · exact wpAny_nextOf_list_item hit ht hx hQ
  · exact nextOf_tuple_item hit ht hx hQ
theorem nextOf_end {b : Bool} {prog : Program} {w : World} {A : Around} {E : Value → Shared → Prop} {s : Shared} {it t : Addr} {i : Nat} {items : Array Value} {Q : Value → Shared → Prop} (hh : A.handled = none) (hit : SIt b s.heap it t i) (ht : SSq b s.heap t items) (hx : items[i]? = none)
    (hE : ∀ (h' : Heap) (e : Addr), Heap.ExtBut it s.heap h' → (∃ o, h'.get? e = some o ∧ o.cls = .type "StopIteration") → E (.ref e) { s with heap := h' }) : wpAny (model prog w) A (Builtin.SmallTypes.nextOf (.ref it)) Q E s := by
  cases b
  · exact wpAny_nextOf_list_end hh hit ht hx hE
  · exact nextOf_tuple_end hh hit ht hx hE
theorem zipB_item {b : Bool} {prog : Program} {w : World} {A : Around} {E : Value → Shared → Prop} {s : Shared} {z TI TO i1 i2 l1 l2 : Addr} {k1 k2 : Nat} {xs ys : Array Value} {x y a c : Value} {Q : Value → Shared → Prop} (D : ZipApart z TI TO i1 i2 l1 l2) (hz : IsZip s.heap z TI TO .none) (hTI : IsPair s.heap TI (.ref i1) (.ref i2)) (hTO : IsPair s.heap TO a c)
    (h1 : SIt b s.heap i1 l1 k1) (h2 : SIt b s.heap i2 l2 k2) (hl1 : SSq b s.heap l1 xs) (hl2 : SSq b s.heap l2 ys) (hx : xs[k1]? = some x) (hy : ys[k2]? = some y)
    (hQ : ∀ h' : Heap, IsZip h' z TI TO (rawInt (s.heap.objs.size : Int)) → IsPair h' TO x y → SIt b h' i1 l1 (k1 + 1) → SIt b h' i2 l2 (k2 + 1) → IsPair h' s.heap.objs.size x y → h'.objs.size = s.heap.objs.size + 1 →
      (∀ (c : Addr) (o : Obj), c ≠ z → c ≠ TO → c ≠ i1 → c ≠ i2 → s.heap.get? c = some o → h'.get? c = some o) → Q (.ref s.heap.objs.size) { s with heap := h' }) :
    wpAny (model prog w) A (Builtin.«zip.__next__» { pos := [.ref z] }) (fun fin s' => ∃ v, fin = .done (.ret v) ∧ Q v s') E s := by
  show wpAny _ _ (field (.ref z) 2 >>= _) _ _ _
  refine wpAny_bind (wpAny_field hz rfl rfl ?_)
  show wpAny _ _ (field (.ref z) 3 >>= _) _ _ _
  refine wpAny_bind (wpAny_field hz rfl rfl ?_)
  refine wpAny_bind (wpAny_seqItems hTI rfl ?_)
  show wpAny _ _ (Builtin.SmallTypes.ownedTupleIsFree (.ref z) >>= _) _ _ _
  refine wpAny_bind ?_
  show wpAny _ _ (field (.ref z) 0 >>= _) _ _ _
  refine wpAny_bind (wpAny_field hz rfl rfl (wpAny_pure ?_))
  refine wpAny_ite_true rfl ?_
  refine wpAny_bind (wpAny_rule ?_)
  refine wpAny_bind (wpAny_field hz rfl rfl ?_)
  refine wpAny_bind (wpAny_setField_rec hz (by simp) fun hA gz sb => ?_)
  refine wpAny_bind ?_
  show wpAny _ _ (forIn [(Value.ref i1, 0), (Value.ref i2, 1)] _ _) _ _ _
  rw [List.forIn_cons]
  refine wpAny_bind ?_
  dsimp only
  refine wpAny_bind (wpAny_onRaise ?_)
  have e : ((#[Value.none, Value.bool false, Value.bool false, Value.ref TI, Value.ref TO][2] == Value.bool true) = false) := rfl
  rw [e]
  have sA1 : SIt b hA i1 l1 k1 := h1.at fun o q => (sb.2 _ D.i1z).trans q
  have sL1 : SSq b hA l1 xs := hl1.at fun o q => (sb.2 _ D.l1z).trans q
  refine wpAny_bind (nextOf_item (s := { s with heap := hA }) sA1 sL1 hx fun hB nB sB => ?_)
  refine wpAny_pure ?_
  have tB : IsPair hB TO a c := (sB.2 _ D.TOi1).trans ((sb.2 _ D.TOz).trans hTO)
  refine wpAny_bind (wpAny_seqItems tB rfl ?_)
  refine wpAny_bind (wpAny_updateSeq_pair tB fun hC tC sC => ?_)
  refine wpAny_bind (wpAny_letGo (wpAny_pure ?_))
  dsimp only
  rw [List.forIn_cons]
  refine wpAny_bind ?_
  refine wpAny_bind (wpAny_onRaise ?_)
  have sC2 : SIt b hC i2 l2 k2 := h2.at fun o q => (sC.2 _ (Ne.symm D.TOi2)).trans ((sB.2 _ (Ne.symm D.i12)).trans ((sb.2 _ D.i2z).trans q))
  have sL2 : SSq b hC l2 ys := hl2.at fun o q => (sC.2 _ D.l2TO).trans ((sB.2 _ D.l2i1).trans ((sb.2 _ D.l2z).trans q))
  refine wpAny_bind (nextOf_item (s := { s with heap := hC }) sC2 sL2 hy fun hD nD sD => ?_)
  refine wpAny_pure ?_
  have tD : IsPair hD TO x c := (sD.2 _ D.TOi2).trans tC
  refine wpAny_bind (wpAny_seqItems tD rfl ?_)
  refine wpAny_bind (wpAny_updateSeq_pair tD fun hF tF sF => ?_)
  refine wpAny_bind (wpAny_letGo (wpAny_pure ?_))
  dsimp only
  rw [List.forIn_nil]
  refine wpAny_pure ?_
  dsimp only
  have tF' : IsPair hF TO x y := tF
  refine wpAny_bind (wpAny_seqItems tF' rfl ?_)
  refine wpAny_bind (wpAny_newTuple ?_ (by show 2 ≤ sizeLine; decide))
  have gzF : hF.get? z = some { cls := .type "zip", data := .fields #[.ellipsis, .bool false, .bool false, .ref TI, .ref TO] } := (sF.2 _ (Ne.symm D.TOz)).trans ((sD.2 _ (Ne.symm D.i2z)).trans ((sC.2 _ (Ne.symm D.TOz)).trans ((sB.2 _ (Ne.symm D.i1z)).trans gz)))
  have szF : hF.objs.size = s.heap.objs.size := sF.1.trans (sD.1.trans (sC.1.trans (sB.1.trans sb.1)))
  have ltz : z < hF.objs.size := Heap.lt_size gzF
  have gzG : (hF.push { cls := .type "tuple", data := .seq #[x, y] }).get? z = some { cls := .type "zip", data := .fields #[.ellipsis, .bool false, .bool false, .ref TI, .ref TO] } := Heap.get?_push_of_some _ gzF
  refine wpAny_bind ?_
  show wpAny _ _ (setField (.ref z) 0 (rawInt _) >>= _) _ _ _
  refine wpAny_bind (wpAny_setField_rec gzG (by simp) fun hG gG sG => ?_)
  refine wpAny_setField_rec gG (by simp) fun hI gI sI => ?_
  refine wpAny_pure ⟨_, rfl, ?_⟩
  have o4 : ∀ (c : Addr) (o : Obj), c ≠ z → c ≠ TO → c ≠ i1 → c ≠ i2 → s.heap.get? c = some o → hI.get? c = some o := fun c o n1 n2 n3 n4 e =>
    (sI.2 _ n1).trans ((sG.2 _ n1).trans (Heap.get?_push_of_some _ ((sF.2 _ n2).trans ((sD.2 _ n4).trans ((sC.2 _ n2).trans ((sB.2 _ n3).trans ((sb.2 _ n1).trans e)))))))
  have nz : hF.objs.size ≠ z := Nat.ne_of_gt ltz
  have gT : hI.get? hF.objs.size = some { cls := .type "tuple", data := .seq #[x, y] } := (sI.2 _ nz).trans ((sG.2 _ nz).trans (Heap.get?_push_size _ rfl))
  have szI : hI.objs.size = hF.objs.size + 1 := sI.1.trans (sG.1.trans (Heap.size_push ..))
  have pz : ∀ {c : Addr} {o : Obj}, c ≠ z → hF.get? c = some o → hI.get? c = some o := fun n e => (sI.2 _ n).trans ((sG.2 _ n).trans (Heap.get?_push_of_some _ e))
  have q := hQ hI
  rw [← szF] at q
  refine q gI (pz D.TOz tF') (nB.at fun o e => pz D.i1z ((sF.2 _ (Ne.symm D.TOi1)).trans ((sD.2 _ D.i12).trans ((sC.2 _ (Ne.symm D.TOi1)).trans e)))) (nD.at fun o e => pz D.i2z ((sF.2 _ (Ne.symm D.TOi2)).trans e)) gT szI o4
theorem zipB_end {b : Bool} {prog : Program} {w : World} {A : Around} {E : Value → Shared → Prop} {s : Shared} {z TI TO i1 i2 l1 l2 : Addr} {k1 : Nat} {xs : Array Value} {Q : PySem.Fin → Shared → Prop} (hh : A.handled = none) (D : ZipApart z TI TO i1 i2 l1 l2) (hz : IsZip s.heap z TI TO .none) (hTI : IsPair s.heap TI (.ref i1) (.ref i2))
    (h1 : SIt b s.heap i1 l1 k1) (hl1 : SSq b s.heap l1 xs) (hx : xs[k1]? = none)
    (hE : ∀ (h' : Heap) (e : Addr), (∀ (c : Addr) (o : Obj), c ≠ z → c ≠ i1 → s.heap.get? c = some o → h'.get? c = some o) → (∃ o, h'.get? e = some o ∧ o.cls = .type "StopIteration") → E (.ref e) { s with heap := h' }) :
    wpAny (model prog w) A (Builtin.«zip.__next__» { pos := [.ref z] }) Q E s := by
  show wpAny _ _ (field (.ref z) 2 >>= _) _ _ _
  refine wpAny_bind (wpAny_field hz rfl rfl ?_)
  show wpAny _ _ (field (.ref z) 3 >>= _) _ _ _
  refine wpAny_bind (wpAny_field hz rfl rfl ?_)
  refine wpAny_bind (wpAny_seqItems hTI rfl ?_)
  show wpAny _ _ (Builtin.SmallTypes.ownedTupleIsFree (.ref z) >>= _) _ _ _
  refine wpAny_bind ?_
  show wpAny _ _ (field (.ref z) 0 >>= _) _ _ _
  refine wpAny_bind (wpAny_field hz rfl rfl (wpAny_pure ?_))
  refine wpAny_ite_true rfl ?_
  refine wpAny_bind (wpAny_rule ?_)
  refine wpAny_bind (wpAny_field hz rfl rfl ?_)
  refine wpAny_bind (wpAny_setField_rec hz (by simp) fun hA gz sb => ?_)
  refine wpAny_bind ?_
  show wpAny _ _ (forIn [(Value.ref i1, 0), (Value.ref i2, 1)] _ _) _ _ _
  rw [List.forIn_cons]
  refine wpAny_bind ?_
  dsimp only
  refine wpAny_bind (wpAny_onRaise ?_)
  have e : ((#[Value.none, Value.bool false, Value.bool false, Value.ref TI, Value.ref TO][2] == Value.bool true) = false) := rfl
  rw [e]
  have sA1 : SIt b hA i1 l1 k1 := h1.at fun o q => (sb.2 _ D.i1z).trans q
  have sL1 : SSq b hA l1 xs := hl1.at fun o q => (sb.2 _ D.l1z).trans q
  refine wpAny_bind (nextOf_end (s := { s with heap := hA }) hh sA1 sL1 hx fun hB ea xB ⟨ob, gb, cb⟩ => ?_)
  have gzB := xB z _ (Ne.symm D.i1z) gz
  refine wpAny_setField_rec gzB (by simp) fun hC gC sC => ?_
  have nez : ea ≠ z := fun q => by
    rw [q, gzB] at gb
    cases gb
    exact absurd (show Value.type "zip" = Value.type "StopIteration" from cb) (by decide)
  exact hE hC ea (fun c o n1 n2 q => (sC.2 _ n1).trans (xB c o n2 ((sb.2 _ n1).trans q))) ⟨ob, (sC.2 _ nez).trans gb, cb⟩
section
variable {b : Bool} {prog : Program} {w : World} {A : Around} {E : Value → Shared → Prop} {s : Shared} {z TI TO i1 i2 l1 l2 : Addr} {k1 k2 : Nat} {xs ys : Array Value}
theorem pyNext_zipB_item {x y a c : Value} {Q : Option Value → Shared → Prop} (D : ZipApart z TI TO i1 i2 l1 l2) (hz : IsZip s.heap z TI TO .none) (hTI : IsPair s.heap TI (.ref i1) (.ref i2)) (hTO : IsPair s.heap TO a c)
    (h1 : SIt b s.heap i1 l1 k1) (h2 : SIt b s.heap i2 l2 k2) (hl1 : SSq b s.heap l1 xs) (hl2 : SSq b s.heap l2 ys) (hx : xs[k1]? = some x) (hy : ys[k2]? = some y)
    (hQ : ∀ h' : Heap, IsZip h' z TI TO (rawInt (s.heap.objs.size : Int)) → IsPair h' TO x y → SIt b h' i1 l1 (k1 + 1) → SIt b h' i2 l2 (k2 + 1) → IsPair h' s.heap.objs.size x y → h'.objs.size = s.heap.objs.size + 1 →
      (∀ (c : Addr) (o : Obj), c ≠ z → c ≠ TO → c ≠ i1 → c ≠ i2 → s.heap.get? c = some o → h'.get? c = some o) → Q (some (.ref s.heap.objs.size)) { s with heap := h' }) :
    wpAny (model prog w) A (pyNext (.ref z)) Q E s := by
  have hT : s.TypeIs (.ref z) "zip" := ⟨_, hz, rfl⟩
  unfold pyNext
  refine wpAny_bind (wpAny_attempt (wpAny_callSpecial?_slot (name := Str.ofString "__next__") hT F.slot_zip_next (wpAny_call_entry F.slot_zip_next hT F.entry_zip_next ?_ (F.args_zip_next_1 _))))
  exact zipB_item (Q := fun v s' => wpAny (model prog w) A (pure (some v)) Q E s') D hz hTI hTO h1 h2 hl1 hl2 hx hy fun h' q1 q2 q3 q4 q5 q6 q7 => wpAny_pure (hQ h' q1 q2 q3 q4 q5 q6 q7)
theorem pyNext_zipB_end {Q : Option Value → Shared → Prop} (hh : A.handled = none) (D : ZipApart z TI TO i1 i2 l1 l2) (hz : IsZip s.heap z TI TO .none) (hTI : IsPair s.heap TI (.ref i1) (.ref i2))
    (h1 : SIt b s.heap i1 l1 k1) (hl1 : SSq b s.heap l1 xs) (hx : xs[k1]? = none)
    (hQ : ∀ h' : Heap, (∀ (c : Addr) (o : Obj), c ≠ z → c ≠ i1 → s.heap.get? c = some o → h'.get? c = some o) → Q none { s with heap := h' }) :
    wpAny (model prog w) A (pyNext (.ref z)) Q E s := by
  have hT : s.TypeIs (.ref z) "zip" := ⟨_, hz, rfl⟩
  unfold pyNext
  refine wpAny_bind (wpAny_attempt (wpAny_callSpecial?_slot (name := Str.ofString "__next__") hT F.slot_zip_next (wpAny_call_entry F.slot_zip_next hT F.entry_zip_next ?_ (F.args_zip_next_1 _))))
  refine zipB_end hh D hz hTI h1 hl1 hx fun h' e k ⟨o, g, c⟩ => ?_
  refine wpAny_bind (wpAny_isInstance (T := "StopIteration") (b := true) ⟨_, g, c⟩ isSubtype_stop ?_)
  exact wpAny_pure (hQ h' k)
end
abbrev itObj (b : Bool) (l : Addr) : Obj := { cls := .type (match b with | true => "tuple_iterator" | false => "list_iterator"), data := .fields #[.ref l, .int 0 0] }
theorem pyIter_seq {b : Bool} {prog : Program} {w : World} {A : Around} {E : Value → Shared → Prop} {s : Shared} {l : Addr} {xs : Array Value} {Q : Value → Shared → Prop} (h : SSq b s.heap l xs) (hQ : Q (.ref s.heap.objs.size) { s with heap := s.heap.push (itObj b l) }) : wpAny (model prog w) A (pyIter (.ref l)) Q E s := by
  cases b
  · exact wpAny_pyIter_list h hQ
  · exact wpAny_pyIter_tuple h hQ
abbrev zb1 (b : Bool) (h : Heap) (l1 : Addr) : Heap := h.push (itObj b l1)
abbrev zb2 (b : Bool) (h : Heap) (l1 l2 : Addr) : Heap := (zb1 b h l1).push (itObj b l2)
abbrev zb3 (b : Bool) (h : Heap) (l1 l2 : Addr) : Heap := (zb2 b h l1 l2).push { cls := .type "tuple", data := .seq #[.ref h.objs.size, .ref (zb1 b h l1).objs.size] }
abbrev zb4 (b : Bool) (h : Heap) (l1 l2 : Addr) : Heap := (zb3 b h l1 l2).push { cls := .type "tuple", data := .seq #[.none, .none] }
abbrev zb5 (b : Bool) (h : Heap) (l1 l2 : Addr) : Heap := (zb4 b h l1 l2).push { cls := .type "zip", data := .fields #[.none, .bool false, .bool false, .ref (zb2 b h l1 l2).objs.size, .ref (zb3 b h l1 l2).objs.size] }
theorem zipB_new (b : Bool) (l1 l2 : Addr) (xs ys : Array Value) : Meets (Builtin.«zip.__new__» { pos := [.type "zip", .ref l1, .ref l2] }) fun _ R s =>
    SSq b s.heap l1 xs ∧ SSq b s.heap l2 ys ∧ R (.ok (.ret (.ref (zb4 b s.heap l1 l2).objs.size))) { s with heap := zb5 b s.heap l1 l2 } := by
  refine Meets.of_wp fun prog w A R s h => ?_
  obtain ⟨hp, g, d, tk, os⟩ := s
  obtain ⟨hl1, hl2, h⟩ := h
  have hL2 : SSq b (hp.push (itObj b l1)) l2 ys := SSq.at hl2 fun o q => Heap.get?_push_of_some _ q
  refine wpAny_bind ?_
  refine wpAny_bind (wpAny_pure ?_)
  refine wpAny_ite_false rfl ?_
  refine wpAny_bind (wpAny_of_eq sub_zip ?_)
  refine wpAny_ite_false rfl ?_
  refine wpAny_pure ?_
  refine wpAny_ite_false rfl ?_
  refine wpAny_bind ?_
  refine wpAny_bind ?_
  show wpAny _ _ (forIn [Value.ref l1, Value.ref l2] #[] _) _ _ _
  rw [List.forIn_cons]
  refine wpAny_bind (wpAny_bind (wpAny_holding (pyIter_seq hl1 (wpAny_pure ?_))))
  dsimp only
  rw [List.forIn_cons]
  refine wpAny_bind (wpAny_bind (wpAny_holding (pyIter_seq hL2 (wpAny_pure ?_))))
  dsimp only
  rw [List.forIn_nil]
  refine wpAny_pure (wpAny_pure ?_)
  refine wpAny_bind (wpAny_newTuple ?_ (by show 2 ≤ sizeLine; decide))
  refine wpAny_bind (wpAny_newTuple ?_ (by show 2 ≤ sizeLine; decide))
  refine wpAny_bind ?_
  unfold Builtin.SmallTypes.newRecord
  dsimp only
  refine wpAny_newObj_type ?_ (by first | rfl | (show (5 : Nat) ≤ _; decide) | (show (5 : Nat) ≤ sizeLine + 2; rw [sizeLine_eq]; decide))
  refine wpAny_pure ⟨_, rfl, h⟩
end L2
set_option Elab.async false
set_option linter.all false
set_option maxRecDepth 100000
namespace L2
open PySem PySem.Spec PyProof.Rows
theorem call_zipB {b : Bool} {prog : Program} {w : World} {A : Around} {E : Value → Shared → Prop} {s : Shared} {l1 l2 : Addr} {xs ys : Array Value} {Q : Value → Shared → Prop} (hl1 : SSq b s.heap l1 xs) (hl2 : SSq b s.heap l2 ys)
    (hQ : ∀ (h' : Heap) (z TI TO i1 i2 : Addr), ZipApart z TI TO i1 i2 l1 l2 → IsZip h' z TI TO .none → IsPair h' TI (.ref i1) (.ref i2) → IsPair h' TO .none .none → SIt b h' i1 l1 0 → SIt b h' i2 l2 0 → (∀ c ∈ [z, TI, TO, i1, i2], s.heap.objs.size ≤ c) →
      (∀ (c : Addr) (o : Obj), s.heap.get? c = some o → h'.get? c = some o) → Q (.ref z) { s with heap := h' }) :
    wpAny (model prog w) A (call (.type "zip") [.ref l1, .ref l2]) Q E s := by
  refine callType_new F.called_zip (by decide) (F.typeCall_zip_2 _ _) (F.newCall_zip_2 _ _) (fun obj => F.args_object_init_3 obj _ _) F.entry_zip_new (zipB_new b l1 l2 xs ys) ⟨hl1, hl2, ?_⟩
  have z1 : (zb1 b s.heap l1).objs.size = s.heap.objs.size + 1 := Heap.size_push ..
  have z2 : (zb2 b s.heap l1 l2).objs.size = s.heap.objs.size + 2 := (Heap.size_push ..).trans (by rw [z1])
  have z3 : (zb3 b s.heap l1 l2).objs.size = s.heap.objs.size + 3 := (Heap.size_push ..).trans (by rw [z2])
  have z4 : (zb4 b s.heap l1 l2).objs.size = s.heap.objs.size + 4 := (Heap.size_push ..).trans (by rw [z3])
  have g5 : (zb5 b s.heap l1 l2).get? (zb4 b s.heap l1 l2).objs.size = some { cls := .type "zip", data := .fields #[.none, .bool false, .bool false, .ref (zb2 b s.heap l1 l2).objs.size, .ref (zb3 b s.heap l1 l2).objs.size] } := Heap.get?_push_size _ rfl
  have g4 : (zb5 b s.heap l1 l2).get? (zb3 b s.heap l1 l2).objs.size = some { cls := .type "tuple", data := .seq #[.none, .none] } := Heap.get?_push_of_some _ (Heap.get?_push_size _ rfl)
  have g3 : (zb5 b s.heap l1 l2).get? (zb2 b s.heap l1 l2).objs.size = some { cls := .type "tuple", data := .seq #[.ref s.heap.objs.size, .ref (zb1 b s.heap l1).objs.size] } := Heap.get?_push_of_some _ (Heap.get?_push_of_some _ (Heap.get?_push_size _ rfl))
  have g2 : (zb5 b s.heap l1 l2).get? (zb1 b s.heap l1).objs.size = some (itObj b l2) := Heap.get?_push_of_some _ (Heap.get?_push_of_some _ (Heap.get?_push_of_some _ (Heap.get?_push_size _ rfl)))
  have g1 : (zb5 b s.heap l1 l2).get? s.heap.objs.size = some (itObj b l1) := Heap.get?_push_of_some _ (Heap.get?_push_of_some _ (Heap.get?_push_of_some _ (Heap.get?_push_of_some _ (Heap.get?_push_size _ rfl))))
  have lt : ∀ {l : Addr} {zs : Array Value}, SSq b s.heap l zs → l < s.heap.objs.size := fun {l zs} q => by
    cases b
    · obtain ⟨o, e, _⟩ := q; exact Heap.lt_size e
    · obtain ⟨o, e, _⟩ := q; exact Heap.lt_size e
  refine ⟨⟨_, g5, rfl⟩, ?_⟩
  have D := zipApart_new (n := s.heap.objs.size) (lt hl1) (lt hl2)
  rw [← z4, ← z3, ← z2, ← z1] at D
  refine hQ _ _ _ _ _ _ D g5 g3 g4 ?_ ?_ ?_ fun c o e => Heap.get?_push_of_some _ (Heap.get?_push_of_some _ (Heap.get?_push_of_some _ (Heap.get?_push_of_some _ (Heap.get?_push_of_some _ e))))
  · cases b
    · exact ⟨_, g1, rfl, rfl⟩
    · exact ⟨_, g1, rfl, rfl⟩
  · cases b
    · exact ⟨_, g2, rfl, rfl⟩
    · exact ⟨_, g2, rfl, rfl⟩
  · intro c hc
    have e' : c = (zb4 b s.heap l1 l2).objs.size ∨ c = (zb2 b s.heap l1 l2).objs.size ∨ c = (zb3 b s.heap l1 l2).objs.size ∨ c = s.heap.objs.size ∨ c = (zb1 b s.heap l1).objs.size := by simpa using hc
    rcases e' with rfl | rfl | rfl | rfl | rfl
    · omega
    · omega
    · omega
    · exact Nat.le_refl _
    · omega
def SqB (b : Bool) (K : PySem.W.Frag) (H : Hp) (a : Addr) (xs : List V) : Prop := match b with | true => SqT K H a xs | false => SqL K H a xs
def Itz (K : PySem.W.Frag) (b : Bool) (l1 l2 : Addr) : It :=
  ⟨fun i H => ∃ xs ys x y, SqB b K H l1 xs ∧ SqB b K H l2 ys ∧ xs[i]? = some x ∧ ys[i]? = some y, fun i H v H' => ∃ T x y, H T = none ∧ v = .ref T ∧ H' = upd H T (.tup [x, y]) ∧ ∀ xs ys, SqB b K H l1 xs → SqB b K H l2 ys → xs[i]? = some x ∧ ys[i]? = some y, fun i H => ∃ xs, SqB b K H l1 xs ∧ xs.length ≤ i⟩
section
variable {X : Cx}
theorem Inv.seqB {b : Bool} {pins : List (Addr × Obj)} {s : Shared} {σ : St} {H : Hp} {a : Addr} {xs : List V} (I : Inv X pins σ H s) (h : SqB b X.K H a xs) : ∃ its : List Value, Vals xs its ∧ SSq b s.heap a its.toArray := by
  cases b
  · obtain ⟨its, rv, p, _⟩ := I.list h; exact ⟨its, rv, p.isList⟩
  · obtain ⟨its, rv, p, _⟩ := I.tuple h; exact ⟨its, rv, p⟩
theorem Inv.seqB_inj {b : Bool} {pins : List (Addr × Obj)} {s : Shared} {σ : St} {H : Hp} {a : Addr} {xs ys : List V} (I : Inv X pins σ H s) (h : SqB b X.K H a xs) (h' : SqB b X.K H a ys) : xs = ys := by
  cases b
  · exact I.list_inj h h'
  · exact I.tuple_inj h h'
theorem turn_zip {P : Program} {w : World} {K : PySem.W.Frag} {elts : List Expr} {k : Nat} {pos : Pos} {b : Bool} {z TI TO i1 i2 l1 l2 : Addr} (D : ZipApart z TI TO i1 i2 l1 l2) : Turn P w K (.Tuple elts k pos) (Itz K b l1 l2) [z, TI, TO, i1, i2] z (fun i h => IsZip h z TI TO .none ∧ IsPair h TI (.ref i1) (.ref i2) ∧ (∃ a c, IsPair h TO a c) ∧ SIt b h i1 l1 i ∧ SIt b h i2 l2 i) where
  mem := by simp
  obj := fun i h ⟨h1, h2, ⟨a, c, h3⟩, h4, h5⟩ d hd => by
    have it : ∀ {j l : Addr}, SIt b h j l i → ∃ o, h.get? j = some o ∧ ∀ v, o.data ≠ .cell v := fun {j l} q => by
      cases b
      · obtain ⟨o, e, _, q⟩ := q; exact ⟨o, e, fun v z => by rw [q] at z; cases z⟩
      · obtain ⟨o, e, _, q⟩ := q; exact ⟨o, e, fun v z => by rw [q] at z; cases z⟩
    have e' : d = z ∨ d = TI ∨ d = TO ∨ d = i1 ∨ d = i2 := by simpa using hd
    rcases e' with rfl | rfl | rfl | rfl | rfl
    · exact ⟨_, h1, fun v z => by
        have z' : Data.fields _ = Data.cell v := z
        cases z'⟩
    · exact ⟨_, h2, fun v z => by
        have z' : Data.seq _ = Data.cell v := z
        cases z'⟩
    · exact ⟨_, h3, fun v z => by
        have z' : Data.seq _ = Data.cell v := z
        cases z'⟩
    · exact it h4
    · exact it h5
  keep := fun i h h' ⟨h1, h2, ⟨a, c, h3⟩, h4, h5⟩ kk => ⟨kk z (by simp) _ h1, kk TI (by simp) _ h2, ⟨a, c, kk TO (by simp) _ h3⟩, h4.at fun o q => kk i1 (by simp) o q, h5.at fun o q => kk i2 (by simp) o q⟩
  item := by
    intro X hP hw hK hc i pins s σ H E I hf st hg
    subst hP hw hK
    obtain ⟨xs, ys, x, y, hq1, hq2, hx, hy⟩ := hg
    obtain ⟨its, rv, p1⟩ := I.seqB hq1
    obtain ⟨jts, rw', p2⟩ := I.seqB hq2
    obtain ⟨u, hu, ru⟩ := rv.get hx
    obtain ⟨v, hv, rv'⟩ := rw'.get hy
    obtain ⟨h1, h2, ⟨a, c, h3⟩, h4, h5⟩ := st
    refine pyNext_zipB_item D h1 h2 h3 h4 h5 p1 p2 (x := u) (y := v) (by simpa using hu) (by simpa using hv) fun h' a1 a2 a3 a4 a5 a6 a7 => ?_
    refine ⟨_, rfl, wpAny_letOwnedTupleGo_zip a1 fun h2' b1 b2 => ?_⟩
    have ltz : z < s.heap.objs.size := Heap.lt_size h1
    have nz : s.heap.objs.size ≠ z := Nat.ne_of_gt ltz
    have I1 : Inv X pins σ H { s with heap := h2', toks := s.toks } := I.turnedL (ch := [z, TI, TO, i1, i2]) (fun d o hd q => by
      have e1 : d ≠ z := fun q => hd (by simp [q])
      exact (b2.2 d e1).trans (a7 d o e1 (fun q => hd (by simp [q])) (fun q => hd (by simp [q])) (fun q => hd (by simp [q])) q)) hf
    have hT : H s.heap.objs.size = none := I.hok.fresh (Nat.le_refl _)
    have fT := I.fpOk (H' := H) (b := s.heap.objs.size) (Nat.le_refl _) hT
    have gT : h2'.get? s.heap.objs.size = some { cls := .type "tuple", data := .seq #[u, v] } := (b2.2 _ nz).trans a5
    refine ⟨.ref s.heap.objs.size, upd H s.heap.objs.size (.tup [x, y]), I1.track hT I.sz fT.2.1 fT.2.2.2.2.1 fT.2.2.2.2.2 ⟨by simp only [List.length_cons, List.length_nil]; rw [sizeLine_eq]; decide, [u, v], .cons ru (.cons rv' .nil), ⟨_, gT, rfl, _, rfl⟩⟩, rfl,
      ⟨_, x, y, hT, rfl, rfl, fun xs' ys' e1 e2 => by rw [I.seqB_inj e1 hq1, I.seqB_inj e2 hq2]; exact ⟨hx, hy⟩⟩, ⟨b1, (b2.2 _ D.TIz).trans (a7 _ _ D.TIz D.TITO D.TIi1 D.TIi2 h2), ⟨u, v, (b2.2 _ D.TOz).trans a2⟩, a3.at fun o q => (b2.2 _ D.i1z).trans q, a4.at fun o q => (b2.2 _ D.i2z).trans q⟩, fun d hd => ?_⟩
    have ltb : d < s.heap.objs.size := by
      have it : ∀ {j l : Addr} {n : Nat}, SIt b s.heap j l n → j < s.heap.objs.size := fun {j l n} q => by
        cases b
        · obtain ⟨o, e, _, q⟩ := q; exact Heap.lt_size e
        · obtain ⟨o, e, _, q⟩ := q; exact Heap.lt_size e
      have e' : d = z ∨ d = TI ∨ d = TO ∨ d = i1 ∨ d = i2 := by simpa using hd
      rcases e' with rfl | rfl | rfl | rfl | rfl
      · exact ltz
      · exact Heap.lt_size h2
      · exact Heap.lt_size h3
      · exact it h4
      · exact it h5
    rw [upd_ne (Nat.ne_of_lt ltb)]
    exact (hf d hd).1
  done := by
    intro X hP hw hK hc i pins s σ H E I hf st hg
    subst hP hw hK
    obtain ⟨xs, hq, hx⟩ := hg
    obtain ⟨its, rv, p⟩ := I.seqB hq
    have hl := rv.length
    obtain ⟨h1, h2, ⟨a, c, h3⟩, h4, h5⟩ := st
    exact pyNext_zipB_end (I.ok.hd hc) D h1 h2 h4 p (by simp; omega) fun h' eb => ⟨rfl, I.turnedL (t' := s.toks) (ch := [z, TI, TO, i1, i2]) (fun d o hd q => eb d o (fun z => hd (by simp [z])) (fun z => hd (by simp [z])) q) hf⟩
  self := fun _ _ _ _ _ ⟨h1, _⟩ h => wpAny_pyIter_zip h1 h
def iZip (K : PySem.W.Frag) (ta : TA) : TI := fun σ H R => ta σ H fun vs H1 => ∃ b l m, vs = [.ref l, .ref m] ∧ (∃ xs, SqB b K H1 l xs) ∧ (∃ xs, SqB b K H1 m xs) ∧ R (Itz K b l m) H1
theorem pi_zip {elts : List Expr} {k : Nat} {tpos : Pos} {a b : Expr} {ta : TA} {p pos : Pos} (hg : Gl X "zip") (hm : X.mg "zip" = none) (hv : bootBuiltins "zip" = some (.type "zip")) (ha : PA X [a, b] ta) (hs : starEach [a, b] X.env = [(false, eval a X.env), (false, eval b X.env)] := by rfl) (hs2 : starEach [b] X.env = [(false, eval b X.env)] := by rfl) :
    PI X (.Tuple elts k tpos) (.Call (.Name "zip" p) [a, b] [] pos) (iZip X.K ta) := by
  intro pins s σ H R I h
  refine Call_ (ld_blt I hg hm hv (PyProof.Rows.callWith_type1 (thn (ha pos pins s σ H _ I h) fun us s1 ⟨vs, H1, I1, r1, q1⟩ => ?_) (by rw [hs, hs2]) (by rw [hs2]; rfl)))
  obtain ⟨bb, l, m, e, ⟨xs, hq⟩, ⟨ys, hq2⟩, q⟩ := q1
  subst e
  obtain ⟨u, v, rfl, rx, ry⟩ := vals2 r1
  cases rx
  cases ry
  obtain ⟨its, rv, pl⟩ := I1.seqB hq
  obtain ⟨jts, rw', pm⟩ := I1.seqB hq2
  refine call_zipB pl pm fun h' z TI TO i1 i2 D hz hTI hTO hi1 hi2 hfr hk => ?_
  refine wpAny_pyIter_zip hz ?_
  have I2 : Inv X pins σ H1 { s1 with heap := h' } := I1.kept (t' := s1.toks) hk
  exact ⟨z, [z, TI, TO, i1, i2], _, _, H1, rfl, I2, turn_zip (b := bb) D, ⟨hz, hTI, ⟨_, _, hTO⟩, hi1, hi2⟩, fun c hc => I1.fpOk (hfr c hc) (I1.hok.fresh (hfr c hc)), q⟩
end
theorem lc_zip {K : PySem.W.Frag} {b : Bool} {l m : Addr} {xs ys : List V} {g : TG} {tc : TT} {te : TE} {Kf : Hp → Prop} {σ0 : St} {H0 : Hp} {p : Addr} (hlen : xs.length = ys.length) (Pv : Nat → St → Hp → Prop) (h0 : Pv 0 σ0 H0) (hl : ∀ i σ H, i ≤ xs.length → Pv i σ H → SqB b K H l xs ∧ SqB b K H m ys)
    (hs : ∀ i x y σ H T, xs[i]? = some x → ys[i]? = some y → Pv i σ H → H T = none → g (.ref T) σ (upd H T (.tup [x, y])) fun σ2 H2 => tc σ2 H2 fun b H3 => if b = true then te σ2 H3 fun y H4 => ∃ ys, H4 p = some (.lst ys) ∧ ys.length < sizeLine ∧ Pv (i + 1) σ2 (upd H4 p (.lst (ys ++ [y]))) else Pv (i + 1) σ2 H3)
    (hd : ∀ σ H, Pv xs.length σ H → Kf H) :
    ∃ W : Nat → Nat → St → Hp → Prop, (∃ m, W 0 m σ0 H0) ∧ ∀ i n σ H, W i n σ H →
      ((Itz K b l m).stop i H ∧ Kf H) ∨ ((Itz K b l m).go i H ∧ ∃ N : St → Hp → Prop, (∀ σ' H', N σ' H' → ∃ m', m' < n ∧ W (i + 1) m' σ' H') ∧ ∀ x H', (Itz K b l m).yld i H x H' → g x σ H' fun σ2 H2 => tc σ2 H2 fun b H3 =>
        if b = true then te σ2 H3 fun y H4 => ∃ ys, H4 p = some (.lst ys) ∧ ys.length < sizeLine ∧ N σ2 (upd H4 p (.lst (ys ++ [y]))) else N σ2 H3) := by
  refine ⟨fun i n σ H => n = xs.length - i ∧ i ≤ xs.length ∧ Pv i σ H, ⟨xs.length, by simp, Nat.zero_le _, h0⟩, ?_⟩
  rintro i n σ H ⟨rfl, hi, q⟩
  have hq := hl i σ H hi q
  by_cases hlt : i < xs.length
  · refine .inr ⟨⟨xs, ys, xs[i], ys[i]'(by omega), hq.1, hq.2, by simp [hlt], List.getElem?_eq_getElem _⟩, Pv (i + 1), fun σ' H' p' => ⟨xs.length - (i + 1), by omega, rfl, hlt, p'⟩, fun v H' y => ?_⟩
    obtain ⟨T, x, y, hT, e1, e2, yy⟩ := y
    subst e1 e2
    exact hs i x y σ H T (yy xs ys hq.1 hq.2).1 (yy xs ys hq.1 hq.2).2 q hT
  · have e : i = xs.length := by omega
    subst e
    exact .inl ⟨⟨xs, hq.1, Nat.le_refl _⟩, hd σ H q⟩
end L2
set_option Elab.async false
set_option linter.all false
set_option maxRecDepth 100000
namespace L2
open PySem PySem.Spec PyProof.Rows
section
variable {X : Cx}
end
end L2
set_option Elab.async false
set_option linter.all false
set_option maxRecDepth 100000
set_option maxHeartbeats 0
namespace L2
open PySem PyProof.Rows
abbrev SM := StateT SortSt Sem
def kv (p : Keyed) : Int := numOf p.1
section
variable {prog : Program} {w : World} {A : Around} {E : Value → Shared → Prop} {s : Shared}
end
end L2
set_option Elab.async false
set_option linter.all false
set_option maxRecDepth 100000
set_option maxHeartbeats 0
namespace L2
open PySem PyProof.Rows
structure MR (R : Keyed → Keyed → Prop) (all out ra rb : List Keyed) : Prop where
  perm : (out ++ (ra ++ rb)).Perm all
  up : out.Pairwise R
  ua : ra.Pairwise R
  ub : rb.Pairwise R
  la : ∀ x ∈ out, ∀ y ∈ ra, R x y
  lb : ∀ x ∈ out, ∀ y ∈ rb, R x y
section
variable {R : Keyed → Keyed → Prop} {all out ra rb xs : List Keyed}
theorem MR.symm (h : MR R all out ra rb) : MR R all out rb ra := ⟨((List.Perm.refl out).append (List.perm_append_comm)).trans h.perm, h.up, h.ub, h.ua, h.lb, h.la⟩
end
abbrev rUp (x y : Keyed) : Prop := kv x ≤ kv y
abbrev rDn (x y : Keyed) : Prop := kv y ≤ kv x
def SE (st st' : SortSt) : Prop := kindOf st' = kindOf st ∧ arrOf st' = arrOf st ∧ pendingOf st' = pendingOf st ∧ failedOf st' = failedOf st
theorem SE.refl (st : SortSt) : SE st st := ⟨rfl, rfl, rfl, rfl⟩
end L2
set_option Elab.async false
set_option linter.all false
set_option maxRecDepth 100000
set_option maxHeartbeats 0
namespace L2
open PySem PyProof.Rows
section
variable {prog : Program} {w : World} {A : Around} {E : Value → Shared → Prop} {s : Shared}
end
end L2
set_option Elab.async false
set_option linter.all false
set_option maxRecDepth 100000
set_option maxHeartbeats 0
namespace L2
open PySem PyProof.Rows
section
variable {prog : Program} {w : World} {A : Around} {E : Value → Shared → Prop} {s : Shared}
end
end L2
set_option Elab.async false
set_option linter.all false
set_option maxRecDepth 100000
set_option maxHeartbeats 0
namespace L2
open PySem PyProof.Rows
section
variable {prog : Program} {w : World} {A : Around} {E : Value → Shared → Prop} {s : Shared}
structure SG (a₀ : Array Keyed) (st : SortSt) : Prop where
  perm : (arrOf st).Perm a₀
  kind : kindOf st = oneType'
  failed : failedOf st = none
theorem SG.size {a₀ : Array Keyed} {st : SortSt} (h : SG a₀ st) : (arrOf st).size = a₀.size := h.perm.size_eq
end
end L2
set_option Elab.async false
set_option linter.all false
set_option maxRecDepth 100000
set_option maxHeartbeats 0
namespace L2
open PySem PyProof.Rows
def Out (xs ys : Array Keyed) (lo hi : Nat) : Prop := ∀ k, k < lo ∨ hi ≤ k → K ys k = K xs k
theorem Out.refl (xs : Array Keyed) (lo hi : Nat) : Out xs xs lo hi := fun _ _ => rfl
theorem Out.trans {xs ys zs : Array Keyed} {lo hi : Nat} (h1 : Out xs ys lo hi) (h2 : Out ys zs lo hi) : Out xs zs lo hi := fun k hk => (h2 k hk).trans (h1 k hk)
section
variable {prog : Program} {w : World} {A : Around} {E : Value → Shared → Prop} {s : Shared} {a₀ : Array Keyed}
abbrev CUp := Option (Option Nat) × Nat
abbrev CDn := Option (Option Nat) × Nat × Nat
end
end L2
set_option Elab.async false
set_option linter.all false
set_option maxRecDepth 100000
set_option maxHeartbeats 0
namespace L2
open PySem PyProof.Rows
section
variable {prog : Program} {w : World} {A : Around} {E : Value → Shared → Prop} {s : Shared} {a₀ : Array Keyed}
end
end L2
set_option Elab.async false
set_option linter.all false
set_option maxRecDepth 100000
set_option maxHeartbeats 0
namespace L2
open PySem PySem.Spec PyProof.Rows
section
variable {prog : Program} {w : World} {A : Around} {E : Value → Shared → Prop} {s : Shared}
end
section
variable {X : Cx}
end
end L2
set_option Elab.async false
set_option linter.all false
set_option maxRecDepth 100000
set_option maxHeartbeats 0
namespace L2
open PySem PySem.Spec PyProof.Rows
open PySem.AutoSeq1 in
section
variable {X : Cx}
end
end L2
set_option Elab.async false
set_option linter.all false
set_option maxRecDepth 100000
set_option maxHeartbeats 0
namespace L2
open PySem PySem.Spec PyProof.Rows
section
variable {prog : Program} {w : World} {A : Around} {R : Result → Shared → Prop} {I : Addr} {fp wr : List Addr} {n : Nat} {P : Nat → Value → Prop} {St : Nat → Heap → Prop}
end
section
variable {prog : Program} {w : World} {A : Around} {E : Value → Shared → Prop} {s : Shared}
end
section
variable {X : Cx}
end
end L2
set_option Elab.async false
set_option linter.all false
set_option maxRecDepth 100000
set_option maxHeartbeats 0
namespace L2
open PySem PySem.Spec PyProof.Rows
section
variable {prog : Program} {w : World} {A : Around} {E : Value → Shared → Prop} {s : Shared}
end
section
variable {prog : Program} {w : World} {A : Around} {R : Result → Shared → Prop} {I : Addr} {fp wr : List Addr} {n : Nat} {P : Nat → Value → Prop} {St : Nat → Heap → Prop}
end
section
variable {prog : Program} {w : World} {A : Around} {E : Value → Shared → Prop} {s : Shared}
end
section
variable {X : Cx}
end
end L2
set_option Elab.async false
set_option linter.all false
set_option maxRecDepth 100000
set_option maxHeartbeats 0
namespace L2
open PySem PySem.Spec PyProof.Rows
section
variable {X : Cx}
end
end L2
set_option Elab.async false
set_option linter.all false
set_option maxRecDepth 100000
set_option maxHeartbeats 0
namespace L2
open PySem
def g5 : Nat → Nat
  | 0 => 0
  | n + 1 => 5 * g5 n + 1
theorem pow_g5 : ∀ n : Nat, 5 ^ n = 4 * g5 n + 1
  | 0 => rfl
  | n + 1 => by
    rw [Nat.pow_succ, pow_g5 n, g5]
    omega
theorem g5_add (m : Nat) : ∀ n : Nat, g5 (m + n) = 5 ^ n * g5 m + g5 n
  | 0 => by simp [g5]
  | n + 1 => by
    rw [← Nat.add_assoc, g5, g5_add m n, g5, Nat.pow_succ, Nat.mul_add, ← Nat.mul_assoc, Nat.mul_comm 5 (5 ^ n)]
    omega
theorem g5_dbl (n : Nat) : g5 (n + n) = 2 * (g5 n * (2 * g5 n + 1)) := by
  rw [g5_add, pow_g5, Nat.add_mul, Nat.mul_add (g5 n), Nat.mul_add 2]
  have e1 : 4 * g5 n * g5 n = 2 * (g5 n * (2 * g5 n)) := by
    rw [Nat.mul_left_comm (g5 n) 2, ← Nat.mul_assoc 2 2, Nat.mul_assoc 4]
  rw [e1]
  omega
theorem odd_cop (k m : Nat) (h : m % 2 = 1) : Nat.Coprime (2 ^ k) m := by
  refine Nat.Coprime.pow_left k ?_
  have : Nat.gcd 2 m = 1 := by
    rw [Nat.gcd_rec, h]
    rfl
  exact this
theorem g5_dvd : ∀ (k n : Nat), 2 ^ k ∣ g5 n → 2 ^ k ∣ n
  | 0, n, _ => by simp
  | k + 1, n, h => by
    rcases Nat.mod_two_eq_zero_or_one n with e | e
    · obtain ⟨m, rfl⟩ : ∃ m, n = m + m := ⟨n / 2, by omega⟩
      rw [g5_dbl, Nat.pow_succ, Nat.mul_comm (2 ^ k)] at h
      have h2 : 2 ^ k ∣ g5 m * (2 * g5 m + 1) := Nat.dvd_of_mul_dvd_mul_left (by decide) h
      have h3 : 2 ^ k ∣ g5 m := (odd_cop k (2 * g5 m + 1) (by omega)).dvd_of_dvd_mul_right h2
      obtain ⟨c, hc⟩ := g5_dvd k m h3
      exact ⟨c, by rw [Nat.pow_succ, Nat.mul_comm (2 ^ k) 2, Nat.mul_assoc, ← hc]; omega⟩
    · obtain ⟨m, rfl⟩ : ∃ m, n = m + m + 1 := ⟨n / 2, by omega⟩
      exfalso
      rw [g5, g5_dbl] at h
      have h2 : 2 ∣ 5 * (2 * (g5 m * (2 * g5 m + 1))) + 1 := Nat.dvd_trans ⟨2 ^ k, by rw [Nat.pow_succ, Nat.mul_comm]⟩ h
      omega
def it5 (i n : Nat) : Nat := 5 ^ n * i + g5 n
theorem it5_succ (i n : Nat) : it5 i (n + 1) = 5 * it5 i n + 1 := by
  unfold it5
  rw [Nat.pow_succ, g5, Nat.mul_add, ← Nat.mul_assoc, Nat.mul_comm 5 (5 ^ n)]
  omega
theorem it5_inj {k i n d : Nat} (hd : 0 < d) (hlt : d < 2 ^ k) (h : it5 i n % 2 ^ k = it5 i (n + d) % 2 ^ k) : False := by
  have e : it5 i (n + d) = it5 i n + 5 ^ n * (g5 d * (4 * i + 1)) := by
    unfold it5
    rw [Nat.add_comm n d, g5_add d n, Nat.pow_add, pow_g5 d, Nat.mul_add (g5 d), Nat.mul_one, Nat.mul_add (5 ^ n)]
    have : (4 * g5 d + 1) * 5 ^ n * i = 5 ^ n * i + 5 ^ n * (g5 d * (4 * i)) := by
      rw [Nat.add_mul, Nat.one_mul, Nat.add_mul, Nat.add_comm]
      congr 1
      rw [Nat.mul_comm 4, Nat.mul_assoc, Nat.mul_assoc, Nat.mul_left_comm (5 ^ n), Nat.mul_left_comm 4 (5 ^ n)]
    rw [this]
    omega
  have h2 : 2 ^ k ∣ 5 ^ n * (g5 d * (4 * i + 1)) := by
    rw [e] at h
    have := (Nat.dvd_iff_mod_eq_zero ..).mpr (Nat.sub_mod_eq_zero_of_mod_eq h.symm)
    rwa [Nat.add_sub_cancel_left] at this
  have h3 : 2 ^ k ∣ g5 d * (4 * i + 1) := (odd_cop k (5 ^ n) (by rw [pow_g5]; omega)).dvd_of_dvd_mul_left h2
  have h4 : 2 ^ k ∣ g5 d := (odd_cop k (4 * i + 1) (by omega)).dvd_of_dvd_mul_right h3
  have h5 := Nat.le_of_dvd hd (g5_dvd k d h4)
  omega
theorem it5_all {k i j : Nat} (hj : j < 2 ^ k) : ∃ n, n < 2 ^ k ∧ it5 i n % 2 ^ k = j := by
  apply Classical.byContradiction
  intro no
  have nd : ((List.range (2 ^ k)).map fun n => it5 i n % 2 ^ k).Nodup := by
    rw [List.nodup_iff_pairwise_ne, List.pairwise_map]
    refine List.pairwise_lt_range.imp_of_mem fun {a b} ha hb hab e => ?_
    have hb' := List.mem_range.mp hb
    refine it5_inj (k := k) (i := i) (n := a) (d := b - a) (by omega) (by omega) ?_
    rw [show a + (b - a) = b by omega]
    exact e
  have sub : ((List.range (2 ^ k)).map fun n => it5 i n % 2 ^ k) ⊆ (List.range (2 ^ k)).filter fun x => decide (x ≠ j) := fun x hx => by
    obtain ⟨n, hn, e⟩ := List.mem_map.mp hx
    refine List.mem_filter.mpr ⟨List.mem_range.mpr (by rw [← e]; exact Nat.mod_lt _ (Nat.two_pow_pos k)), decide_eq_true fun z => no ⟨n, List.mem_range.mp hn, e.trans z⟩⟩
  have l1 := List.Nodup.length_le_of_subset nd sub
  have l2 : ((List.range (2 ^ k)).filter fun x => decide (x ≠ j)).length < (List.range (2 ^ k)).length := by
    refine List.length_filter_lt_length_iff_exists.mpr ⟨j, List.mem_range.mpr hj, by simp⟩
  rw [List.length_map] at l1
  omega
end L2
set_option Elab.async false
set_option linter.all false
set_option maxRecDepth 100000
set_option maxHeartbeats 0
namespace L2
open PySem PySem.Spec PyProof.Rows
structure TabG (byText : Bool) (t : SetTable) (n : Nat) : Prop where
  pow : ∃ k, 3 ≤ k ∧ t.mask + 1 = 2 ^ k
  dum : t.dummies = #[]
  plain : t.plain = true
  led : t.led = !byText
  size : t.place.size = n
  up : t.place.toList.Pairwise (· < ·)
  le : ∀ j ∈ t.place.toList, j ≤ t.mask
def pStart (mask i pt : Nat) : SetTable.Probe := { j := i, more := SetTable.runEnd mask i - i, i := i, perturb := pt, dummy := none }
theorem runEnd_le {mask i : Nat} (h : i ≤ mask) : SetTable.runEnd mask i ≤ mask ∧ i ≤ SetTable.runEnd mask i ∧ SetTable.runEnd mask i ≤ i + 9 := by
  unfold SetTable.runEnd
  split <;> omega
section
variable {byText : Bool} {t : SetTable} {n : Nat}
theorem TabG.slot (T : TabG byText t n) (j : Nat) : (t.slot j = .empty ∧ j ∉ t.place.toList) ∨ (∃ i, t.slot j = .live i ∧ j ∈ t.place.toList) := by
  have hd : SetTable.has t.dummies j = false := by rw [T.dum]; rfl
  obtain ⟨b1, b2, b3⟩ := below_spec (j := j) T.up
  unfold SetTable.slot
  dsimp only
  by_cases hc : t.place[SetTable.below t.place j]? = some j
  · rw [if_pos (by rw [hc]; simp)]
    exact .inr ⟨_, rfl, by rw [← Array.mem_def]; exact Array.mem_of_getElem? hc⟩
  · rw [if_neg (by simpa using hc), hd, if_neg (by simp)]
    refine .inl ⟨rfl, fun hm => hc ?_⟩
    obtain ⟨i, hi, he⟩ := List.mem_iff_getElem.mp hm
    have hi' : i < t.place.size := by simpa using hi
    have he' : t.place.getD i j = j := by
      rw [Array.getD_eq_getD_getElem?, Array.getElem?_eq_getElem hi']
      simpa using he
    have h1 : ¬ i < SetTable.below t.place j := fun z => by have := b2 i z; omega
    have h2 : SetTable.below t.place j = i := by
      apply Nat.le_antisymm (Nat.le_of_not_lt h1)
      apply Nat.le_of_not_lt
      intro z
      have := b3 (SetTable.below t.place j) (Nat.le_refl _) (by omega)
      have := up_of j T.up _ _ z hi'
      omega
    rw [h2, Array.getElem?_eq_getElem hi']
    simpa using he
theorem TabG.run (T : TabG byText t n) (h : Int) (i pt : Nat) : ∀ (more j f : Nat), (∃ j', SetTable.probe.go t (fun _ => h + 1) h (more + 1 + f) { j := j, more := more, i := i, perturb := pt, dummy := none } = some (.empty j' none) ∧ j' ∉ t.place.toList ∧ j' ≤ j + more) ∨
    (SetTable.probe.go t (fun _ => h + 1) h (more + 1 + f) { j := j, more := more, i := i, perturb := pt, dummy := none } = SetTable.probe.go t (fun _ => h + 1) h f (pStart t.mask ((i * 5 + 1 + pt / 32) % (t.mask + 1)) (pt / 32)) ∧ j ∈ t.place.toList) := by
  intro more
  induction more with
  | zero =>
    intro j f
    rw [Nat.zero_add, Nat.add_comm 1 f]
    rcases T.slot j with ⟨e, m⟩ | ⟨k, e, m⟩
    · left
      refine ⟨j, ?_, m, Nat.le_refl _⟩
      unfold SetTable.probe.go
      dsimp only
      rw [e]
    · right
      refine ⟨?_, m⟩
      rw [SetTable.probe.go]
      dsimp only
      rw [e]
      dsimp only
      rw [if_neg (by simp; omega)]
      rfl
  | succ more ih =>
    intro j f
    rw [show more + 1 + 1 + f = more + 1 + f + 1 by omega]
    rcases T.slot j with ⟨e, m⟩ | ⟨k, e, m⟩
    · left
      refine ⟨j, ?_, m, Nat.le_add_right _ _⟩
      unfold SetTable.probe.go
      dsimp only
      rw [e]
    · have st : SetTable.probe.go t (fun _ => h + 1) h (more + 1 + f + 1) { j := j, more := more + 1, i := i, perturb := pt, dummy := none } = SetTable.probe.go t (fun _ => h + 1) h (more + 1 + f) { j := j + 1, more := more, i := i, perturb := pt, dummy := none } := by
        rw [SetTable.probe.go]
        dsimp only
        rw [e]
        dsimp only
        rw [if_neg (by simp; omega)]
        unfold SetTable.advance
        dsimp only
        rw [if_pos (by omega)]
        rfl
      rw [st]
      rcases ih (j + 1) f with ⟨j', e1, e2, e3⟩ | ⟨e1, _⟩
      · exact .inl ⟨j', e1, e2, by omega⟩
      · exact .inr ⟨e1, m⟩
theorem TabG.leap (T : TabG byText t n) (h : Int) (i pt F : Nat) (hi : i ≤ t.mask) (hF : 10 ≤ F) : (∃ j', SetTable.probe.go t (fun _ => h + 1) h F (pStart t.mask i pt) = some (.empty j' none) ∧ j' ∉ t.place.toList ∧ j' ≤ t.mask) ∨
    (∃ F', F ≤ F' + 10 ∧ SetTable.probe.go t (fun _ => h + 1) h F (pStart t.mask i pt) = SetTable.probe.go t (fun _ => h + 1) h F' (pStart t.mask ((i * 5 + 1 + pt / 32) % (t.mask + 1)) (pt / 32)) ∧ i ∈ t.place.toList) := by
  obtain ⟨r1, r2, r3⟩ := runEnd_le hi
  have e : F = (SetTable.runEnd t.mask i - i) + 1 + (F - 1 - (SetTable.runEnd t.mask i - i)) := by omega
  rcases T.run h i pt (SetTable.runEnd t.mask i - i) i (F - 1 - (SetTable.runEnd t.mask i - i)) with ⟨j', e1, e2, e3⟩ | ⟨e1, e2⟩
  · refine .inl ⟨j', ?_, e2, by omega⟩
    rw [e]
    exact e1
  · refine .inr ⟨F - 1 - (SetTable.runEnd t.mask i - i), by omega, ?_, e2⟩
    conv => lhs; rw [e]
    exact e1
theorem TabG.go0 (T : TabG byText t n) (h : Int) : ∀ (m q i F : Nat), i ≤ t.mask → 10 * m ≤ F → (∃ j', SetTable.probe.go t (fun _ => h + 1) h F (pStart t.mask (it5 i q % (t.mask + 1)) 0) = some (.empty j' none) ∧ j' ∉ t.place.toList ∧ j' ≤ t.mask) ∨ (∀ c, c < m → it5 i (q + c) % (t.mask + 1) ∈ t.place.toList)
  | 0, q, i, F, hi, hF => .inr fun c hc => absurd hc (by omega)
  | m + 1, q, i, F, hi, hF => by
    have lt : it5 i q % (t.mask + 1) < t.mask + 1 := Nat.mod_lt _ (by omega)
    rcases T.leap h (it5 i q % (t.mask + 1)) 0 F (by omega) (by omega) with ok | ⟨F', hF', e, z⟩
    · exact .inl ok
    · have e2 : ((it5 i q % (t.mask + 1)) * 5 + 1 + 0 / 32) % (t.mask + 1) = it5 i (q + 1) % (t.mask + 1) := by
        rw [it5_succ, Nat.zero_div, Nat.add_zero, Nat.mul_comm, Nat.add_mod, Nat.mul_mod, Nat.mod_mod, ← Nat.mul_mod, ← Nat.add_mod]
      rw [e2, Nat.zero_div] at e
      rw [e]
      rcases T.go0 h m (q + 1) i F' hi (by omega) with ok | all
      · exact .inl ok
      · refine .inr fun c hc => ?_
        cases c with
        | zero => exact z
        | succ c =>
          have := all c (by omega)
          rw [show q + (c + 1) = q + 1 + c by omega]
          exact this
theorem TabG.goK (T : TabG byText t n) (hn : n ≤ t.mask) (h : Int) : ∀ (k i pt F : Nat), i ≤ t.mask → pt < 32 ^ k → 10 * (k + (t.mask + 1)) ≤ F → ∃ j', SetTable.probe.go t (fun _ => h + 1) h F (pStart t.mask i pt) = some (.empty j' none) ∧ j' ∉ t.place.toList ∧ j' ≤ t.mask
  | 0, i, pt, F, hi, hp, hF => by
    have e : pt = 0 := by omega
    subst e
    have e0 : it5 i 0 % (t.mask + 1) = i := by
      unfold it5 g5
      rw [Nat.pow_zero, Nat.one_mul, Nat.add_zero, Nat.mod_eq_of_lt (by omega)]
    have q := T.go0 h (t.mask + 1) 0 i F hi (by omega)
    rw [e0] at q
    rcases q with ok | all
    · exact ok
    · exfalso
      obtain ⟨k, _, hk⟩ := T.pow
      have sub : List.range (t.mask + 1) ⊆ t.place.toList := fun j hj => by
        have hj' := List.mem_range.mp hj
        rw [hk] at hj'
        obtain ⟨m, hm, e⟩ := it5_all (i := i) hj'
        rw [← hk] at hm e
        have := all m hm
        rw [Nat.zero_add, e] at this
        exact this
      have := List.Nodup.length_le_of_subset List.nodup_range sub
      have hs := T.size
      simp at this
      omega
  | k + 1, i, pt, F, hi, hp, hF => by
    rcases T.leap h i pt F hi (by omega) with ok | ⟨F', hF', e, z⟩
    · exact ok
    · rw [e]
      have lt : (i * 5 + 1 + pt / 32) % (t.mask + 1) < t.mask + 1 := Nat.mod_lt _ (by omega)
      refine T.goK hn h k _ _ F' (by omega) ?_ (by omega)
      rw [Nat.pow_succ] at hp
      omega
theorem bits_lt (h : Int) : SetTable.bits h < 32 ^ 13 := by
  unfold SetTable.bits
  have h1 : 0 ≤ h % (2 ^ 64 : Int) := Int.emod_nonneg _ (by decide)
  have h2 : h % (2 ^ 64 : Int) < 2 ^ 64 := Int.emod_lt_of_pos _ (by decide)
  have : ((2 : Int) ^ 64) = 18446744073709551616 := by decide
  rw [this] at h1 h2 ⊢
  have h3 : (32 : Nat) ^ 13 = 36893488147419103232 := by decide
  omega
theorem TabG.free (T : TabG byText t n) (hn : n ≤ t.mask) (h : Int) : ∃ j, t.freeSlot h = some (j, false) ∧ j ∉ t.place.toList ∧ j ≤ t.mask := by
  have lt : SetTable.bits h % (t.mask + 1) < t.mask + 1 := Nat.mod_lt _ (by omega)
  obtain ⟨j, e, z, l⟩ := T.goK hn h 13 (SetTable.bits h % (t.mask + 1)) (SetTable.bits h) (10 * SetTable.turns t.mask) (by omega) (bits_lt h) (by unfold SetTable.turns; omega)
  refine ⟨j, ?_, z, l⟩
  unfold SetTable.freeSlot SetTable.probe
  have hst : t.probeStart h = pStart t.mask (SetTable.bits h % (t.mask + 1)) (SetTable.bits h) := rfl
  rw [hst, e]
  rfl
end
end L2
set_option Elab.async false
set_option linter.all false
set_option maxRecDepth 100000
set_option maxHeartbeats 0
namespace L2
open PySem PySem.Spec PyProof.Rows
section
variable {mask : Nat} {owner : Array (Option Nat)}
end
structure Own (N : Nat) (L : List Nat) (owner : Array (Option Nat)) : Prop where
  size : owner.size = N
  nd : L.Nodup
  lt : ∀ j ∈ L, j < N
  at_ : ∀ (m j : Nat), L[m]? = some j → owner[j]? = some (some m)
  no : ∀ j, j < N → j ∉ L → owner[j]? = some none
end L2
set_option Elab.async false
set_option linter.all false
set_option maxRecDepth 100000
set_option maxHeartbeats 0
namespace L2
open PySem PySem.Spec PyProof.Rows
def SetG (w : World) (a : Addr) (zs : List Int) (h : Heap) : Prop :=
  ∃ (es : Array (Int × Value)) (ep : Nat) (t : SetTable) (ks : List Int), h.get? a = some { cls := .type "set", data := .set es ep t } ∧ TabG (byT w) t es.size ∧ Ents ks es.toList ∧ ks.Perm zs ∧ zs.Nodup ∧ zs.length < 4095 ∧ es.size * 5 < t.mask * 3
theorem SetG.at {w : World} {a : Addr} {zs : List Int} {h h' : Heap} (x : SetG w a zs h) (k : ∀ o, h.get? a = some o → h'.get? a = some o) : SetG w a zs h' :=
  let ⟨es, ep, t, ks, h1, r⟩ := x; ⟨es, ep, t, ks, k _ h1, r⟩
section
variable {prog : Program} {w : World} {A : Around} {E : Value → Shared → Prop} {s : Shared}
end
section
variable {prog : Program} {w : World} {A : Around} {R : Result → Shared → Prop} {I : Addr} {fp wr : List Addr} {G : Array GenState → Array GenState → Prop} {n : Nat} {P : Nat → Value → Prop} {St : Nat → Shared → Prop}
end
section
variable {prog : Program} {w : World} {A : Around} {E : Value → Shared → Prop} {s : Shared}
end
section
variable {prog : Program} {w : World} {A : Around} {E : Value → Shared → Prop} {s : Shared} {a I : Addr} {es : Array (Int × Value)} {ep : Nat} {t : SetTable} {i : Nat}
end
section
variable {X : Cx}
end
end L2
set_option Elab.async false
set_option linter.all false
set_option maxRecDepth 100000
set_option maxHeartbeats 0
namespace L2
open PySem PySem.Spec PyProof.Rows
section
variable {X : Cx}
end
section
variable {prog : Program} {w : World} {A : Around} {E : Value → Shared → Prop} {s : Shared}
end
section
variable {X : Cx}
end
end L2
set_option Elab.async false
set_option linter.all false
set_option maxRecDepth 100000
set_option maxHeartbeats 0
namespace L2
open PySem PySem.Spec PyProof.Rows
structure Ex (B : Heap) (l : List Env) (e : Addr) (cls : Value) (dd : Option Addr) (nt : Bool) (h : Heap) : Prop where
  stays : B.StaysIn h
  new : B.get? e = none
  frames : h.FunFrames B l
  rec_ : ∃ (oe : Obj) (vs : Array Value) (x1 : Value), h.get? e = some oe ∧ oe.cls = cls ∧ oe.dict = dd ∧ oe.data = .fields vs ∧ vs[1]? = some x1 ∧
    ((x1 = .none ∧ nt = false) ∨ ∃ (T : Addr) (oT : Obj) (ts : Array Value) (x3 : Value), x1 = .ref T ∧ B.get? T = none ∧ T ≠ e ∧ h.get? T = some oT ∧ oT.data = .fields ts ∧ ts[3]? = some x3)
theorem Ex.any {B : Heap} {l : List Env} {e : Addr} {cls : Value} {dd : Option Addr} {nt : Bool} {h : Heap} (x : Ex B l e cls dd nt h) : Ex B l e cls dd false h := by
  refine ⟨x.stays, x.new, x.frames, ?_⟩
  obtain ⟨oe, vs, x1, a, b, c, d, f, g | g⟩ := x.rec_
  · exact ⟨oe, vs, x1, a, b, c, d, f, .inl ⟨g.1, rfl⟩⟩
  · exact ⟨oe, vs, x1, a, b, c, d, f, .inr g⟩
section
variable {M : Model} {A : Around} {E : Value → Shared → Prop} {s : Shared} {B : Heap} {env : Env} {outer l : List Env} {L e : Addr} {cls : Value} {dd : Option Addr} {nt : Bool} {Q : Unit → Shared → Prop}
end
end L2
set_option Elab.async false
set_option linter.all false
set_option maxRecDepth 100000
set_option maxHeartbeats 0
namespace L2
open PySem PySem.Spec PyProof.Rows
theorem ObjOk.has {P : Program} {w : World} {H : Hp} {h : Heap} {a : Addr} {o : HO} (x : ObjOk P w H h a o) : ∃ u, h.get? a = some u := by
  cases o with
  | lst xs => obtain ⟨_, _, _, _, e⟩ := x; exact ⟨_, e⟩
  | tup xs => obtain ⟨_, _, _, ob, e, _⟩ := x; exact ⟨_, e⟩
  | dK kvs => obtain ⟨_, _, _, _, o, _, _, e, _⟩ := x; exact ⟨_, e⟩
  | dT kvs => obtain ⟨_, _, _, _, o, _, _, e, _⟩ := x; exact ⟨_, e⟩
  | set S n => obtain ⟨o, _, _, _, e, _⟩ := x; exact ⟨_, e⟩
  | ins C dx fs => obtain ⟨_, _, _, e, _⟩ := x; exact ⟨_, e⟩
  | own y => obtain ⟨_, e⟩ := x; exact ⟨_, e⟩
  | xd fs => obtain ⟨_, ⟨_, _, _, e, _⟩, _⟩ := x; exact ⟨_, e⟩
  | rng lo hi => obtain ⟨_, _, _, e⟩ := x; exact ⟨_, e⟩
  | frz ob u => exact ⟨_, x.1⟩
  | tbl ps => exact ⟨_, show h.get? a = some { cls := .none, data := .fields ps } from x⟩
  | met f y => exact ⟨_, show h.get? a = some (PySem.W.methodObj (.ref f) (.ref y)) from x⟩
  | ext φ => exact x.2.1
def Kp (outer : List Env) (H' : Hp) (h0 : Heap) (b : Addr) : Prop := (∃ o, H' b = some o) ∨ ((∃ o, h0.get? b = some o) ∧ b ∉ frs outer)
structure XD (P : Program) (w : World) (outer l : List Env) (H : Hp) (h0 : Heap) (e : Addr) (cls : Value) (dd : Option Addr) (H' : Hp) (B : Heap) (nt : Bool) (h : Heap) : Prop where
  un : Un (frs outer) [] H H' h0 h
  hok : HOk P w H' h
  ex : Ex B l e cls dd nt h
  kp : ∀ b o, h.get? b = some o → Kp outer H' h0 b → B.get? b = some o
  ne : H' e = none
  ge : h0.objs.size ≤ e
def CX1 (P : Program) (w : World) : CXT := fun outer H s E ev s' => ∃ (e : Addr) (cls : Value) (dd : Option Addr) (H' : Hp) (B : Heap) (nt : Bool), ev = .ref e ∧ s'.os = s.os ∧ AllBare s'.gens ∧ XD P w outer outer H s.heap e cls dd H' B nt s'.heap ∧ E cls dd H'
def XP (X : Cx) (G : XK) (ev : Value) (s' : Shared) : Prop := X.A.frames = some X.stack ∧ ∃ (e : Addr) (cls : Value) (dd : Option Addr) (H' : Hp) (B : Heap) (nt : Bool), ev = .ref e ∧ s'.os = X.s₀.os ∧ AllBare s'.gens ∧ XD X.prog X.w X.outer X.stack X.H₀ X.s₀.heap e cls dd H' B nt s'.heap ∧ G cls dd H'
section
variable {X : Cx} {E : XK} {G : XK} {pins : List (Addr × Obj)} {σ : St} {H : Hp} {s s' : Shared}
end
section
variable {P : Program} {w : World} {K : PySem.W.Frag} {mg : Str → Option Value} {base : Heap}
abbrev cxX (P : Program) (w : World) (K : PySem.W.Frag) (mg : Str → Option Value) (base : Heap) (N : List Str) (qual : Str) (scope : Scope) (f : Addr) (cd : Value) (A : Around) (outer : List Env) (s : Shared) (H : Hp) (E : XK) : Cx :=
  (cxOf (CX1 P w) P w K mg base N qual scope f cd A outer s H E).wish (XP (cxOf (CX1 P w) P w K mg base N qual scope f cd A outer s H E) E)
end
end L2
set_option Elab.async false
set_option linter.all false
set_option maxRecDepth 100000
set_option maxHeartbeats 0
namespace L2
open PySem PySem.Spec PyProof.Rows
abbrev Cx.held (X : Cx) (ev : Value) : Cx := { X with A := X.A.mark (some ev), calm := false }
section
variable {X : Cx} {pins : List (Addr × Obj)} {σ : St} {H : Hp} {s : Shared} {ev : Value}
end
section
variable {X : Cx}
end
end L2
set_option Elab.async false
set_option linter.all false
set_option maxRecDepth 100000
set_option maxHeartbeats 0
namespace L2
open PySem PySem.Spec PyProof.Rows
def bmV : List Value := [.type "ValueError", .type "Exception", .type "BaseException", .type "object"]
def xcIn (K : PySem.W.Frag) (C : Addr) (init : Option Value) : Bool := match K.lookup C with
  | some ⟨.type "type", _, .cls cd, sl⟩ => (match cd.mro, sl.toList with
    | .ref C' :: bm, [_, _, _, _, some (.builtin n), _] => C' == C && n == "ValueError.__new__" && !cd.hasDel && cd.hasDict && PySem.W.tailIn K bmV bm && PySem.W.nsOkIn K cd.ns && PySem.W.nsIn K cd.ns "__init__" == some init
    | _, _ => false)
  | _ => false
structure XCls (K : PySem.W.Frag) (C : Addr) (init : Option Value) : Prop where
  cls : xcIn K C init = true
  set : PySem.W.findIn K (.ref C) "__setattr__" = some (some (.builtin "object.__setattr__"))
  kp : PySem.W.keepIn K (.ref C) = true
section
variable {prog : Program} {w : World} {A : Around} {E : Value → Shared → Prop} {h : Heap} {g : Array GenState} {d : Drawn} {t : Nat} {os : OsState} {K : PySem.W.Frag} {C x : Addr} {init : Option Value} {mA : Str → Option Value} {name : Str} {v : Value} {ns : List Str}
end
end L2
set_option Elab.async false
set_option linter.all false
set_option maxRecDepth 100000
set_option maxHeartbeats 0
namespace L2
open PySem PySem.Spec PyProof.Rows
abbrev excObj (C t : Addr) (dd : Option Addr) : Obj := { cls := .ref C, dict := dd, data := .fields #[.ref t, .none, .none, .none, .bool false, .none] }
abbrev argObj (rest : List Value) : Obj := { cls := .type "tuple", data := .seq rest.toArray }
section
variable {prog : Program} {w : World} {A : Around} {R : Result → Shared → Prop} {h : Heap} {g : Array GenState} {d : Drawn} {t : Nat} {os : OsState} {K : PySem.W.Frag} {C fI : Addr} {rest : List Value}
end
section
variable {M : Model} {A : Around} {E : Value → Shared → Prop} {env : Env} {K : PySem.W.Frag} {C : Addr} {init : Option Value}
end
section
variable {X : Cx} {pins : List (Addr × Obj)} {σ : St} {H : Hp} {s : Shared}
end
section
variable {X : Cx}
end
end L2
set_option Elab.async false
set_option linter.all false
set_option maxRecDepth 100000
set_option maxHeartbeats 0
namespace L2
open PySem PySem.Spec PyProof.Rows
structure XGet (K : PySem.W.Frag) (C : Addr) : Prop where
  ga : PySem.W.findIn K (.ref C) "__getattribute__" = some (some (.builtin "BaseException.__getattribute__"))
  gt : PySem.W.findIn K (.ref C) "__getattr__" = some none
  be : PySem.W.mroIn K C (.type "BaseException") = some true
  hd : PySem.W.hasDictIn K C = true
section
variable {prog : Program} {w : World} {A : Around} {E : Value → Shared → Prop} {s : Shared} {K : PySem.W.Frag} {x C : Addr} {ox : Obj} {od : Option Obj} {name : Str} {tk : Tok}
end
structure XTy (K : PySem.W.Frag) (C : Addr) : Prop extends XGet K C where
  ca : PySem.W.findIn K (.ref C) "__class__" = some (some (.builtin "object.__class__"))
  cn : PySem.W.specialIn K (.builtin "object.__class__") "__get__" = some (some (.builtin "getset_descriptor.__get__"))
  ct : PySem.W.takesIn K (.builtin "object.__class__") = some true
  cm : PySem.W.mroIn K C (.type "object") = some true
section
variable {K : PySem.W.Frag}
end
section
variable {X : Cx}
theorem refs_of : ∀ {cs : List Addr} {its : List Value}, Vals (cs.map V.ref) its → its = cs.map Value.ref
  | [], _, .nil => rfl
  | a :: l, _, .cons r t => by
    cases (show _ = Value.ref a from r)
    rw [refs_of t]
    rfl
end
end L2
set_option Elab.async false
set_option linter.all false
set_option maxRecDepth 100000
set_option maxHeartbeats 0
namespace L2
open PySem PySem.Spec PyProof.Rows
structure RoomH (k : Nat) (A : Around) : Prop where
  dp : A.depth + 3 * k + 5 < recursionLimit
  un : A.units + 16 * k + 200 < cLine
structure FnOkH (P : Program) (w : World) (K : PySem.W.Frag) (mg : Str → Option Value) (base : Heap) (CX : CXT) (k : Nat) (f : Addr) (fd : FuncData) (ps : List Str) (sp : Sp) : Prop where
  len : ∀ vs H Q E, sp vs H Q E → vs.length = ps.length
  run : ∀ (A : Around) (outer : List Env) (s : Shared) (H : Hp) (args : Args) (us : List Value) (vs : List V) (Q : VK) (E : XK), RoomH k A → Env0 P w K mg base A outer s H → BindsTo s fd args (ps.zip us) → Vals vs us → sp vs H Q E →
    codeAny (model P w) A (.call (.ref f) args) (CR CX outer P w H s Q E) s
abbrev cxH (CX : CXT) (P : Program) (w : World) (K : PySem.W.Frag) (mg : Str → Option Value) (base : Heap) (N : List Str) (qual : Str) (scope : Scope) (f : Addr) (cd : Value) (A : Around) (outer : List Env) (s : Shared) (H : Hp) (E : XK) : Cx :=
  { cxOf CX P w K mg base N qual scope f cd A outer s H E with calm := false }
section
variable {P : Program} {w : World} {K : PySem.W.Frag} {mg : Str → Option Value} {base : Heap}
end
section
variable {X : Cx} {CX : CXT} {k : Nat} {f C : Addr} {fd : FuncData} {ps : List Str} {sp : Sp} {dvs : List V} {ds : List Value} {E : XK} {x m : Str} {p pos apos : Pos} {e o : Expr} {es : List Expr} {ta : TE} {t : TA}
end
end L2
set_option Elab.async false
set_option linter.all false
set_option maxRecDepth 100000
set_option maxHeartbeats 0
namespace L2
open PySem PySem.Spec PyProof.Rows
section
variable {X : Cx}
theorem refs_eq {A : Around} {s : Shared} {rs : List Addr} {us vs : List Value} (h1 : Vals (rs.map V.ref) us) (h2 : Vals (rs.map V.ref) vs) : ∀ j (j1 : j < us.toArray.size) (j2 : j < vs.toArray.size), SeqAt.EqAt A s us.toArray[j] vs.toArray[j] true := by
  have e1 := refs_of h1
  have e2 := refs_of h2
  subst e1
  subst e2
  intro j j1 j2
  exact SeqAt.EqAt.same _
theorem op_ne_refsL (hu : X.A.units < cLine) : OpR X (compareOp .NotEq) (fun x y H Q => ∃ (p l : Addr) (rs : List Addr), x = .ref p ∧ y = .ref l ∧ SqL X.K H p (rs.map V.ref) ∧ SqL X.K H l (rs.map V.ref) ∧ Q (.bl false) H) := by
  intro pins s σ H x y v u Q I rx ry h
  obtain ⟨p, l, zs, rfl, rfl, h1, h2, q⟩ := h
  cases rx
  cases ry
  obtain ⟨us, r1, p1, z1⟩ := I.list h1
  obtain ⟨vs, r2, p2, z2⟩ := I.list h2
  refine PySem.SeqAt.RcNeAt.lists (e := fun _ => true) p1.isList p2.isList (by simp [← r1.length, ← r2.length]) hu (refs_eq r1 r2) _ _ _ _ ⟨.bl false, H, I, ?_, q⟩
  have : (List.range us.toArray.size).all (fun _ => true) = true := by simp
  rw [this]
  rfl
end
end L2
set_option Elab.async false
set_option linter.all false
set_option maxRecDepth 100000
namespace L2
open PySem PySem.Spec PyProof.Rows
section
variable {prog : Program} {w : World} {A : Around} {E : Value → Shared → Prop} {s : Shared}
theorem strs_at {items : List Value} {ys : List Str} (h : StrsAre items ys) : items.length = ys.length ∧ ∀ (i : Nat) (y : Str), ys[i]? = some y → ∃ tk, items[i]? = some (.str y tk) := by
  induction h with
  | nil => exact ⟨rfl, fun i y e => by simp at e⟩
  | cons n tk hm ih =>
    refine ⟨by rw [List.length_cons, List.length_cons, ih.1], fun i y e => ?_⟩
    cases i with
    | zero => cases e; exact ⟨_, rfl⟩
    | succ i => exact ih.2 i y e
theorem tuple_index_strs {t : Addr} {items : Array Value} {ys : List Str} {x : Str} {u : Tok} {j : Nat} {Q : Value → Shared → Prop} (ht : IsTup s.heap t items) (hi : StrsAre items.toList ys) (hj : ys[j]? = some x) (hn : ∀ i, i < j → ys[i]? ≠ some x)
    (h : Q (.int j s.toks) { s with toks := s.toks + 1 }) : wpAny (model prog w) A (Builtin.«tuple.index» ⟨[.ref t, .str x u], []⟩) (fun fin s' => ∃ v, fin = .done (.ret v) ∧ Q v s') E s := by
  obtain ⟨hl, hg⟩ := strs_at hi
  have hsz : items.size = ys.length := by simpa using hl
  have hjn : j < items.size := by rw [hsz]; exact (List.getElem?_eq_some_iff.mp hj).1
  show wpAny _ _ (Builtin.Tuple.tupleItemsOf (.ref t) >>= _) _ _ s
  refine wpAny_bind (tupleItemsOf_ ht ?_)
  refine wpAny_bind (wpAny_pure ?_)
  refine wpAny_bind (wpAny_pure ?_)
  refine wpAny_bind ?_
  rw [Std.Legacy.Range.forIn_eq_forIn_range']
  have en : (Std.Legacy.Range.size [0:min items.size items.size]) = items.size := by simp [Std.Legacy.Range.size]
  rw [en]
  refine wpAny_forIn_list _ (fun rest r s' => r.1 = none ∧ s' = s ∧ ∃ i, rest = List.range' i (items.size - i) 1 ∧ i ≤ j) _ ?_ ?_ _ _ ⟨rfl, rfl, 0, by simp, Nat.zero_le _⟩
  · rintro y rest r s' ⟨hr, rfl, i, e, hij⟩
    obtain ⟨m, hm⟩ : ∃ m, items.size - i = m + 1 := ⟨items.size - i - 1, by omega⟩
    rw [hm, List.range'_succ] at e
    injection e with e1 e2
    subst e1
    have hyi : y < ys.length := by omega
    obtain ⟨tk, htk⟩ := hg y _ (List.getElem?_eq_getElem hyi)
    have hit : items[y]? = some (.str ys[y] tk) := by simpa using htk
    dsimp only
    rw [hit]
    dsimp only
    refine wpAny_bind (eqBool_str ?_)
    by_cases hx : ys[y] = x
    · have ey : y = j := by
        by_cases hlt : y < j
        · exact absurd (by rw [List.getElem?_eq_getElem hyi, hx]) (hn y hlt)
        · omega
      subst ey
      rw [show (ys[y] == x) = true from by rw [hx]; exact beq_self_eq_true _]
      refine wpAny_bind (wpAny_bind (wpAny_mkInt (wpAny_pure ?_)))
      exact wpAny_pure (wpAny_pure ⟨_, rfl, h⟩)
    · rw [show (ys[y] == x) = false from by simpa using hx]
      refine wpAny_pure ⟨rfl, rfl, y + 1, by rw [e2]; congr 1; omega, ?_⟩
      rcases Nat.lt_or_ge y j with hlt | hge
      · exact hlt
      · have : y = j := by omega
        subst this
        rw [List.getElem?_eq_getElem hyi] at hj
        exact absurd (Option.some.inj hj) hx
  · rintro ⟨b1, b2⟩ s' ⟨hb, rfl, i, e, hij⟩
    have : (List.range' i (items.size - i) 1).length = 0 := by rw [← e]; rfl
    rw [List.length_range'] at this
    omega
end
end L2
namespace L2
open PySem PySem.Spec PyProof.Rows
section
variable {X : Cx}
theorem strsAre_of : ∀ {ys : List Str} {us : List Value}, Vals (ys.map V.str) us → StrsAre us ys
  | [], _, .nil => .nil
  | _ :: _, _, .cons ⟨t, e⟩ r => by subst e; exact .cons _ _ (strsAre_of r)
def rIndexT (K : PySem.W.Frag) : V → List V → Hp → VK → Prop := fun x vs H Q => ∃ (a : Addr) (ys : List Str) (y : Str) (j : Nat), x = .ref a ∧ vs = [.str y] ∧ SqT K H a (ys.map V.str) ∧ ys[j]? = some y ∧ (∀ i, i < j → ys[i]? ≠ some y) ∧ Q (.int j) H
theorem mt_indexT : MtM X "tuple.index" (rIndexT X.K) := by
  intro pins s σ H x vs v us Q I rx rv h
  obtain ⟨a, ys, y, j, rfl, rfl, hq, hj, hn, q⟩ := h
  cases rx
  obtain ⟨u, rfl, ru⟩ := rv.one
  obtain ⟨t, rfl⟩ := ru
  obtain ⟨its, r, ht, z⟩ := I.tuple hq
  refine wpAny_call_entry F.slot_tuple_index ht.typeIs F.entry_tuple_index (tuple_index_strs ht (strsAre_of (by simpa using r)) hj hn ?_) (F.args_tuple_index_2 _ _)
  exact ⟨.int j, H, I.tok _, ⟨_, rfl⟩, q⟩
theorem call_sum (hc : X.calm = true) : CallR X (.builtin "sum") (fun xs H Q => ∃ (p : Addr) (ns : List Int), xs = [.ref p] ∧ SqL X.K H p (ns.map V.int) ∧ Q (.int ns.sum) H) := by
  intro pins s σ H xs us Q I r h
  obtain ⟨p, ns, rfl, hq, q⟩ := h
  obtain ⟨u, rfl, rx⟩ := vals1 r
  cases rx
  obtain ⟨its, rv, pl, hz⟩ := I.list hq
  have hi := intsAre_of' rv
  obtain ⟨xs, hx⟩ := hi.allInts.items
  have hl' : s.heap.IsList p (intItems xs) := hx ▸ pl.isList
  refine sum_intListG (I.ok.hd hc) hl' fun h' tk t' hk => ?_
  have e1 : ns = xs.toList.map (·.1) := by
    rw [← nums_intItems, ← hx]
    exact (show numsOf its.toArray.toList = ns from hi.numsOf).symm
  have e2 : preSum (numAt xs) xs.size = ns.sum := by
    rw [preSum_eq, List.take_of_length_le (by simp), e1]
  rw [e2]
  exact ⟨.int ns.sum, H, I.kept fun b o e => hk b o e, ⟨_, rfl⟩, q⟩
end
end L2
set_option Elab.async false
set_option linter.all false
set_option maxRecDepth 100000
set_option maxHeartbeats 0
namespace L2
open PySem PySem.Spec PyProof.Rows
section
variable {X : Cx}
end
end L2
set_option Elab.async false
set_option linter.all false
set_option maxRecDepth 100000
namespace Fw
open PySem L2
theorem bt_len : bootBuiltins "len" = some (.builtin "len") := by decide +kernel
theorem bt_divmod : bootBuiltins "divmod" = some (.builtin "divmod") := by decide +kernel
theorem bt_all : bootBuiltins "all" = some (.builtin "all") := by decide +kernel
theorem bt_isinstance : bootBuiltins "isinstance" = some (.builtin "isinstance") := by decide +kernel
theorem bt_int : bootBuiltins "int" = some (.type "int") := by decide +kernel
theorem bt_bool : bootBuiltins "bool" = some (.type "bool") := by decide +kernel
theorem bt_str : bootBuiltins "str" = some (.type "str") := by decide +kernel
theorem bt_list : bootBuiltins "list" = some (.type "list") := by decide +kernel
theorem bt_tuple : bootBuiltins "tuple" = some (.type "tuple") := by decide +kernel
structure StAt (H : Hp) (d c : Addr) (t : Int) (ns : List Int) : Prop where
  dict : H d = some (.dK [(Sum.inr "cells", .ref c), (Sum.inr "turn", .int t)])
  list : H c = some (.lst (ns.map V.int))
  ne : 0 < ns.length
  len : ns.length ≤ 63
  pos : 0 ≤ t
def Keep (d c : Addr) (H H' : Hp) : Prop := ∀ b o, H b = some o → b ≠ d → b ≠ c → H' b = some o
theorem Keep.refl {d c : Addr} {H : Hp} : Keep d c H H := fun _ _ h _ _ => h
theorem Keep.trans {d c : Addr} {H H1 H2 : Hp} (a : Keep d c H H1) (b : Keep d c H1 H2) : Keep d c H H2 := fun x o h n m => b x o (a x o h n m) n m
theorem Keep.of_same {d c : Addr} {H H' : Hp} (h : Same H H') : Keep d c H H' := fun b o e _ _ => h b o e
theorem same_new {H : Hp} {p : Addr} (h : H p = none) (o : HO) : Same H (upd H p o) := fun b u q => by rw [upd_ne (ne_of_none q h)]; exact q
theorem keep_new {d c : Addr} {H : Hp} {p : Addr} (h : H p = none) (o : HO) : Keep d c H (upd H p o) := .of_same (same_new h o)
theorem StAt.ndc {H : Hp} {d c : Addr} {t : Int} {ns : List Int} (S : StAt H d c t ns) : d ≠ c := ne_of S.dict S.list (by intro z; cases z)
theorem StAt.same {H H' : Hp} {d c : Addr} {t : Int} {ns : List Int} (S : StAt H d c t ns) (h : Same H H') : StAt H' d c t ns := ⟨h _ _ S.dict, h _ _ S.list, S.ne, S.len, S.pos⟩
theorem StAt.new {H : Hp} {d c p : Addr} {t : Int} {ns : List Int} (S : StAt H d c t ns) (h : H p = none) (o : HO) : StAt (upd H p o) d c t ns := S.same (same_new h o)
theorem s_cs : ¬ (Str.ofString "cells" = Str.ofString "turn") := by decide +kernel
theorem s_ct : ¬ ((Sum.inr (Str.ofString "cells") : Key) = Sum.inr (Str.ofString "turn")) := fun h => s_cs (Sum.inr.inj h)
theorem dg_turn {H : Hp} {d c : Addr} {t : Int} {ns : List Int} (S : StAt H d c t ns) : DGet H d (.str "turn") (some (.int t)) := by
  have h := DGet.k (k := Sum.inr "turn") S.dict
  rw [valV_neg s_ct, valV_pos rfl] at h
  exact h
theorem dg_cells {H : Hp} {d c : Addr} {t : Int} {ns : List Int} (S : StAt H d c t ns) : DGet H d (.str "cells") (some (.ref c)) := by
  have h := DGet.k (k := Sum.inr "cells") S.dict
  rw [valV_pos rfl] at h
  exact h
theorem put_turn (c : Addr) (t u : Int) : putK [((Sum.inr "cells" : Key), V.ref c), (Sum.inr "turn", V.int t)] (Sum.inr "turn") (V.int u) = [((Sum.inr "cells" : Key), V.ref c), (Sum.inr "turn", V.int u)] := by
  unfold putK
  simp [s_cs]
theorem dp_turn {H : Hp} {d c : Addr} {t u : Int} {ns : List Int} (S : StAt H d c t ns) : DPut H d (.str "turn") (.int u) (upd H d (.dK [(Sum.inr "cells", .ref c), (Sum.inr "turn", .int u)])) := by
  have h := DPut.k (k := Sum.inr "turn") (v := .int u) S.dict (by rw [sizeLine_eq]; exact (by decide : 2 < 16777216))
  rw [put_turn] at h
  exact h
theorem StAt.turn {H : Hp} {d c : Addr} {t u : Int} {ns : List Int} (S : StAt H d c t ns) (h : 0 ≤ u) : StAt (upd H d (.dK [(Sum.inr "cells", .ref c), (Sum.inr "turn", .int u)])) d c u ns :=
  ⟨upd_same, by rw [upd_ne (Ne.symm S.ndc)]; exact S.list, S.ne, S.len, h⟩
theorem StAt.put {H : Hp} {d c : Addr} {t : Int} {ns ms : List Int} (S : StAt H d c t ns) (h : ms.length = ns.length) : StAt (upd H c (.lst (ms.map V.int))) d c t ms :=
  ⟨by rw [upd_ne S.ndc]; exact S.dict, upd_same, by rw [h]; exact S.ne, by rw [h]; exact S.len, S.pos⟩
abbrev TB : Int := 1000000000
def spTake : Sp := fun vs H Q _ => ∃ d c t ns m, vs = [.ref d, .int m] ∧ StAt H d c t ns ∧ t ≤ TB ∧ 1 ≤ m ∧ m ≤ 1000000 ∧ ∀ k ns' H', 0 ≤ k → k < m → StAt H' d c (t + 1) ns' → Keep d c H H' → Q (.int k) H'
def spBegin (K : PySem.W.Frag) : Sp := fun vs H Q _ => ∃ (a : Addr) (ns : List Int), vs = [.ref a] ∧ SqL K H a (ns.map V.int) ∧ ns.length ≤ 63 ∧ ∀ d c ms H', StAt H' d c 0 ms → Same H H' → H d = none → H c = none → Q (.ref d) H'
def cutI {α : Type} (xs : List α) (lo hi : Option Int) : List α := (xs.drop (HT.sIx xs.length 0 lo)).take (HT.sIx xs.length xs.length hi - HT.sIx xs.length 0 lo)
theorem cutV_map {α : Type} (f : α → V) (xs : List α) (lo hi : Option Int) : cutV (xs.map f) lo hi = (cutI xs lo hi).map f := by
  unfold cutV cutI
  rw [List.length_map, ← List.map_drop, ← List.map_take]
theorem cutI_len {α : Type} (xs : List α) (lo hi : Option Int) : (cutI xs lo hi).length ≤ xs.length := by
  unfold cutI
  rw [List.length_take, List.length_drop]
  omega
theorem merge2 (c : Addr) (t : Int) : mergeK [] [((Sum.inr (Str.ofString "cells") : Key), V.ref c), (Sum.inr (Str.ofString "turn"), V.int t)] = [((Sum.inr (Str.ofString "cells") : Key), V.ref c), (Sum.inr (Str.ofString "turn"), V.int t)] := by
  unfold mergeK
  simp only [List.foldl_cons, List.foldl_nil]
  unfold putK
  simp [s_cs]
theorem ixN_nat {xs : List V} {j : Nat} (h : j < xs.length) : ixN xs.length (j : Int) = some j := by
  unfold ixN
  rw [if_pos (by omega), if_pos (by omega), Int.toNat_natCast]
def spLaw (K : PySem.W.Frag) : Sp := fun vs H Q _ => ∃ (a : Addr) (ns : List Int), vs = [.ref a] ∧ SqL K H a (ns.map V.int) ∧ ns.length ≤ 63 ∧ ∀ H', Q (.bl true) H'
theorem opq {A : Prop} (h : ∀ G : Prop, (A → G) → G) : A := h A id
end Fw
set_option Elab.async false
set_option linter.all false
set_option maxRecDepth 100000
namespace Fw
open PySem L2
structure Rise (k : Int) (zs : List Int) : Prop where
  up : zs.Pairwise (· < ·)
  in_ : ∀ x ∈ zs, 0 ≤ x ∧ x < k
theorem Rise.nil {k : Int} : Rise k [] := ⟨.nil, fun _ h => nomatch h⟩
theorem Rise.sub {k : Int} {zs ys : List Int} (h : Rise k zs) (s : ys.Sublist zs) : Rise k ys := ⟨h.up.sublist s, fun x hx => h.in_ x (s.subset hx)⟩
abbrev NetL (H : Hp) : List Addr → List (List Int) → Prop := Paired fun r zs => H r = some (.tup (zs.map V.int))
theorem NetL.keep {d c : Addr} {H H' : Hp} {rs : List Addr} {net : List (List Int)} (h : NetL H rs net) (hd : ∀ r zs, H r = some (.tup zs) → r ≠ d ∧ r ≠ c) (k : Keep d c H H') : NetL H' rs net := by
  induction h with
  | nil => exact .nil
  | cons r t ih => exact .cons (k _ _ r (hd _ _ r).1 (hd _ _ r).2) ih
def NetAt (H : Hp) (a : Addr) (net : List (List Int)) : Prop := ∃ rs : List Addr, H a = some (.tup (rs.map V.ref)) ∧ NetL H rs net
theorem StAt.tup {H : Hp} {d c : Addr} {t : Int} {ns : List Int} (S : StAt H d c t ns) {r : Addr} {zs : List V} (h : H r = some (.tup zs)) : r ≠ d ∧ r ≠ c :=
  ⟨ne_of h S.dict (by intro z; cases z), ne_of h S.list (by intro z; cases z)⟩
theorem NetAt.keep {H H' : Hp} {d c : Addr} {t : Int} {ns : List Int} (S : StAt H d c t ns) {a : Addr} {net : List (List Int)} (h : NetAt H a net) (k : Keep d c H H') : NetAt H' a net := by
  obtain ⟨rs, h1, h2⟩ := h
  exact ⟨rs, k _ _ h1 (S.tup h1).1 (S.tup h1).2, h2.keep (fun r zs e => S.tup e) k⟩
def WFn (net : List (List Int)) : Prop := ∀ (i : Nat) zs, net[i]? = some zs → Rise (i : Int) zs
theorem WFn.nil : WFn [] := fun i zs e => by simp at e
theorem same_put {H Hc : Hp} {p : Addr} {o : HO} (h : Same H Hc) (hp : H p = none) : Same H (upd Hc p o) := fun b u e => by rw [upd_ne (ne_of_none e hp)]; exact h b u e
theorem keep_put {d c : Addr} {H Hc : Hp} {p : Addr} {o : HO} (h : Keep d c H Hc) (hp : H p = none) : Keep d c H (upd Hc p o) := fun b u e n1 n2 => by rw [upd_ne (ne_of_none e hp)]; exact h b u e n1 n2
theorem map_snoc (rs : List Addr) (r : Addr) : rs.map V.ref ++ [V.ref r] = (rs ++ [r]).map V.ref := by rw [List.map_append]; rfl
theorem paired_get {α β : Type} {F : α → β → Prop} : ∀ {l₁ : List α} {l₂ : List β} {i : Nat} {a : α}, Paired F l₁ l₂ → l₁[i]? = some a → ∃ b, l₂[i]? = some b ∧ F a b
  | _, _, _, _, .nil, e => by simp at e
  | _, _, 0, _, .cons r _, e => by simp at e; subst e; exact ⟨_, rfl, r⟩
  | _, _, i + 1, a, .cons _ t, e => by
    obtain ⟨b, h1, h2⟩ := paired_get (i := i) (a := a) t (by simpa using e)
    exact ⟨b, by simpa using h1, h2⟩
theorem paired_imp {α β : Type} {F G : α → β → Prop} {l₁ : List α} {l₂ : List β} (h : Paired F l₁ l₂) (k : ∀ a b, F a b → G a b) : Paired G l₁ l₂ := by
  induction h with
  | nil => exact .nil
  | cons r t ih => exact .cons (k _ _ r) ih
theorem get_ref {rs : List Addr} {i : Nat} {x : V} (h : (rs.map V.ref)[i]? = some x) : ∃ r, rs[i]? = some r ∧ x = .ref r := by
  rw [List.getElem?_map] at h
  cases e : rs[i]? with
  | none => rw [e] at h; cases h
  | some r => rw [e] at h; exact ⟨r, rfl, (Option.some.inj h).symm⟩
end Fw
set_option Elab.async false
set_option linter.all false
set_option maxRecDepth 100000
namespace Fw
open PySem L2
def wordDo (ns st : List Int) (rooms wk : Int) : V := if wk ∈ st then .str "there" else if ∀ x ∈ ns, x ∈ st then (if rooms ≤ (st.length : Int) then .str "full" else .non) else .str "needs"
def wordClear (st : List Int) (wk : Int) : V := if wk ∈ st then .non else .str "empty"
def wordOf (ns st : List Int) (rooms : Int) (word : Str) (wk : Int) : V := if word = "do" then wordDo ns st rooms wk else wordClear st wk
end Fw
set_option Elab.async false
set_option linter.all false
set_option maxRecDepth 100000
namespace Fw
open PySem L2
theorem bt_zip : bootBuiltins "zip" = some (.type "zip") := by decide +kernel
def seqO (b : Bool) (xs : List V) : HO := match b with | true => .tup xs | false => .lst xs
def Leaf (x : V) : Prop := x = .non ∨ (∃ i, x = .int i) ∨ ∃ y, x = .str y
def Alike (H : Hp) : Nat → V → V → Prop
  | 0, x, y => x = y ∧ Leaf x
  | n + 1, x, y => (x = y ∧ Leaf x) ∨ ∃ (b : Bool) (a c : Addr) (xs ys : List V), x = .ref a ∧ y = .ref c ∧ H a = some (seqO b xs) ∧ H c = some (seqO b ys) ∧ xs.length = ys.length ∧ xs.length ≤ 100000 ∧ ∀ (i : Nat) (x' y' : V), xs[i]? = some x' → ys[i]? = some y' → Alike H n x' y'
theorem Alike.same {H H' : Hp} (s : Same H H') : ∀ {n : Nat} {x y : V}, Alike H n x y → Alike H' n x y := by
  intro n
  induction n with
  | zero => exact fun {x y} h => show x = y ∧ Leaf x from h
  | succ n ih =>
    rintro x y (h | ⟨b, a, c, xs, ys, e1, e2, h1, h2, hl, hb, h⟩)
    · exact .inl h
    · exact .inr ⟨b, a, c, xs, ys, e1, e2, s _ _ h1, s _ _ h2, hl, hb, fun i x' y' q1 q2 => ih (h i x' y' q1 q2)⟩
def spSame (n : Nat) : Sp := fun vs H Q _ => ∃ x y : V, vs = [x, y] ∧ Alike H n x y ∧ ∀ H', Same H H' → Q (.bl true) H'
theorem SqB.of {b : Bool} {K : PySem.W.Frag} {H : Hp} {a : Addr} {xs : List V} (h : H a = some (seqO b xs)) : SqB b K H a xs := by
  cases b
  · exact SqL.of h
  · exact SqT.of h
def tyOf (b : Bool) : Value := match b with | true => .type "tuple" | false => .type "list"
theorem ty_of {b : Bool} {K : PySem.W.Frag} {H : Hp} {a : Addr} {xs : List V} (h : H a = some (seqO b xs)) : TyOf K H (.ref a) (tyOf b) := by
  cases b
  · exact TyOf.lst h
  · exact TyOf.tup h
section
variable {K : PySem.W.Frag}
theorem kit_bl (b : Bool) : PySem.W.kitOne K (tyOf b) (.type "list") = some (!b) := by cases b <;> rfl
theorem kit_bt (b : Bool) : PySem.W.kitOne K (tyOf b) (.type "tuple") = some b := by cases b <;> rfl
theorem kit_sl : PySem.W.kitOne K (.type "str") (.type "list") = some false := by rfl
theorem kit_st : PySem.W.kitOne K (.type "str") (.type "tuple") = some false := by rfl
theorem kit_ss : PySem.W.kitOne K (.type "str") (.type "str") = some true := by rfl
theorem kit_il : PySem.W.kitOne K (.type "int") (.type "list") = some false := by rfl
theorem kit_it : PySem.W.kitOne K (.type "int") (.type "tuple") = some false := by rfl
theorem kit_is : PySem.W.kitOne K (.type "int") (.type "str") = some false := by rfl
theorem kit_ii : PySem.W.kitOne K (.type "int") (.type "int") = some true := by rfl
theorem kit_ib : PySem.W.kitOne K (.type "int") (.type "bool") = some false := by rfl
end
theorem bl_snoc {i : Nat} : ((List.replicate i true).map V.bl) ++ [V.bl true] = (List.replicate (i + 1) true).map V.bl := by
  rw [List.replicate_succ', List.map_append]; rfl
theorem all_rep {n : Nat} : (List.replicate n true).all id = true := by simp
theorem filter_snoc {α : Type} {p : α → Bool} {l : List α} {i : Nat} {x : α} (h : l[i]? = some x) : (l.take (i + 1)).filter p = (l.take i).filter p ++ (if p x then [x] else []) := by
  rw [List.take_add_one, h, Option.toList_some, List.filter_append]
  by_cases hp : p x = true
  · simp [hp]
  · simp [hp]
end Fw
set_option Elab.async false
set_option linter.all false
set_option maxRecDepth 100000
namespace Fw
open PySem L2
abbrev MovL (H : Hp) : List Addr → List (Str × Int) → Prop := Paired fun r m => H r = some (.tup [.str m.1, .int m.2])
theorem MovL.same {H H' : Hp} {rs : List Addr} {ms : List (Str × Int)} (h : MovL H rs ms) (k : Same H H') : MovL H' rs ms := by
  induction h with
  | nil => exact .nil
  | cons r t ih => exact .cons (k _ _ r) ih
theorem MovL.put {H : Hp} {p : Addr} {xs : List V} {o : HO} {rs : List Addr} {ms : List (Str × Int)} (h : MovL H rs ms) (hp : H p = some (.lst xs)) : MovL (upd H p o) rs ms := by
  induction h with
  | nil => exact .nil
  | cons r t ih => exact .cons (by rw [upd_ne (ne_of r hp (by intro z; cases z))]; exact r) ih
theorem paired_app {α β : Type} {F : α → β → Prop} {a c : List α} {b d : List β} (h : Paired F a b) (k : Paired F c d) : Paired F (a ++ c) (b ++ d) := by
  induction h with
  | nil => exact k
  | cons r t ih => exact .cons r ih
theorem MovL.snoc {H : Hp} {rs : List Addr} {ms : List (Str × Int)} {r : Addr} {wo : Str} {x : Int} (h : MovL H rs ms) (e : H r = some (.tup [.str wo, .int x])) : MovL H (rs ++ [r]) (ms ++ [(wo, x)]) := Paired.snoc h e
theorem MovL.app {H : Hp} {rs rs' : List Addr} {ms ms' : List (Str × Int)} (h : MovL H rs ms) (h' : MovL H rs' ms') : MovL H (rs ++ rs') (ms ++ ms') := paired_app h h'
def wd (net : List (List Int)) (st : List Int) (rooms : Int) (m : Str × Int) : V := wordOf ((net[m.2.toNat]?).getD []) st rooms m.1 m.2
end Fw
set_option Elab.async false
set_option linter.all false
set_option maxRecDepth 100000
namespace Fw
open PySem L2
theorem take_all {α : Type} {l : List α} {n : Nat} (h : l.length = n) : l.take n = l := List.take_of_length_le (by omega)
structure Cnt (n : Nat) (cs : List Int) (seen : List Int) : Prop where
  len : cs.length = n
  at_ : ∀ x : Nat, x < n → ∃ c, cs[x]? = some c ∧ 0 ≤ c ∧ (c = 0 ↔ (x : Int) ∉ seen)
theorem Cnt.nil (n : Nat) : Cnt n (List.replicate n 0) [] := ⟨by simp, fun x hx => ⟨0, by simp [hx], by decide, by simp⟩⟩
theorem small_n {n : Nat} (h : n ≤ 1000000) : n < sizeLine := by rw [sizeLine_eq]; omega
end Fw
set_option Elab.async false
set_option linter.all false
set_option maxRecDepth 100000
namespace Fw
open PySem L2
inductive Nd (net : List (List Int)) (asked : List Int) : Int → Prop
  | ask {x : Int} : x ∈ asked → Nd net asked x
  | need {w y : Int} {zs : List Int} : Nd net asked w → net[w.toNat]? = some zs → y ∈ zs → Nd net asked y
structure KeysI (kvs : List (Key × V)) (ks : List Int) : Prop where
  keys : kvs.map (·.1) = ks.map Sum.inl
  nd : ks.Nodup
theorem KeysI.nil : KeysI [] [] := ⟨rfl, .nil⟩
theorem any_key (k : Key) : ∀ kvs : List (Key × V), (kvs.any fun kv => decide (kv.1 = k)) = true ↔ k ∈ kvs.map (·.1)
  | [] => by simp
  | p :: r => by
    rw [List.any_cons, List.map_cons, Bool.or_eq_true, any_key k r, List.mem_cons, decide_eq_true_eq]
    exact or_congr_left ⟨Eq.symm, Eq.symm⟩
theorem KeysI.mem {kvs : List (Key × V)} {ks : List Int} (h : KeysI kvs ks) (x : Int) : (Sum.inl x : Key) ∈ kvs.map (·.1) ↔ x ∈ ks := by
  rw [h.keys, List.mem_map]
  exact ⟨fun ⟨y, hy, e⟩ => Sum.inl.inj e ▸ hy, fun hx => ⟨x, hx, rfl⟩⟩
theorem KeysI.has {kvs : List (Key × V)} {ks : List Int} (h : KeysI kvs ks) (x : Int) : (valV kvs (Sum.inl x)).isSome = decide (x ∈ ks) := by
  rw [← valV_any]
  have := (any_key (Sum.inl x) kvs).trans (h.mem x)
  by_cases e : x ∈ ks
  · rw [decide_eq_true e]
    exact this.mpr e
  · rw [decide_eq_false e]
    exact Bool.eq_false_iff.mpr fun z => e (this.mp z)
structure Fnd (net : List (List Int)) (asked ks : List Int) (j : Int) : Prop where
  in_ : ∀ x ∈ ks, (0 ≤ x ∧ x < (net.length : Int)) ∧ Nd net asked x
  ask : ∀ x ∈ asked, x ∈ ks
  clo : ∀ (w : Nat) zs, j ≤ (w : Int) → (w : Int) ∈ ks → net[w]? = some zs → ∀ y ∈ zs, y ∈ ks
theorem Fnd.all {net : List (List Int)} {asked ks : List Int} (wf : WFn net) (h : Fnd net asked ks 0) (x : Int) : x ∈ ks ↔ Nd net asked x := by
  refine ⟨fun hx => (h.in_ x hx).2, fun hx => ?_⟩
  induction hx with
  | ask m => exact h.ask _ m
  | @need w y zs _ e m ih =>
    have b := (h.in_ w ih).1
    exact h.clo w.toNat zs (by omega) (by rw [show ((w.toNat : Nat) : Int) = w by omega]; exact ih) e y m
end Fw
set_option Elab.async false
set_option linter.all false
set_option maxRecDepth 100000
namespace Fw
open PySem L2
abbrev Mv := Str × Int
def nd (net : List (List Int)) (w : Int) : List Int := (net[w.toNat]?).getD []
def later (net : List (List Int)) (zs : List Int) (j : Nat) (x : Int) : Prop := ∃ v ∈ zs.drop j, x ∈ nd net v
instance (net : List (List Int)) (zs : List Int) (j : Nat) (x : Int) : Decidable (later net zs j x) := by unfold later; infer_instance
inductive Run (net : List (List Int)) (rooms : Int) : List Int → List Mv → List Int → Prop
  | nil {s : List Int} : Run net rooms s [] s
  | do_ {s s' t : List Int} {w : Int} {ms : List Mv} : w ∉ s → (∀ y ∈ nd net w, y ∈ s) → (s.length : Int) < rooms → s'.Perm (s ++ [w]) → s'.Pairwise (· < ·) → Run net rooms s' ms t → Run net rooms s (("do", w) :: ms) t
  | clear {s t : List Int} {w : Int} {ms : List Mv} : w ∈ s → Run net rooms (s.filter fun x => decide (x ≠ w)) ms t → Run net rooms s (("clear", w) :: ms) t
section
variable {net : List (List Int)} {asked zs : List Int}
end
def PlanAt (H : Hp) (l : Addr) (ms : List Mv) : Prop := ∃ rs : List Addr, H l = some (.lst (rs.map V.ref)) ∧ MovL H rs ms
theorem PlanAt.same {H H' : Hp} {l : Addr} {ms : List Mv} (h : PlanAt H l ms) (k : Same H H') : PlanAt H' l ms := by
  obtain ⟨rs, h1, h2⟩ := h
  exact ⟨rs, k _ _ h1, h2.same k⟩
end Fw
set_option Elab.async false
set_option linter.all false
set_option maxRecDepth 100000
namespace Fw
open PySem L2
def Beh (st st' : List Int) (word : Str) (wk : Int) : Prop := (word = "do" → st'.Perm (st ++ [wk]) ∧ st'.Pairwise (· ≤ ·)) ∧ (word = "clear" → st' = st.filter fun x => decide (x ≠ wk))
end Fw
set_option Elab.async false
set_option linter.all false
set_option maxRecDepth 100000
namespace Fw
open PySem L2
inductive Play (net : List (List Int)) (rooms : Int) : List Int → List Mv → List (List Int) → V → Prop
  | nil {st} : Play net rooms st [] [] .non
  | stop {st m ms w0} : wd net st rooms m = .str w0 → Play net rooms st (m :: ms) [] (.str w0)
  | go {st st' m ms sts v} : wd net st rooms m = .non → Beh st st' m.1 m.2 → Play net rooms st' ms sts v → Play net rooms st (m :: ms) (st' :: sts) v
theorem MovL.keep {d c : Addr} {H H' : Hp} {t : Int} {ns : List Int} {rs : List Addr} {ms : List Mv} (h : MovL H rs ms) (S : StAt H d c t ns) (k : Keep d c H H') : MovL H' rs ms :=
  paired_imp h fun r m e => k _ _ e (S.tup e).1 (S.tup e).2
theorem PlanAt.keep {d c : Addr} {H H' : Hp} {t : Int} {ns : List Int} {l : Addr} {ms : List Mv} (h : PlanAt H l ms) (S : StAt H d c t ns) (k : Keep d c H H') (nd : l ≠ d) (nc : l ≠ c) : PlanAt H' l ms := by
  obtain ⟨rs, a, b⟩ := h
  exact ⟨rs, k _ _ a nd nc, MovL.keep b S k⟩
end Fw
set_option Elab.async false
set_option linter.all false
set_option maxRecDepth 100000
namespace Fw
open PySem L2
theorem filt_len {α : Type} {p : α → Bool} {l : List α} {i : Nat} : ((l.take i).filter p).length ≤ i :=
  Nat.le_trans (List.length_filter_le _ _) (by rw [List.length_take]; omega)
theorem Alike.up {H : Hp} : ∀ {n : Nat} {x y : V}, Alike H n x y → Alike H (n + 1) x y := by
  intro n
  induction n with
  | zero => exact fun {x y} h => .inl h
  | succ n ih =>
    rintro x y (h | ⟨b, a, c, xs, ys, e1, e2, h1, h2, hl, hb, h⟩)
    · exact .inl h
    · exact .inr ⟨b, a, c, xs, ys, e1, e2, h1, h2, hl, hb, fun i x' y' q1 q2 => ih (h i x' y' q1 q2)⟩
end Fw
set_option Elab.async false
set_option linter.all false
set_option maxRecDepth 100000
namespace Fw
open PySem L2
theorem bt_sum : bootBuiltins "sum" = some (.builtin "sum") := by decide +kernel
def W4 (x : Str) : Prop := x = "do" ∨ x = "clear" ∨ x = "put" ∨ x = "fetch"
def MvW (ms : List Mv) : Prop := ∀ m ∈ ms, W4 m.1
def costOf (c0 c1 c2 : Int) (m : Mv) : Int := if m.1 = "clear" then 0 else if m.1 = "do" then c0 else if m.1 = "put" then c1 else c2
def farSum (c0 c1 c2 : Int) (ms : List Mv) : Int := (ms.map (costOf c0 c1 c2)).sum
def kindN (x : Str) (ms : List Mv) : Int := ((ms.filter fun m => decide (m.1 = x)).length : Int)
theorem kindN_cons (x : Str) (m : Mv) (ms : List Mv) : kindN x (m :: ms) = (if m.1 = x then 1 else 0) + kindN x ms := by
  unfold kindN
  by_cases h : m.1 = x
  · rw [List.filter_cons_of_pos (by simpa using h), if_pos h, List.length_cons]; omega
  · rw [List.filter_cons_of_neg (by simpa using h), if_neg h]; omega
theorem w_dc : ¬ (Str.ofString "do" = Str.ofString "clear") := by decide +kernel
theorem w_pc : ¬ (Str.ofString "put" = Str.ofString "clear") := by decide +kernel
theorem w_fc : ¬ (Str.ofString "fetch" = Str.ofString "clear") := by decide +kernel
theorem w_pd : ¬ (Str.ofString "put" = Str.ofString "do") := by decide +kernel
theorem w_fd : ¬ (Str.ofString "fetch" = Str.ofString "do") := by decide +kernel
theorem w_fp : ¬ (Str.ofString "fetch" = Str.ofString "put") := by decide +kernel
theorem w_cd : ¬ (Str.ofString "clear" = Str.ofString "do") := by decide +kernel
theorem w_cp : ¬ (Str.ofString "clear" = Str.ofString "put") := by decide +kernel
theorem w_cf : ¬ (Str.ofString "clear" = Str.ofString "fetch") := by decide +kernel
theorem w_dp : ¬ (Str.ofString "do" = Str.ofString "put") := by decide +kernel
theorem w_df : ¬ (Str.ofString "do" = Str.ofString "fetch") := by decide +kernel
theorem w_pf : ¬ (Str.ofString "put" = Str.ofString "fetch") := by decide +kernel
theorem farSum_kinds {c0 c1 c2 : Int} : ∀ {ms : List Mv}, MvW ms → farSum c0 c1 c2 ms = 0 + c0 * kindN "do" ms + c1 * kindN "put" ms + c2 * kindN "fetch" ms := by
  intro ms
  induction ms with
  | nil => intro _; simp [farSum, kindN]
  | cons m ms ih =>
    intro h
    have ih := ih fun x hx => h x (List.mem_cons_of_mem _ hx)
    have hm := h m (List.mem_cons_self ..)
    have e : farSum c0 c1 c2 (m :: ms) = costOf c0 c1 c2 m + farSum c0 c1 c2 ms := by simp [farSum]
    rw [e, ih, kindN_cons, kindN_cons, kindN_cons]
    unfold costOf
    rcases hm with z | z | z | z
    · rw [z, if_neg w_dc, if_pos rfl, if_pos rfl, if_neg w_dp, if_neg w_df, Int.mul_add, Int.mul_add, Int.mul_add]; omega
    · rw [z, if_pos rfl, if_neg w_cd, if_neg w_cp, if_neg w_cf, Int.mul_add, Int.mul_add, Int.mul_add]; omega
    · rw [z, if_neg w_pc, if_neg w_pd, if_pos rfl, if_neg w_pd, if_pos rfl, if_neg w_pf, Int.mul_add, Int.mul_add, Int.mul_add]; omega
    · rw [z, if_neg w_fc, if_neg w_fd, if_neg w_fp, if_neg w_fd, if_neg w_fp, if_pos rfl, Int.mul_add, Int.mul_add, Int.mul_add]; omega
theorem farSum_app {c0 c1 c2 : Int} (a b : List Mv) : farSum c0 c1 c2 (a ++ b) = farSum c0 c1 c2 a + farSum c0 c1 c2 b := by
  unfold farSum
  rw [List.map_append, List.sum_append]
def spCost : Sp := fun vs H Q _ => ∃ (mv t : Addr) (word : Str) (wk c0 c1 c2 : Int), vs = [.ref mv, .ref t] ∧ H mv = some (.tup [.str word, .int wk]) ∧ H t = some (.tup [.int c0, .int c1, .int c2]) ∧ W4 word ∧ Q (.int (costOf c0 c1 c2 (word, wk))) H
def spFarCost : Sp := fun vs H Q _ => ∃ (l t : Addr) (ms : List Mv) (c0 c1 c2 : Int), vs = [.ref l, .ref t] ∧ PlanAt H l ms ∧ MvW ms ∧ ms.length ≤ 10000 ∧ H t = some (.tup [.int c0, .int c1, .int c2]) ∧ ∀ H', Same H H' → Q (.int (farSum c0 c1 c2 ms)) H'
def spCosts : Sp := fun vs H Q _ => ∃ (d c : Addr) (t : Int) (ns : List Int), vs = [.ref d] ∧ StAt H d c t ns ∧ t ≤ TB - 100 ∧
  ∀ r c0 c1 c2 ns' H', StAt H' d c (t + 4) ns' → Keep d c H H' → H' r = some (.tup [.int c0, .int c1, .int c2]) → (0 ≤ c0 ∧ c0 < 100) → (0 ≤ c1 ∧ c1 < 100) → (0 ≤ c2 ∧ c2 < 100) → Q (.ref r) H'
def spFMoves : Sp := fun vs H Q _ => ∃ (d c : Addr) (t : Int) (ns : List Int), vs = [.ref d] ∧ StAt H d c t ns ∧ t ≤ TB - 10000 ∧
  ∀ l ms t' ns' H', StAt H' d c t' ns' → t ≤ t' → t' ≤ t + 1000 → Keep d c H H' → l ≠ c → PlanAt H' l ms → MvW ms → ms.length ≤ 400 → Q (.ref l) H'
end Fw
set_option Elab.async false
set_option linter.all false
set_option maxRecDepth 100000
set_option maxHeartbeats 0
namespace Fw
open PySem L2
section
variable {P : Program} {w : World} {K : PySem.W.Frag} {mg : Str → Option Value} {base : Heap} {f : Addr} {fd : FuncData}
theorem sc_Lbegin : FnScope ["_law_script", "_law_cells"] ["_law_script"] (defScope s_Lbegin) := ⟨rfl, rfl, rfl, by decide +kernel, rfl, by decide +kernel, by decide +kernel⟩
theorem ok_Lbegin (F : Fun K "_law_begin" "_law_begin" s_Lbegin f fd) (z_list : mg "list" = none) : FnOk P w K mg base CX0 1 f fd ["_law_script"] (spBegin K) := by
  refine F.ok sc_Lbegin (fun vs H Q E h => ?_) (fun cdv A outer s H vs Q E hr h => ?_)
  · obtain ⟨a, ns, rfl, _⟩ := h
    rfl
  obtain ⟨a, ns, rfl, hS, h63, q⟩ := h
  have hu := hu_of hr
  have hu0 := hr.units0
  refine ⟨_, (pss_cons (ps_set (i := 1) sc_Lbegin.nd rfl (Or.inl rfl) (pe_callTy call_list_of rfl z_list bt_list (pa_cons (pe_slice sl_list (pv 0) po_none (po_some pe_int)) pa_nil))) (pss_cons (ps_if (pt_cmpR (op_eq_nil hu0) (pv 1) (pe_lst pa_nil) (nomark _)) (pss_one (ps_set (i := 1) sc_Lbegin.nd rfl (Or.inl rfl) (pe_lst (pa_cons pe_int pa_nil)))) pss_nil) (pss_one (ps_ret (pe_disp (pps_cons pe_str (pv 1) (pps_cons pe_str pe_int pps_nil)) rfl rfl (by simp) (by decide)))))), ?_⟩
  try dsimp only [Cx.nox, Cx.wish, cxOf]
  refine ⟨_, rfl, _, rfl, a, _, rfl, hS, fun p hp => ?_⟩
  rw [cutV_map]
  have hl : (cutI ns none (some 63)).length ≤ 63 := Nat.le_trans (cutI_len _ _ _) h63
  refine ⟨p, _, rfl, .inl (SqL.of upd_same), fun c hc => ?_⟩
  have s1 : Same H (upd (upd H p (.lst ((cutI ns none (some 63)).map V.int))) c (.lst ((cutI ns none (some 63)).map V.int))) := (same_new hp _).trans (same_new hc _)
  refine ⟨_, rfl, (by show 0 ≤ sizeLine; decide), fun e he => ?_⟩
  have hce : c ≠ e := ne_of_none upd_same he
  refine ⟨c, e, _, rfl, rfl, SqL.of (by rw [upd_ne hce]; exact upd_same), SqL.of upd_same, _, rfl, ?_⟩
  have s2 := s1.trans (same_new he (.lst []))
  cases hm : cutI ns none (some 63) with
  | nil =>
    rw [hm] at s2 he
    refine iteT ?_
    refine ⟨(by show 1 ≤ sizeLine; decide), fun c2 hc2 => ?_⟩
    have s3 := s2.trans (same_new hc2 (.lst [.int 7]))
    intro d hd
    refine ⟨_, rfl, ?_⟩
    have s4 := s3.trans (same_new hd (.dK []))
    refine ⟨upd_same, [(Sum.inr (Str.ofString "cells"), .ref c2), (Sum.inr (Str.ofString "turn"), .int 0)], rfl, (by show 2 ≤ 15; decide), ?_⟩
    have ncd : c2 ≠ d := ne_of_none upd_same hd
    refine q d c2 [7] _ ⟨?_, ?_, by decide, by decide, by decide⟩ ?_ ?_ ?_
    · rw [upd_same, merge2]
    · rw [upd_ne ncd, upd_ne ncd]; exact upd_same
    · rw [upd_upd]; exact s3.trans (same_new hd _)
    · exact s3.free hd
    · exact s2.free hc2
  | cons x r =>
    rw [hm] at s2 he hl
    refine iteF ?_
    intro d hd
    refine ⟨_, rfl, ?_⟩
    refine ⟨upd_same, [(Sum.inr (Str.ofString "cells"), .ref c), (Sum.inr (Str.ofString "turn"), .int 0)], rfl, (by show 2 ≤ 15; decide), ?_⟩
    have gc : (upd (upd (upd H p (.lst ((x :: r).map V.int))) c (.lst ((x :: r).map V.int))) e (.lst [])) c = some (.lst ((x :: r).map V.int)) := by rw [upd_ne hce]; exact upd_same
    have ncd : c ≠ d := ne_of_none gc hd
    refine q d c (x :: r) _ ⟨?_, ?_, by simp, hl, by decide⟩ ?_ ?_ ?_
    · rw [upd_same, merge2]
    · rw [upd_ne ncd, upd_ne ncd]; exact gc
    · rw [upd_upd]; exact s2.trans (same_new hd _)
    · exact s2.free hd
    · rw [hm] at hc; exact (same_new hp _).free hc
theorem sc_Ltake : FnScope ["_law_state", "_law_many", "_law_turn", "_law_place", "_law_cell", "_law_digit", "_law_mixed"] ["_law_state", "_law_many"] (defScope s_Ltake) := ⟨rfl, rfl, rfl, by decide +kernel, rfl, by decide +kernel, by decide +kernel⟩
theorem ok_Ltake (F : Fun K "_law_take" "_law_take" s_Ltake f fd) (z_len : mg "len" = none) (z_divmod : mg "divmod" = none) : FnOk P w K mg base CX0 1 f fd ["_law_state", "_law_many"] spTake := by
  refine F.ok sc_Ltake (fun vs H Q E h => ?_) (fun cdv A outer s H vs Q E hr h => ?_)
  · obtain ⟨d, c, t, ns, m, rfl, _⟩ := h
    rfl
  obtain ⟨d, c, t, ns, m, rfl, S, ht, hm1, hm2, q⟩ := h
  have hu := hu_of hr
  refine ⟨_, (pss_cons (ps_set (i := 2) sc_Ltake.nd rfl (Or.inl rfl) (pe_op op_add (pe_dget hu (pv 0) pe_str (fun _ _ => rfl)) pe_int)) (pss_cons (ps_dput hu (pv 0) pe_str (pv 2) rfl) (pss_cons (ps_set (i := 3) sc_Ltake.nd rfl (Or.inl rfl) (pe_op op_mod (pv 2) (pe_callB call_len_seq rfl z_len bt_len (pa_cons (pe_dget hu (pv 0) pe_str (fun _ _ => rfl)) pa_nil)))) (pss_cons (ps_set (i := 4) sc_Ltake.nd rfl (Or.inl rfl) (pe_ix ix_list (pe_dget hu (pv 0) pe_str (fun _ _ => rfl)) (pv 3) (fun _ _ => rfl))) (pss_cons (ps_if (pt_cmpR op_ge (pv 4) (pe_op op_pow pe_int pe_int) (nomark _)) (pss_cons (ps_asg (pe_callB call_divmod rfl z_divmod bt_divmod (pa_cons (pv 4) (pa_cons (pv 1) pa_nil))) (pg_tup rfl (pgs_cons (pg_sub (pe_dget hu (pv 0) pe_str (fun _ _ => rfl)) (pv 3) set_list) (pgs_cons (pg_name (i := 5) sc_Ltake.nd rfl (Or.inl rfl)) pgs_nil)))) (pss_one (ps_ret (pv 5)))) pss_nil) (pss_cons (ps_set (i := 6) sc_Ltake.nd rfl (Or.inl rfl) (pe_op op_mod (pe_op op_mul (pe_op op_add (pe_op op_add (pe_op op_mod (pv 4) pe_int) (pe_op op_mul (pe_op op_mul (pv 2) (pv 2)) pe_int)) pe_int) pe_int) pe_int)) (pss_cons (ps_set (i := 6) sc_Ltake.nd rfl (Or.inl rfl) (pe_op op_mod (pe_op op_mul (pv 6) (pv 6)) pe_int)) (pss_one (ps_ret (pe_op op_mod (pe_op op_fdiv (pe_op op_mod (pe_op op_mul (pe_op op_add (pv 6) (pe_op op_mul (pv 2) pe_int)) pe_int) pe_int) pe_int) (pv 1))))))))))), ?_⟩
  try dsimp only [Cx.nox, Cx.wish, cxOf]
  have hpos := S.pos
  have hne := S.ne
  have ht' : t ≤ 1000000000 := ht
  refine ⟨_, rfl, d, _, rfl, dg_turn S, _, _, rfl, rfl, ?_⟩
  refine ⟨_, rfl, _, rfl, d, _, rfl, dp_turn S, ?_⟩
  have S1 := S.turn (u := t + 1) (by omega)
  have k1 : Keep d c H (upd H d (.dK [(Sum.inr (Str.ofString "cells"), .ref c), (Sum.inr (Str.ofString "turn"), .int (t + 1))])) := fun b o e n _ => by rw [upd_ne n]; exact e
  generalize upd H d (.dK [(Sum.inr (Str.ofString "cells"), .ref c), (Sum.inr (Str.ofString "turn"), .int (t + 1))]) = H1 at S1 k1
  have hlen : (((ns.map V.int).length : Nat) : Int) = (ns.length : Int) := by rw [List.length_map]
  refine ⟨_, rfl, _, rfl, d, _, rfl, dg_cells S1, c, _, rfl, .inl (SqL.of S1.list), _, _, rfl, rfl, (by rw [hlen]; omega), ?_⟩
  have p0 : 0 ≤ (t + 1) % (((ns.map V.int).length : Nat) : Int) := Int.emod_nonneg _ (by rw [hlen]; omega)
  have p1 : (t + 1) % (((ns.map V.int).length : Nat) : Int) < (ns.length : Int) := by
    have := Int.emod_lt_of_pos (t + 1) (b := (((ns.map V.int).length : Nat) : Int)) (by rw [hlen]; omega)
    rw [hlen] at this ⊢
    exact this
  dsimp only
  generalize (t + 1) % (((ns.map V.int).length : Nat) : Int) = pl at p0 p1
  obtain ⟨j, rfl⟩ : ∃ j : Nat, pl = (j : Int) := ⟨pl.toNat, by omega⟩
  have hj : j < ns.length := by omega
  have hat : atI (ns.map V.int) (j : Int) = some (.int ns[j]) := atI_nat (by rw [List.getElem?_map, List.getElem?_eq_getElem hj]; rfl)
  refine ⟨_, rfl, d, _, rfl, dg_cells S1, _, rfl, c, _, _, _, rfl, rfl, SqL.of S1.list, hat, ?_⟩
  generalize hx : ns[j] = x at hat ⊢
  refine ⟨_, rfl, _, _, rfl, rfl, ⟨by decide, by decide, by decide⟩, _, _, rfl, rfl, _, rfl, ?_⟩
  refine ite2 (fun _ => ?_) (fun _ => ?_)
  · -- a great cell
    refine ⟨_, rfl, _, rfl, x, m, rfl, ⟨by omega, by omega⟩, fun p hp => ?_⟩
    have S2 := S1.new hp (.tup [.int (x / m), .int (x % m)])
    have npc : p ≠ c := (ne_of_none S1.list hp).symm
    refine ⟨p, _, rfl, SqT.of upd_same, rfl, _, _, rfl, ?_⟩
    refine ⟨_, rfl, d, _, rfl, dg_cells S2, _, rfl, c, _, _, j, rfl, rfl, S2.list, ixN_nat (by rw [List.length_map]; exact hj), ?_⟩
    refine ⟨_, _, rfl, rfl, ?_⟩
    refine ⟨_, rfl, ?_⟩
    have e1 : (ns.map V.int).set j (.int (x / m)) = (ns.set j (x / m)).map V.int := by rw [List.map_set]
    rw [e1]
    refine q (x % m) (ns.set j (x / m)) _ (Int.emod_nonneg _ (by omega)) (Int.emod_lt_of_pos _ (by omega)) (S2.put (by rw [List.length_set])) ?_
    have k2 := k1.trans (keep_new (d := d) (c := c) hp (.tup [.int (x / m), .int (x % m)]))
    exact fun b o e n1 n2 => by rw [upd_ne n2]; exact k2 b o e n1 n2
  · have b1 : 0 ≤ x % 2147483629 := Int.emod_nonneg _ (by decide)
    have b2 : x % 2147483629 < 2147483629 := Int.emod_lt_of_pos _ (by decide)
    refine ⟨_, rfl, _, _, rfl, rfl, (by show (0 : Int) < 2147483629; decide), _, rfl, _, rfl, _, _, rfl, rfl, .inl ⟨by omega, by omega⟩, _, _, rfl, rfl, .inr ⟨by decide, by decide⟩, _, _, rfl, rfl, _, _, rfl, rfl, _, _, rfl, rfl, .inr ⟨by decide, by decide⟩, _, _, rfl, rfl, (by show (0 : Int) < 2147483647; decide), ?_⟩
    have c1 := Int.emod_nonneg ((x % 2147483629 + (t + 1) * (t + 1) * 7919 + 11) * 48271) (b := 2147483647) (by decide)
    have c2 := Int.emod_lt_of_pos ((x % 2147483629 + (t + 1) * (t + 1) * 7919 + 11) * 48271) (b := 2147483647) (by decide)
    dsimp only
    generalize ((x % 2147483629 + (t + 1) * (t + 1) * 7919 + 11) * 48271) % 2147483647 = y at c1 c2
    refine ⟨_, rfl, _, rfl, _, _, rfl, rfl, .inl ⟨by omega, by omega⟩, _, _, rfl, rfl, (by show (0 : Int) < 2147483587; decide), ?_⟩
    dsimp only
    generalize y * y % 2147483587 = z
    refine ⟨_, rfl, _, rfl, _, _, rfl, rfl, .inr ⟨by decide, by decide⟩, _, _, rfl, rfl, _, _, rfl, rfl, .inr ⟨by decide, by decide⟩, _, _, rfl, rfl, (by show (0 : Int) < 2147483629; decide), _, _, rfl, rfl, ⟨by decide, by decide⟩, _, rfl, _, _, rfl, rfl, (by omega), ?_⟩
    exact q _ ns _ (Int.emod_nonneg _ (by omega)) (Int.emod_lt_of_pos _ (by omega)) S1 k1
end
end Fw
set_option Elab.async false
set_option linter.all false
set_option maxRecDepth 100000
set_option maxHeartbeats 0
namespace Fw
open PySem L2
section
variable {P : Program} {w : World} {K : PySem.W.Frag} {mg : Str → Option Value} {base : Heap} {f : Addr} {fd : FuncData}
theorem sc_Lsame : FnScope ["_law_found", "_law_due"] ["_law_found", "_law_due"] (defScope s_Lsame) := ⟨rfl, rfl, rfl, by decide +kernel, rfl, by decide +kernel, by decide +kernel⟩
def spS : Nat → Sp
  | 0 => fun _ _ _ _ => False
  | n + 1 => spSame n
theorem ok_Lsame_step {n : Nat} {f_Lsame : Addr} {fd_Lsame : FuncData} (F : Fun K "_law_same" "_law_same" s_Lsame f fd) (G_Lsame : FnOk P w K mg base CX0 n f_Lsame fd_Lsame ["_law_found", "_law_due"] (spS n)) (b_Lsame : Binds K fd_Lsame ["_law_found", "_law_due"] []) (k_Lsame : PySem.W.keepIn K (.ref f_Lsame) = true) (m_Lsame : mg "_law_same" = some (.ref f_Lsame))
    (z_isinstance : mg "isinstance" = none) (z_list : mg "list" = none) (z_tuple : mg "tuple" = none) (z_str : mg "str" = none) (z_int : mg "int" = none) (z_bool : mg "bool" = none) (z_len : mg "len" = none) (z_all : mg "all" = none) (z_zip : mg "zip" = none) : FnOk P w K mg base CX0 (n + 1) f fd ["_law_found", "_law_due"] (spS (n + 1)) := by
  refine F.ok sc_Lsame (fun vs H Q E h => ?_) (fun cdv A outer s H vs Q E hr h => ?_)
  · obtain ⟨x, y, rfl, _⟩ := h
    rfl
  obtain ⟨x, y, rfl, hal, q⟩ := h
  have hr_Lsame : Room n _ := hr
  refine ⟨_, (pss_cons (ps_if (pt_cmp (pc_isN (pv 1))) (pss_one (ps_ret (pe_cmp (pc_isN (pv 0))))) pss_nil) (pss_cons (ps_if (PW.pt (pw_or (pt_val (pe_callB call_isinst rfl z_isinstance bt_isinstance (pa_cons (pv 1) (pa_cons (pe_bltn (v := .ty "list") rfl z_list bt_list rfl) pa_nil)))) (pw_or1 (pt_val (pe_callB call_isinst rfl z_isinstance bt_isinstance (pa_cons (pv 1) (pa_cons (pe_bltn (v := .ty "tuple") rfl z_tuple bt_tuple rfl) pa_nil))))))) (pss_cons (ps_if (pt_cmpR op_ne (pe_callB call_isinst rfl z_isinstance bt_isinstance (pa_cons (pv 0) (pa_cons (pe_bltn (v := .ty "list") rfl z_list bt_list rfl) pa_nil))) (pe_callB call_isinst rfl z_isinstance bt_isinstance (pa_cons (pv 1) (pa_cons (pe_bltn (v := .ty "list") rfl z_list bt_list rfl) pa_nil))) (nomark _)) (pss_one (ps_ret pe_bl)) pss_nil) (pss_cons (ps_if (PW.pt (pw_or (pt_cmpR op_ne (pe_callB call_isinst rfl z_isinstance bt_isinstance (pa_cons (pv 0) (pa_cons (pe_bltn (v := .ty "tuple") rfl z_tuple bt_tuple rfl) pa_nil))) (pe_callB call_isinst rfl z_isinstance bt_isinstance (pa_cons (pv 1) (pa_cons (pe_bltn (v := .ty "tuple") rfl z_tuple bt_tuple rfl) pa_nil))) (nomark _)) (pw_or1 (pt_cmpR op_ne (pe_callB call_len_seq rfl z_len bt_len (pa_cons (pv 0) pa_nil)) (pe_callB call_len_seq rfl z_len bt_len (pa_cons (pv 1) pa_nil)) (nomark _))))) (pss_one (ps_ret pe_bl)) pss_nil) (pss_one (ps_ret (pe_callB (call_all rfl) rfl z_all bt_all (pa_cons (pe_lc rfl (lcs (own := ["_law_one", "_law_other"]) (fv := []) (by kernel_rfl)) (pi_zip rfl z_zip bt_zip (pa_cons (pv 0) (pa_cons (pv 1) pa_nil))) (fun z1 => pg_tupK (K := K) (n := 2) rfl rfl (pgs_cons (pg_name (i := 0) (nd_of (by kernel_rfl)) rfl (Or.inl rfl)) (pgs_cons (pg_name (i := 1) (nd_of (by kernel_rfl)) rfl (Or.inl rfl)) pgs_nil)) rfl rfl) (fun z1 => pts_nil) (fun z1 => (pe_call G_Lsame hr_Lsame rfl m_Lsame k_Lsame b_Lsame .nil pass0 (pa_cons (pv 0) (pa_cons (pv 1) pa_nil))))) pa_nil)))))) pss_nil) (pss_cons (ps_if (pt_val (pe_callB call_isinst rfl z_isinstance bt_isinstance (pa_cons (pv 1) (pa_cons (pe_bltn (v := .ty "str") rfl z_str bt_str rfl) pa_nil)))) (pss_one (ps_ret (pe_and (pe_callB call_isinst rfl z_isinstance bt_isinstance (pa_cons (pv 0) (pa_cons (pe_bltn (v := .ty "str") rfl z_str bt_str rfl) pa_nil))) (pe_one (pe_cmpR op_eq (pv 0) (pv 1) (nomark _)))))) pss_nil) (pss_one (ps_ret (pe_and (pe_callB call_isinst rfl z_isinstance bt_isinstance (pa_cons (pv 0) (pa_cons (pe_bltn (v := .ty "int") rfl z_int bt_int rfl) pa_nil))) (pe_and (pe_not (pe_callB call_isinst rfl z_isinstance bt_isinstance (pa_cons (pv 0) (pa_cons (pe_bltn (v := .ty "bool") rfl z_bool bt_bool rfl) pa_nil)))) (pe_one (pe_cmpR op_eq (pv 0) (pv 1) (nomark _)))))))))), ?_⟩
  try dsimp only [Cx.nox, Cx.wish, cxOf]
  have leaf : x = y ∧ Leaf x ∨ ∃ (m : Nat) (b : Bool) (a c : Addr) (xs ys : List V), n = m + 1 ∧ x = .ref a ∧ y = .ref c ∧ H a = some (seqO b xs) ∧ H c = some (seqO b ys) ∧ xs.length = ys.length ∧ xs.length ≤ 100000 ∧ ∀ (i : Nat) (x' y' : V), xs[i]? = some x' → ys[i]? = some y' → Alike H m x' y' := by
    cases n with
    | zero => exact .inl hal
    | succ m =>
      rcases hal with h | ⟨b, a, c, xs, ys, h⟩
      · exact .inl h
      · exact .inr ⟨m, b, a, c, xs, ys, rfl, h⟩
  rcases leaf with ⟨rfl, hl⟩ | ⟨m, b, a, c, xs, ys, rfl, rfl, rfl, ha, hc, hlen, hbd, hel⟩
  · refine ⟨_, rfl, _, rfl, ?_⟩
    rcases hl with rfl | ⟨i, rfl⟩ | ⟨y, rfl⟩
    · exact ⟨_, rfl, q H (Same.refl H)⟩
    · refine ⟨_, rfl, _, "list", _, false, rfl, TyOf.int i, kit_il, _, rfl, ?_⟩
      refine ⟨_, rfl, _, "tuple", _, false, rfl, TyOf.int i, kit_it, _, rfl, ?_⟩
      refine ⟨_, rfl, _, "str", _, false, rfl, TyOf.int i, kit_is, _, rfl, ?_⟩
      refine ⟨_, rfl, _, "int", _, true, rfl, TyOf.int i, kit_ii, _, rfl, ?_⟩
      refine ⟨_, rfl, _, "bool", _, false, rfl, TyOf.int i, kit_ib, _, rfl, _, rfl, ?_⟩
      refine ⟨_, rfl, _, rfl, rfl, ?_⟩
      have e : decide (V.int i = V.int i) = true := decide_eq_true rfl
      have q' : Q (.bl (decide (V.int i = V.int i))) H := by rw [e]; exact q H (Same.refl H)
      exact q'
    · refine ⟨_, rfl, _, "list", _, false, rfl, TyOf.str y, kit_sl, _, rfl, ?_⟩
      refine ⟨_, rfl, _, "tuple", _, false, rfl, TyOf.str y, kit_st, _, rfl, ?_⟩
      refine ⟨_, rfl, _, "str", _, true, rfl, TyOf.str y, kit_ss, _, rfl, ?_⟩
      refine ⟨_, rfl, _, "str", _, true, rfl, TyOf.str y, kit_ss, _, rfl, ?_⟩
      refine ⟨_, rfl, _, rfl, rfl, ?_⟩
      have e : decide (V.str y = V.str y) = true := decide_eq_true rfl
      have q' : Q (.bl (decide (V.str y = V.str y))) H := by rw [e]; exact q H (Same.refl H)
      exact q'
  · have step : ∀ (i : Nat) (x' y' : V) (Hi : Hp) (Q' : VK) (E' : XK), Same H Hi → xs[i]? = some x' → ys[i]? = some y' → (∀ H', Same Hi H' → Q' (.bl true) H') → spS (m + 1) [x', y'] Hi Q' E' := fun i x' y' Hi Q' E' s e1 e2 k => ⟨x', y', rfl, (hel i x' y' e1 e2).same s, k⟩
    have fin : ∀ (H1 : Hp), Same H H1 → Q (.bl true) H1 := q
    have el : (!decide (V.int ((xs.length : Nat) : Int) = V.int ((ys.length : Nat) : Int))) = false := by rw [hlen]; simp
    cases b
    · refine ⟨_, rfl, _, rfl, _, rfl, _, "list", _, true, rfl, ty_of hc, kit_bl false, _, rfl, ?_⟩
      refine ⟨_, rfl, _, "list", _, true, rfl, ty_of ha, kit_bl false, _, rfl, _, "list", _, true, rfl, ty_of hc, kit_bl false, rfl, _, rfl, ?_⟩
      refine ⟨_, rfl, _, "tuple", _, false, rfl, ty_of ha, kit_bt false, _, rfl, _, "tuple", _, false, rfl, ty_of hc, kit_bt false, rfl, _, rfl, ?_⟩
      refine ⟨_, rfl, a, _, rfl, .inl (SqL.of ha), _, rfl, c, _, rfl, .inl (SqL.of hc), rfl, ?_⟩
      rw [el]
      refine ⟨_, rfl, _, rfl, _, rfl, false, a, c, rfl, ⟨_, SqB.of ha⟩, ⟨_, SqB.of hc⟩, fun p hp => ?_⟩
      refine lc_zip (b := false) (p := p) (xs := xs) (ys := ys) hlen (fun i σ Hi => ∃ (v0 v1 : Option V), σ = [v0, v1] ∧ Same H Hi ∧ Hi p = some (.lst ((List.replicate i true).map V.bl))) ⟨none, none, rfl, same_new hp _, upd_same⟩ (fun i σ Hi _ ⟨_, _, _, sm, _⟩ => ⟨SqB.of (sm _ _ ha), SqB.of (sm _ _ hc)⟩) ?_ ?_
      · refine fun i x' y' σ Hi T ex ey hI_1 hT => opq fun G_1 hG_1 => ?_
        obtain ⟨v0, v1, rfl, sm, hpi⟩ := hI_1
        refine hG_1 ?_
        have li : i < xs.length := (List.getElem?_eq_some_iff.mp ex).1
        refine ⟨T, _, rfl, SqT.of upd_same, rfl, _, _, rfl, _, _, rfl, rfl, ?_⟩
        have s1 := sm.trans (same_new hT (.tup [x', y']))
        refine ⟨_, rfl, _, rfl, ?_⟩
        dsimp only [tNil, List.cons_append, List.nil_append]
        refine step i x' y' _ _ _ s1 ex ey fun H' sm' => ?_
        refine ⟨_, (sm' _ _ ((same_new hT _) _ _ hpi)), ?_, _, _, rfl, (fun b u e => by rw [upd_ne (ne_of_none e hp)]; exact (s1.trans sm') b u e), ?_⟩
        · rw [List.length_map, List.length_replicate, sizeLine_eq]; omega
        · rw [upd_same, bl_snoc]
      · refine fun σ Hi hI_2 => opq fun G_2 hG_2 => ?_
        obtain ⟨v0, v1, rfl, sm, hpi⟩ := hI_2
        refine hG_2 ?_
        refine ⟨p, _, rfl, SqL.of hpi, ?_⟩
        rw [all_rep]
        exact q Hi sm
    · refine ⟨_, rfl, _, rfl, _, rfl, _, "list", _, false, rfl, ty_of hc, kit_bl true, _, rfl, ?_⟩
      refine ⟨_, rfl, _, "tuple", _, true, rfl, ty_of hc, kit_bt true, _, rfl, ?_⟩
      refine ⟨_, rfl, _, "list", _, false, rfl, ty_of ha, kit_bl true, _, rfl, _, "list", _, false, rfl, ty_of hc, kit_bl true, rfl, _, rfl, ?_⟩
      refine ⟨_, rfl, _, "tuple", _, true, rfl, ty_of ha, kit_bt true, _, rfl, _, "tuple", _, true, rfl, ty_of hc, kit_bt true, rfl, _, rfl, ?_⟩
      refine ⟨_, rfl, a, _, rfl, .inr (SqT.of ha), _, rfl, c, _, rfl, .inr (SqT.of hc), rfl, ?_⟩
      rw [el]
      refine ⟨_, rfl, _, rfl, _, rfl, true, a, c, rfl, ⟨_, SqB.of ha⟩, ⟨_, SqB.of hc⟩, fun p hp => ?_⟩
      refine lc_zip (b := true) (p := p) (xs := xs) (ys := ys) hlen (fun i σ Hi => ∃ (v0 v1 : Option V), σ = [v0, v1] ∧ Same H Hi ∧ Hi p = some (.lst ((List.replicate i true).map V.bl))) ⟨none, none, rfl, same_new hp _, upd_same⟩ (fun i σ Hi _ ⟨_, _, _, sm, _⟩ => ⟨SqB.of (sm _ _ ha), SqB.of (sm _ _ hc)⟩) ?_ ?_
      · refine fun i x' y' σ Hi T ex ey hI_3 hT => opq fun G_3 hG_3 => ?_
        obtain ⟨v0, v1, rfl, sm, hpi⟩ := hI_3
        refine hG_3 ?_
        have li : i < xs.length := (List.getElem?_eq_some_iff.mp ex).1
        refine ⟨T, _, rfl, SqT.of upd_same, rfl, _, _, rfl, _, _, rfl, rfl, ?_⟩
        have s1 := sm.trans (same_new hT (.tup [x', y']))
        refine ⟨_, rfl, _, rfl, ?_⟩
        dsimp only [tNil, List.cons_append, List.nil_append]
        refine step i x' y' _ _ _ s1 ex ey fun H' sm' => ?_
        refine ⟨_, (sm' _ _ ((same_new hT _) _ _ hpi)), ?_, _, _, rfl, (fun b u e => by rw [upd_ne (ne_of_none e hp)]; exact (s1.trans sm') b u e), ?_⟩
        · rw [List.length_map, List.length_replicate, sizeLine_eq]; omega
        · rw [upd_same, bl_snoc]
      · refine fun σ Hi hI_4 => opq fun G_4 hG_4 => ?_
        obtain ⟨v0, v1, rfl, sm, hpi⟩ := hI_4
        refine hG_4 ?_
        refine ⟨p, _, rfl, SqL.of hpi, ?_⟩
        rw [all_rep]
        exact q Hi sm
theorem ok_Lsame (F : Fun K "_law_same" "_law_same" s_Lsame f fd) (b_Lsame : Binds K fd ["_law_found", "_law_due"] []) (k_Lsame : PySem.W.keepIn K (.ref f) = true) (m_Lsame : mg "_law_same" = some (.ref f))
    (z_isinstance : mg "isinstance" = none) (z_list : mg "list" = none) (z_tuple : mg "tuple" = none) (z_str : mg "str" = none) (z_int : mg "int" = none) (z_bool : mg "bool" = none) (z_len : mg "len" = none) (z_all : mg "all" = none) (z_zip : mg "zip" = none) (n : Nat) : FnOk P w K mg base CX0 n f fd ["_law_found", "_law_due"] (spS n) := by
  induction n with
  | zero => exact ⟨fun _ _ _ _ h => h.elim, fun _ _ _ _ _ _ _ _ _ _ _ _ _ h => h.elim⟩
  | succ n ih => exact ok_Lsame_step F ih b_Lsame k_Lsame m_Lsame z_isinstance z_list z_tuple z_str z_int z_bool z_len z_all z_zip
end
end Fw
set_option Elab.async false
set_option linter.all false
set_option maxRecDepth 100000
set_option maxHeartbeats 0
namespace Fw
open PySem L2
section
variable {P : Program} {w : World} {K : PySem.W.Frag} {mg : Str → Option Value} {base : Heap} {f : Addr} {fd : FuncData} {c_WITH_COST : Addr} {f_cost_of : Addr} {fd_cost_of : FuncData}
theorem sc_cost_of : FnScope ["move", "costs"] ["move", "costs"] (defScope s_cost_of) := ⟨rfl, rfl, rfl, by decide +kernel, rfl, by decide +kernel, by decide +kernel⟩
theorem ok_cost_of (F : Fun K "cost_of" "cost_of" s_cost_of f fd) (tp_WITH_COST : ∀ H, SqT K H c_WITH_COST [.str "do", .str "put", .str "fetch"]) (ty_WITH_COST : ∃ o : Obj, K.lookup c_WITH_COST = some o ∧ o.cls = .type "tuple" ∧ o.dict = none) (m_WITH_COST : mg "WITH_COST" = some (.ref c_WITH_COST)) : FnOk P w K mg base CX0 1 f fd ["move", "costs"] spCost := by
  refine F.ok sc_cost_of (fun vs H Q E h => ?_) (fun cdv A outer s H vs Q E hr h => ?_)
  · obtain ⟨mv, t, word, wk, c0, c1, c2, rfl, _⟩ := h
    rfl
  obtain ⟨mv, t, word, wk, c0, c1, c2, rfl, hm, ht, hw, q⟩ := h
  refine ⟨_, (pss_cons (ps_if (pt_cmpR op_eq (pe_ix ix_tup (pv 0) pe_int (fun _ _ => rfl)) pe_str (nomark _)) (pss_one (ps_ret pe_int)) pss_nil) (pss_one (ps_ret (pe_ix ix_tup (pv 1) (pe_bm PySem.F.plainAttrs_tuple PySem.F.slot_tuple_index PySem.F.type_tuple_index mt_indexT (pe_glob (v := .ref c_WITH_COST) rfl m_WITH_COST rfl) (pa_cons (pe_ix ix_tup (pv 0) pe_int (fun _ _ => rfl)) pa_nil)) (fun _ _ => rfl))))), ?_⟩
  try dsimp only [Cx.nox, Cx.wish, cxOf]
  refine ⟨_, rfl, mv, _, _, _, rfl, rfl, SqT.of hm, rfl, rfl, _, rfl, ?_⟩
  unfold costOf at q
  dsimp only at q
  refine ite2 (fun ck => ?_) (fun ck => ?_)
  · have hd : word = "clear" := V.str.inj (of_decide_eq_true ck)
    rw [if_pos hd] at q
    exact q
  · have hd : ¬ word = "clear" := fun e => ck (decide_eq_true (congrArg V.str e))
    rw [if_neg hd] at q
    obtain ⟨j, v, hj, hn, hat, qq⟩ : ∃ (j : Nat) (v : V), ([Str.ofString "do", Str.ofString "put", Str.ofString "fetch"])[j]? = some word ∧ (∀ i, i < j → ([Str.ofString "do", Str.ofString "put", Str.ofString "fetch"])[i]? ≠ some word) ∧ atI [.int c0, .int c1, .int c2] (j : Int) = some v ∧ Q v H := by
      rcases hw with z | z | z | z
      · rw [if_pos z] at q
        exact ⟨0, _, by rw [z]; rfl, fun i hi => absurd hi (Nat.not_lt_zero _), rfl, q⟩
      · exact absurd z hd
      · rw [if_neg (by rw [z]; exact w_pd), if_pos z] at q
        refine ⟨1, _, by rw [z]; rfl, fun i hi => ?_, rfl, q⟩
        obtain rfl : i = 0 := by omega
        rw [z]
        exact fun e => w_dp (Option.some.inj e)
      · rw [if_neg (by rw [z]; exact w_fd), if_neg (by rw [z]; exact w_fp)] at q
        refine ⟨2, _, by rw [z]; rfl, fun i hi => ?_, rfl, q⟩
        rw [z]
        rcases (by omega : i = 0 ∨ i = 1) with rfl | rfl
        · exact fun e => w_df (Option.some.inj e)
        · exact fun e => w_pf (Option.some.inj e)
    exact ⟨_, rfl, .inr (.inl ⟨rfl, ty_WITH_COST⟩), _, rfl, mv, _, _, _, rfl, rfl, SqT.of hm, rfl, c_WITH_COST, [Str.ofString "do", Str.ofString "put", Str.ofString "fetch"], word, j, rfl, rfl, tp_WITH_COST H, hj, hn, t, _, _, _, rfl, rfl, SqT.of ht, hat, qq⟩
theorem sc_far_cost : FnScope ["moves", "costs"] ["moves", "costs"] (defScope s_far_cost) := ⟨rfl, rfl, rfl, by decide +kernel, rfl, by decide +kernel, by decide +kernel⟩
theorem ok_far_cost (F : Fun K "far_cost" "far_cost" s_far_cost f fd) (G_cost_of : FnOk P w K mg base CX0 1 f_cost_of fd_cost_of ["move", "costs"] spCost) (b_cost_of : Binds K fd_cost_of ["move", "costs"] []) (k_cost_of : PySem.W.keepIn K (.ref f_cost_of) = true) (m_cost_of : mg "cost_of" = some (.ref f_cost_of)) (z_sum : mg "sum" = none) : FnOk P w K mg base CX0 2 f fd ["moves", "costs"] spFarCost := by
  refine F.ok sc_far_cost (fun vs H Q E h => ?_) (fun cdv A outer s H vs Q E hr h => ?_)
  · obtain ⟨l, t, ms, c0, c1, c2, rfl, _⟩ := h
    rfl
  obtain ⟨l, t, ms, c0, c1, c2, rfl, ⟨rs, hl, M⟩, hw, l10, ht, q⟩ := h
  have hr_cost_of : Room 1 _ := hr.mono (by decide)
  refine ⟨_, (pss_one (ps_ret (pe_callB (call_sum rfl) rfl z_sum bt_sum (pa_cons (pe_lc rfl (lcs (own := ["move"]) (fv := [1]) (by kernel_rfl)) (pi_list (pv 0)) (fun z1 => pg_name (i := 0) (nd_of (by kernel_rfl)) rfl (Or.inl rfl)) (fun z1 => pts_nil) (fun z1 => (pe_call G_cost_of hr_cost_of rfl m_cost_of k_cost_of b_cost_of .nil pass0 (pa_cons (pv 0) (pa_cons (pv 1) pa_nil))))) pa_nil)))), ?_⟩
  try dsimp only [Cx.nox, Cx.wish, cxOf]
  have lrs := Paired.length M
  refine ⟨_, rfl, l, rfl, ⟨_, SqL.of hl⟩, fun p hp => ?_⟩
  refine lc_list (p := p) (a := l) (xs := rs.map V.ref) (fun i σ Hc => ∃ (v : Option V), σ = [v, some (.ref t)] ∧ Same H Hc ∧ Hc p = some (.lst (((ms.take i).map (costOf c0 c1 c2)).map V.int))) ?_ ?_ ?_ ?_
  · exact ⟨none, rfl, same_new hp _, upd_same⟩
  · rintro i σ Hc hi ⟨v, rfl, sm, _⟩
    exact SqL.of (sm _ _ hl)
  · refine fun i x σ Hc hx hI_2 => opq fun G_2 hG_2 => ?_
    obtain ⟨v, rfl, sm, hpc⟩ := hI_2
    obtain ⟨mv, hmv, rfl⟩ := get_ref hx
    obtain ⟨⟨word, wk⟩, hm, hH⟩ := paired_get M hmv
    refine hG_2 ?_
    have hi := (List.getElem?_eq_some_iff.mp hm).1
    refine ⟨_, rfl, _, rfl, mv, t, word, wk, c0, c1, c2, rfl, sm _ _ hH, sm _ _ ht, hw _ (List.mem_of_getElem? hm), ?_⟩
    refine ⟨_, hpc, small_n (by rw [List.length_map, List.length_map, List.length_take]; omega), _, rfl, same_put sm hp, ?_⟩
    rw [upd_same, List.take_add_one, hm, Option.toList_some, List.map_append, List.map_append]
    rfl
  · refine fun σ Hc hI_3 => opq fun G_3 hG_3 => ?_
    obtain ⟨v, rfl, sm, hpc⟩ := hI_3
    refine hG_3 ?_
    rw [List.length_map, lrs, List.take_length] at hpc
    exact ⟨p, _, rfl, SqL.of hpc, q Hc sm⟩
end
end Fw
set_option Elab.async false
set_option linter.all false
set_option maxRecDepth 100000
set_option maxHeartbeats 0
namespace Fw
open PySem L2
section
variable {P : Program} {w : World} {K : PySem.W.Frag} {mg : Str → Option Value} {base : Heap} {f : Addr} {fd : FuncData} {f_Ltake : Addr} {fd_Ltake : FuncData}
theorem pick10 {k : Int} (h0 : 0 ≤ k) (h1 : k < 4) : ∃ m : Int, atI [V.int 3, V.int 3, V.int 10, V.int 100] k = some (.int m) ∧ 1 ≤ m ∧ m ≤ 100 := by
  rcases (by omega : k = 0 ∨ k = 1 ∨ k = 2 ∨ k = 3) with rfl | rfl | rfl | rfl
  · exact ⟨_, rfl, by decide, by decide⟩
  · exact ⟨_, rfl, by decide, by decide⟩
  · exact ⟨_, rfl, by decide, by decide⟩
  · exact ⟨_, rfl, by decide, by decide⟩
theorem pick31 (b : Bool) : ∃ m : Int, atI [V.int 31, V.int 401] (if b then 1 else 0) = some (.int m) ∧ 1 ≤ m ∧ m ≤ 401 := by
  cases b
  · exact ⟨_, rfl, by decide, by decide⟩
  · exact ⟨_, rfl, by decide, by decide⟩
theorem pickW {k : Int} (h0 : 0 ≤ k) (h1 : k < 4) : ∃ v : Str, atI [V.str "do", V.str "clear", V.str "put", V.str "fetch"] k = some (.str v) ∧ W4 v := by
  rcases (by omega : k = 0 ∨ k = 1 ∨ k = 2 ∨ k = 3) with rfl | rfl | rfl | rfl
  · exact ⟨_, rfl, .inl rfl⟩
  · exact ⟨_, rfl, .inr (.inl rfl)⟩
  · exact ⟨_, rfl, .inr (.inr (.inl rfl))⟩
  · exact ⟨_, rfl, .inr (.inr (.inr rfl))⟩
theorem sc_Lcosts : FnScope ["_law_state", "_law_most"] ["_law_state"] (defScope s_Lcosts) := ⟨rfl, rfl, rfl, by decide +kernel, rfl, by decide +kernel, by decide +kernel⟩
theorem ok_Lcosts (F : Fun K "_law_costs" "_law_costs" s_Lcosts f fd) (G_Ltake : FnOk P w K mg base CX0 1 f_Ltake fd_Ltake ["_law_state", "_law_many"] spTake) (b_Ltake : Binds K fd_Ltake ["_law_state", "_law_many"] []) (k_Ltake : PySem.W.keepIn K (.ref f_Ltake) = true) (m_Ltake : mg "_law_take" = some (.ref f_Ltake)) (z_range : mg "range" = none) (z_tuple : mg "tuple" = none) : FnOk P w K mg base CX0 2 f fd ["_law_state"] spCosts := by
  refine F.ok sc_Lcosts (fun vs H Q E h => ?_) (fun cdv A outer s H vs Q E hr h => ?_)
  · obtain ⟨d, c, t, ns, rfl, _⟩ := h
    rfl
  obtain ⟨d, c, t, ns, rfl, S, ht, q⟩ := h
  have ht' : t ≤ 1000000000 - 100 := ht
  have hr_Ltake : Room 1 _ := hr.mono (by decide)
  refine ⟨_, (pss_cons (ps_set (i := 1) sc_Lcosts.nd rfl (Or.inr rfl) (pe_ix ix_list (pe_lst (pa_cons pe_int (pa_cons pe_int (pa_cons pe_int (pa_cons pe_int pa_nil))))) (pe_call G_Ltake hr_Ltake rfl m_Ltake k_Ltake b_Ltake .nil pass0 (pa_cons (pv 0) (pa_cons pe_int pa_nil))) (fun _ _ => rfl))) (pss_one (ps_ret (pe_callTy call_tuple_of rfl z_tuple bt_tuple (pa_cons (pe_lc rfl (lcs (own := ["_law_k"]) (fv := [0, 1]) (by kernel_rfl)) (pi_range1 rfl z_range (pa_cons pe_int pa_nil)) (fun z1 => pg_name (i := 0) (nd_of (by kernel_rfl)) rfl (Or.inl rfl)) (fun z1 => pts_nil) (fun z1 => (pe_call G_Ltake hr_Ltake rfl m_Ltake k_Ltake b_Ltake .nil pass0 (pa_cons (pv 1) (pa_cons (pv 2) pa_nil))))) pa_nil))))), ?_⟩
  try dsimp only [Cx.nox, Cx.wish, cxOf]
  refine ⟨(by show 4 ≤ sizeLine; decide), fun p0 hp0 => ?_⟩
  have s0 := same_new hp0 (.lst [.int 3, .int 3, .int 10, .int 100])
  have S0 := S.same s0
  have n0 : p0 ≠ d ∧ p0 ≠ c := ⟨(ne_of_none S.dict hp0).symm, (ne_of_none S.list hp0).symm⟩
  refine ⟨_, rfl, d, c, t, ns, 4, rfl, S0, (by show t ≤ 1000000000; omega), by decide, by decide, fun k1 ns1 H1 a0 a1 S1 K1 => ?_⟩
  obtain ⟨m, hm, m1, m100⟩ := pick10 a0 a1
  refine ⟨p0, _, _, _, rfl, rfl, SqL.of (K1 _ _ upd_same n0.1 n0.2), hm, ?_⟩
  have K01 : Keep d c H H1 := (Keep.of_same s0).trans K1
  clear hm K1 n0 S0 s0 hp0
  refine ⟨3, rfl, by decide, by decide, fun p hp => ?_⟩
  have np : p ≠ d ∧ p ≠ c := ⟨(ne_of_none S1.dict hp).symm, (ne_of_none S1.list hp).symm⟩
  refine lc_range (p := p) (lo := 0) (n := 3) (fun i σ Hc => ∃ (v : Option V) (fs ns' : List Int), σ = [v, some (.ref d), some (.int m)] ∧ StAt Hc d c (t + 1 + i) ns' ∧ Keep d c H1 Hc ∧ Hc p = some (.lst (fs.map V.int)) ∧ fs.length = i ∧ ∀ x ∈ fs, 0 ≤ x ∧ x < 100) ?_ ?_ ?_
  · exact ⟨none, [], ns1, rfl, by have := S1.same (same_new hp (.lst [])); simpa using this, keep_new hp _, upd_same, rfl, fun _ z => nomatch z⟩
  · refine fun i σ Hc hi hI_1 => opq fun G_1 hG_1 => ?_
    obtain ⟨v, fs, ns', rfl, S3, K3, gp, lf, inf⟩ := hI_1
    refine hG_1 ?_
    refine ⟨_, rfl, _, rfl, d, c, t + 1 + i, ns', m, rfl, S3, (by show t + 1 + (i : Int) ≤ 1000000000; omega), m1, by omega, fun x ns4 H4 w0 w1 S4 K4 => ?_⟩
    have gp4 := K4 _ _ gp np.1 np.2
    refine ⟨_, gp4, small_n (by rw [List.length_map]; omega), _, fs ++ [x], ns4, rfl, ?_, keep_put (K3.trans K4) hp, ?_, by rw [List.length_append, List.length_singleton]; omega, fun y hy => ?_⟩
    · have e : t + 1 + (i : Int) + 1 = t + 1 + ((i + 1 : Nat) : Int) := by omega
      rw [e] at S4
      exact ⟨by rw [upd_ne np.1.symm]; exact S4.dict, by rw [upd_ne np.2.symm]; exact S4.list, S4.ne, S4.len, S4.pos⟩
    · rw [upd_same, List.map_append]; rfl
    · rcases List.mem_append.mp hy with hy | hy
      · exact inf y hy
      · rw [List.mem_singleton.mp hy]; omega
  · refine fun σ Hc hI_2 => opq fun G_2 hG_2 => ?_
    obtain ⟨v, fs, ns', rfl, S3, K3, gp, lf, inf⟩ := hI_2
    refine hG_2 ?_
    match fs, lf, inf, gp with
    | [x0, x1, x2], _, inf, gp =>
      refine ⟨p, _, rfl, .inl ⟨SqL.of gp, fun r hr => ?_⟩⟩
      have sr := same_new hr (.tup [.int x0, .int x1, .int x2])
      have S5 := S3.same sr
      have e : t + 1 + ((3 : Nat) : Int) = t + 4 := by omega
      rw [e] at S5
      exact q r x0 x1 x2 ns' _ S5 ((K01.trans K3).trans (.of_same sr)) upd_same (inf x0 (by simp)) (inf x1 (by simp)) (inf x2 (by simp))
theorem sc_Lmoves : FnScope ["_law_state", "_law_many", "_law_kinds"] ["_law_state"] (defScope s_Lmoves) := ⟨rfl, rfl, rfl, by decide +kernel, rfl, by decide +kernel, by decide +kernel⟩
theorem ok_Lmoves (F : Fun K "_law_moves" "_law_moves" s_Lmoves f fd) (G_Ltake : FnOk P w K mg base CX0 1 f_Ltake fd_Ltake ["_law_state", "_law_many"] spTake) (b_Ltake : Binds K fd_Ltake ["_law_state", "_law_many"] []) (k_Ltake : PySem.W.keepIn K (.ref f_Ltake) = true) (m_Ltake : mg "_law_take" = some (.ref f_Ltake)) (z_range : mg "range" = none) (z_int : mg "int" = none) : FnOk P w K mg base CX0 2 f fd ["_law_state"] spFMoves := by
  refine F.ok sc_Lmoves (fun vs H Q E h => ?_) (fun cdv A outer s H vs Q E hr h => ?_)
  · obtain ⟨d, c, t, ns, rfl, _⟩ := h
    rfl
  obtain ⟨d, c, t, ns, rfl, S, ht, q⟩ := h
  have ht' : t ≤ 1000000000 - 10000 := ht
  have hr_Ltake : Room 1 _ := hr.mono (by decide)
  refine ⟨_, (pss_cons (ps_set (i := 1) sc_Lmoves.nd rfl (Or.inl rfl) (pe_call G_Ltake hr_Ltake rfl m_Ltake k_Ltake b_Ltake .nil pass0 (pa_cons (pv 0) (pa_cons (pe_ix ix_list (pe_lst (pa_cons pe_int (pa_cons pe_int pa_nil))) (pe_callTy call_int1 rfl z_int bt_int (pa_cons (pe_cmpR op_eq (pe_call G_Ltake hr_Ltake rfl m_Ltake k_Ltake b_Ltake .nil pass0 (pa_cons (pv 0) (pa_cons pe_int pa_nil))) pe_int (nomark _)) pa_nil)) (fun _ _ => rfl)) pa_nil)))) (pss_cons (ps_set (i := 2) sc_Lmoves.nd rfl (Or.inr rfl) (pe_lst (pa_cons pe_str (pa_cons pe_str (pa_cons pe_str (pa_cons pe_str pa_nil)))))) (pss_one (ps_ret (pe_lc rfl (lcs (own := ["_law_k"]) (fv := [2, 0]) (by kernel_rfl)) (pi_range1 rfl z_range (pa_cons (pv 1) pa_nil)) (fun z2 => pg_name (i := 0) (nd_of (by kernel_rfl)) rfl (Or.inl rfl)) (fun z2 => pts_nil) (fun z2 => (pe_tup (pa_cons (pe_ix (ix_listK (K := K) rfl) (pv 1) (pe_call G_Ltake hr_Ltake rfl m_Ltake k_Ltake b_Ltake .nil pass0 (pa_cons (pv 2) (pa_cons pe_int pa_nil))) (fun _ _ => rfl)) (pa_cons (pe_call G_Ltake hr_Ltake rfl m_Ltake k_Ltake b_Ltake .nil pass0 (pa_cons (pv 2) (pa_cons pe_int pa_nil))) pa_nil))))))))), ?_⟩
  try dsimp only [Cx.nox, Cx.wish, cxOf]
  refine ⟨_, rfl, (by show 2 ≤ sizeLine; decide), fun p0 hp0 => ?_⟩
  have s0 := same_new hp0 (.lst [.int 31, .int 401])
  have S0 := S.same s0
  have n0 : p0 ≠ d ∧ p0 ≠ c := ⟨(ne_of_none S.dict hp0).symm, (ne_of_none S.list hp0).symm⟩
  refine ⟨_, rfl, d, c, t, ns, 8, rfl, S0, (by show t ≤ 1000000000; omega), by decide, by decide, fun k1 ns1 H1 a0 a1 S1 K1 => ⟨rfl, .inr ⟨_, rfl, ?_⟩⟩⟩
  obtain ⟨m, hm, m1, m401⟩ := pick31 (decide (V.int k1 = V.int 0))
  refine ⟨p0, _, _, _, rfl, rfl, SqL.of (K1 _ _ upd_same n0.1 n0.2), hm, ?_⟩
  refine ⟨d, c, t + 1, ns1, m, rfl, S1, (by show t + 1 ≤ 1000000000; omega), m1, by omega, fun many ns2 H2 b0 b1 S2 K2 => ?_⟩
  have K02 : Keep d c H H2 := ((Keep.of_same s0).trans K1).trans K2
  clear hm K1 n0 S0 s0 hp0 K2 S1
  refine ⟨(by show 4 ≤ sizeLine; decide), fun lk hlk => ?_⟩
  have sk := same_new hlk (.lst [.str "do", .str "clear", .str "put", .str "fetch"])
  have gk : (upd H2 lk (.lst [.str "do", .str "clear", .str "put", .str "fetch"])) lk = some (.lst [.str "do", .str "clear", .str "put", .str "fetch"]) := upd_same
  have nk : lk ≠ d ∧ lk ≠ c := ⟨(ne_of_none S2.dict hlk).symm, (ne_of_none S2.list hlk).symm⟩
  have S3 := S2.same sk
  generalize upd H2 lk (.lst [.str "do", .str "clear", .str "put", .str "fetch"]) = H3 at sk gk S3 ⊢
  have K03 := K02.trans (.of_same sk)
  refine ⟨_, rfl, _, rfl, by omega, by omega, fun p hp => ?_⟩
  have np : p ≠ d ∧ p ≠ c := ⟨(ne_of_none S3.dict hp).symm, (ne_of_none S3.list hp).symm⟩
  refine lc_range (p := p) (lo := 0) (n := many.toNat) (fun i σ Hc => ∃ (v : Option V) (ms : List Mv) (ns' : List Int), σ = [v, some (.ref lk), some (.ref d)] ∧ StAt Hc d c (t + 2 + 2 * i) ns' ∧ Keep d c H3 Hc ∧ PlanAt Hc p ms ∧ MvW ms ∧ ms.length = i) ?_ ?_ ?_
  · refine ⟨none, [], ns2, rfl, ?_, keep_new hp _, ⟨[], upd_same, .nil⟩, fun _ z => (nomatch z), rfl⟩
    have := S3.same (same_new hp (.lst []))
    have e : t + 1 + 1 = t + 2 + 2 * ((0 : Nat) : Int) := by omega
    rw [e] at this
    exact this
  · refine fun i σ Hc hi hI_3 => opq fun G_3 hG_3 => ?_
    obtain ⟨v, ms, ns', rfl, S4, K4, hP, hw, lm⟩ := hI_3
    refine hG_3 ?_
    refine ⟨_, rfl, _, rfl, d, c, t + 2 + 2 * i, ns', 4, rfl, S4, (by show t + 2 + 2 * (i : Int) ≤ 1000000000; omega), by decide, by decide, fun kw ns5 H5 w0 w1 S5 K5 => ?_⟩
    obtain ⟨word, hwd, hw4⟩ := pickW w0 w1
    have gk5 := K5 _ _ (K4 _ _ gk nk.1 nk.2) nk.1 nk.2
    refine ⟨lk, _, _, _, rfl, rfl, SqL.of gk5, hwd, ?_⟩
    refine ⟨_, rfl, d, c, t + 2 + 2 * i + 1, ns5, 6, rfl, S5, (by show t + 2 + 2 * (i : Int) + 1 ≤ 1000000000; omega), by decide, by decide, fun wk ns6 H6 x0 x1 S6 K6 => ⟨(by show 2 ≤ sizeLine; decide), fun T hT => ?_⟩⟩
    have sT := same_new hT (.tup [.str word, .int wk])
    have hP6 : PlanAt H6 p ms := ((hP.keep S4 K5 np.1 np.2).keep S5 K6 np.1 np.2)
    have hP7 := hP6.same sT
    have gT : (upd H6 T (.tup [.str word, .int wk])) T = some (.tup [.str word, .int wk]) := upd_same
    have S7 := S6.same sT
    have K7 : Keep d c H3 (upd H6 T (.tup [.str word, .int wk])) := ((K4.trans K5).trans K6).trans (.of_same sT)
    generalize upd H6 T (.tup [.str word, .int wk]) = H7 at gT hP7 S7 K7 ⊢
    obtain ⟨rs, hl, M⟩ := hP7
    refine ⟨_, hl, small_n (by rw [List.length_map, Paired.length M]; omega), _, ms ++ [(word, wk)], ns6, rfl, ?_, keep_put K7 hp, ?_, fun y hy => ?_, by rw [List.length_append, List.length_singleton]; omega⟩
    · have e : t + 2 + 2 * (i : Int) + 1 + 1 = t + 2 + 2 * ((i + 1 : Nat) : Int) := by omega
      rw [e] at S7
      exact ⟨by rw [upd_ne np.1.symm]; exact S7.dict, by rw [upd_ne np.2.symm]; exact S7.list, S7.ne, S7.len, S7.pos⟩
    · rw [map_snoc]
      exact ⟨rs ++ [T], upd_same, (MovL.snoc M gT).put hl⟩
    · rcases List.mem_append.mp hy with hy | hy
      · exact hw y hy
      · rw [List.mem_singleton.mp hy]; exact hw4
  · refine fun σ Hc hI_4 => opq fun G_4 hG_4 => ?_
    obtain ⟨v, ms, ns', rfl, S4, K4, hP, hw, lm⟩ := hI_4
    refine hG_4 ?_
    exact q p ms _ ns' Hc S4 (by omega) (by omega) (K03.trans K4) np.2 hP hw (by omega)
end
end Fw
set_option Elab.async false
set_option linter.all false
set_option maxRecDepth 100000
set_option maxHeartbeats 0
namespace Fw
open PySem L2
section
variable {P : Program} {w : World} {K : PySem.W.Frag} {mg : Str → Option Value} {base : Heap} {f : Addr} {fd : FuncData} {f_Lbegin f_Lcosts f_Lmoves f_far_cost f_Lsame : Addr} {fd_Lbegin fd_Lcosts fd_Lmoves fd_far_cost fd_Lsame : FuncData}
theorem sc_law : FnScope ["_law_script", "_law_state", "_law_ahead", "_law_turn", "_law_costs_here", "_law_moves_here", "_law_handed", "_law_due", "_law_kind", "_law_cost"] ["_law_script"] (defScope s_law) := ⟨rfl, rfl, rfl, by decide +kernel, rfl, by decide +kernel, by decide +kernel⟩
theorem ok_law (F : Fun K "law" "law" s_law f fd) (G_Lbegin : FnOk P w K mg base CX0 1 f_Lbegin fd_Lbegin ["_law_script"] (spBegin K)) (b_Lbegin : Binds K fd_Lbegin ["_law_script"] []) (k_Lbegin : PySem.W.keepIn K (.ref f_Lbegin) = true) (m_Lbegin : mg "_law_begin" = some (.ref f_Lbegin)) (G_Lcosts : FnOk P w K mg base CX0 2 f_Lcosts fd_Lcosts ["_law_state"] spCosts) (b_Lcosts : Binds K fd_Lcosts ["_law_state"] []) (k_Lcosts : PySem.W.keepIn K (.ref f_Lcosts) = true) (m_Lcosts : mg "_law_costs" = some (.ref f_Lcosts)) (G_Lmoves : FnOk P w K mg base CX0 2 f_Lmoves fd_Lmoves ["_law_state"] spFMoves) (b_Lmoves : Binds K fd_Lmoves ["_law_state"] []) (k_Lmoves : PySem.W.keepIn K (.ref f_Lmoves) = true) (m_Lmoves : mg "_law_moves" = some (.ref f_Lmoves)) (G_far_cost : FnOk P w K mg base CX0 2 f_far_cost fd_far_cost ["moves", "costs"] spFarCost) (b_far_cost : Binds K fd_far_cost ["moves", "costs"] []) (k_far_cost : PySem.W.keepIn K (.ref f_far_cost) = true) (m_far_cost : mg "far_cost" = some (.ref f_far_cost)) (G_Lsame : FnOk P w K mg base CX0 2 f_Lsame fd_Lsame ["_law_found", "_law_due"] (spS 2)) (b_Lsame : Binds K fd_Lsame ["_law_found", "_law_due"] []) (k_Lsame : PySem.W.keepIn K (.ref f_Lsame) = true) (m_Lsame : mg "_law_same" = some (.ref f_Lsame))
    (z_range : mg "range" = none) (z_list : mg "list" = none) (z_len : mg "len" = none) : FnOk P w K mg base CX0 3 f fd ["_law_script"] (spLaw K) := by
  refine F.ok sc_law (fun vs H Q E h => ?_) (fun cdv A outer s H vs Q E hr h => ?_)
  · obtain ⟨a, ns, rfl, _⟩ := h
    rfl
  obtain ⟨sc, ns, rfl, hS, h63, q⟩ := h
  have hu0 := hr.units0
  have hr_Lbegin : Room 1 _ := hr.mono (by decide)
  have hr_Lcosts : Room 2 _ := hr.mono (by decide)
  have hr_Lmoves : Room 2 _ := hr.mono (by decide)
  have hr_far_cost : Room 2 _ := hr.mono (by decide)
  have hr_Lsame : Room 2 _ := hr.mono (by decide)
  refine ⟨_, (pss_cons (ps_set (i := 1) sc_law.nd rfl (Or.inl rfl) (pe_call G_Lbegin hr_Lbegin rfl m_Lbegin k_Lbegin b_Lbegin .nil pass0 (pa_cons (pv 0) pa_nil))) (pss_cons (ps_set (i := 2) sc_law.nd rfl (Or.inl rfl) (pe_lst pa_nil)) (pss_cons (ps_for PassesOwn.never rfl (pi_range1 rfl z_range (pa_cons pe_int pa_nil)) (pg_name (i := 3) sc_law.nd rfl (Or.inl rfl)) (pss_cons (ps_set (i := 4) sc_law.nd rfl (Or.inl rfl) (pe_call G_Lcosts hr_Lcosts rfl m_Lcosts k_Lcosts b_Lcosts .nil pass0 (pa_cons (pv 1) pa_nil))) (pss_cons (ps_set (i := 5) sc_law.nd rfl (Or.inl rfl) (pe_call G_Lmoves hr_Lmoves rfl m_Lmoves k_Lmoves b_Lmoves .nil pass0 (pa_cons (pv 1) pa_nil))) (pss_cons (ps_set (i := 6) sc_law.nd rfl (Or.inl rfl) (pe_callTy call_list_of rfl z_list bt_list (pa_cons (pv 5) pa_nil))) (pss_cons (ps_set (i := 7) sc_law.nd rfl (Or.inl rfl) pe_int) (pss_cons (ps_for PassesOwn.never rfl (pi_list (pe_lst (pa_cons (pe_tup (pa_cons pe_str (pa_cons (pe_ix ix_tup (pv 4) pe_int (fun _ _ => rfl)) pa_nil))) (pa_cons (pe_tup (pa_cons pe_str (pa_cons (pe_ix ix_tup (pv 4) pe_int (fun _ _ => rfl)) pa_nil))) (pa_cons (pe_tup (pa_cons pe_str (pa_cons (pe_ix ix_tup (pv 4) pe_int (fun _ _ => rfl)) pa_nil))) pa_nil))))) (pg_tup rfl (pgs_cons (pg_name (i := 8) sc_law.nd rfl (Or.inr rfl)) (pgs_cons (pg_name (i := 9) sc_law.nd rfl (Or.inl rfl)) pgs_nil))) (pss_one (ps_set (i := 7) sc_law.nd rfl (Or.inl rfl) (pe_op op_add (pv 7) (pe_op op_mul (pv 9) (pe_callB call_len_seq rfl z_len bt_len (pa_cons (pe_lc rfl (lcs (own := ["_law_move"]) (fv := [8]) (by kernel_rfl)) (pi_list (pv 5)) (fun z1 => pg_name (i := 0) (nd_of (by kernel_rfl)) rfl (Or.inl rfl)) (fun z1 => (pts_one (pt_cmpR op_eq (pe_ix (ix_tupK (K := K) rfl) (pv 0) pe_int (fun _ _ => rfl)) (pv 1) (nomark _)))) (fun z1 => (pv 0))) pa_nil))))))) (pss_cons (ps_if (PW.pt (pw_or (pt_not (pt_val (pe_call G_Lsame hr_Lsame rfl m_Lsame k_Lsame b_Lsame .nil pass0 (pa_cons (pe_call G_far_cost hr_far_cost rfl m_far_cost k_far_cost b_far_cost .nil pass0 (pa_cons (pv 6) (pa_cons (pv 4) pa_nil))) (pa_cons (pv 7) pa_nil))))) (pw_or1 (pt_cmpR (op_ne_refsL hu0) (pv 6) (pv 5) (nomark _))))) (pss_one (ps_ret pe_bl)) pss_nil) (pss_cons (ps_if (pt_cmpR op_ne (pe_call G_far_cost hr_far_cost rfl m_far_cost k_far_cost b_far_cost .nil pass0 (pa_cons (pe_op op_cat (pv 2) (pv 5)) (pa_cons (pv 4) pa_nil))) (pe_op op_add (pe_call G_far_cost hr_far_cost rfl m_far_cost k_far_cost b_far_cost .nil pass0 (pa_cons (pv 2) (pa_cons (pv 4) pa_nil))) (pv 7)) (nomark _)) (pss_one (ps_ret pe_bl)) pss_nil) (pss_one (ps_set (i := 2) sc_law.nd rfl (Or.inl rfl) (pv 5))))))))))) (pss_one (ps_ret pe_bl))))), ?_⟩
  try dsimp only [Cx.nox, Cx.wish, cxOf]
  refine ⟨_, rfl, sc, ns, rfl, hS, h63, fun d c ms H1 S1 sm0 hd0 hc0 => ?_⟩
  refine ⟨(by show 0 ≤ sizeLine; decide), fun l0 hl0 => ?_⟩
  have sl0 := same_new hl0 (.lst [])
  refine ⟨4, rfl, by decide, by decide, for_range (lo := 0) (n := 4) (fun i σ Hc => ∃ (t : Int) (ns : List Int) (la : Addr) (am : List Mv) (v3 v4 v5 v6 v7 v8 v9 : Option V), σ = [some (.ref sc), some (.ref d), some (.ref la), v3, v4, v5, v6, v7, v8, v9] ∧ StAt Hc d c t ns ∧ t ≤ 2000 * i ∧ PlanAt Hc la am ∧ MvW am ∧ am.length ≤ 400 ∧ la ≠ c)
    ⟨0, ms, l0, [], none, none, none, none, none, none, none, rfl, S1.same sl0, by omega, ⟨[], upd_same, .nil⟩, (fun _ z => nomatch z), by decide, (ne_of_none S1.list hl0).symm⟩ ?_ ?_⟩
  · refine fun i σ Hc hi hI_1 => opq fun G_1 hG_1 => ?_
    obtain ⟨t, ns, la, am, v3, v4, v5, v6, v7, v8, v9, rfl, S2, tb, hA, wA, lA, nA⟩ := hI_1
    refine hG_1 ?_
    refine ⟨_, rfl, d, c, t, ns, rfl, S2, (by show t ≤ 1000000000 - 100; omega), fun r c0 c1 c2 ns3 H3 S3 K3 hC b0 b1 b2 => ?_⟩
    have nad : la ≠ d := by obtain ⟨_, g, _⟩ := hA; exact ne_of g S2.dict (by intro z; cases z)
    have hA3 := hA.keep S2 K3 nad nA
    refine ⟨_, rfl, d, c, t + 4, ns3, rfl, S3, (by show t + 4 ≤ 1000000000 - 10000; omega), fun lm ms4 t4 ns4 H4 S4 g1 g2 K4 nl hP wP lP => ?_⟩
    have hA4 := hA3.keep S3 K4 nad nA
    have hC4 := K4 _ _ hC (S3.tup hC).1 (S3.tup hC).2
    obtain ⟨rs, hl, M⟩ := id hP
    have lrs := Paired.length M
    refine ⟨_, rfl, lm, _, rfl, .inl (SqL.of hl), fun lh hlh => ?_⟩
    have sh := same_new hlh (.lst (rs.map V.ref))
    have gh : (upd H4 lh (.lst (rs.map V.ref))) lh = some (.lst (rs.map V.ref)) := upd_same
    generalize upd H4 lh (.lst (rs.map V.ref)) = H5 at sh gh ⊢
    -- the three kinds
    refine ⟨_, rfl, r, _, _, _, rfl, rfl, SqT.of (sh _ _ hC4), rfl, (by show 2 ≤ sizeLine; decide), fun k0 hk0 => ?_⟩
    have sk0 := sh.trans (same_new hk0 (.tup [.str "do", .int c0]))
    refine ⟨_, rfl, r, _, _, _, rfl, rfl, SqT.of (sk0 _ _ hC4), rfl, (by show 2 ≤ sizeLine; decide), fun k1 hk1 => ?_⟩
    have sk1 := sk0.trans (same_new hk1 (.tup [.str "put", .int c1]))
    refine ⟨_, rfl, r, _, _, _, rfl, rfl, SqT.of (sk1 _ _ hC4), rfl, (by show 2 ≤ sizeLine; decide), fun k2 hk2 => ?_⟩
    have sk2 := sk1.trans (same_new hk2 (.tup [.str "fetch", .int c2]))
    have t12 := (same_new hk1 (.tup [.str "put", .int c1])).trans (same_new hk2 (.tup [.str "fetch", .int c2]))
    have g0 := t12 _ _ (show (upd H5 k0 (.tup [.str "do", .int c0])) k0 = some (.tup [.str "do", .int c0]) from upd_same)
    have g1' := same_new hk2 (.tup [.str "fetch", .int c2]) _ _ (show (upd (upd H5 k0 (.tup [.str "do", .int c0])) k1 (.tup [.str "put", .int c1])) k1 = some (.tup [.str "put", .int c1]) from upd_same)
    have g2' : (upd (upd (upd H5 k0 (.tup [.str "do", .int c0])) k1 (.tup [.str "put", .int c1])) k2 (.tup [.str "fetch", .int c2])) k2 = some (.tup [.str "fetch", .int c2]) := upd_same
    have gh2 := ((same_new hk0 (.tup [.str "do", .int c0])).trans t12) _ _ gh
    generalize upd (upd (upd H5 k0 (.tup [.str "do", .int c0])) k1 (.tup [.str "put", .int c1])) k2 (.tup [.str "fetch", .int c2]) = H6 at sk2 g0 g1' g2' gh2 ⊢
    refine ⟨(by show 3 ≤ sizeLine; decide), fun lk hlk => ?_⟩
    have slk := same_new hlk (.lst [.ref k0, .ref k1, .ref k2])
    have glk : (upd H6 lk (.lst [.ref k0, .ref k1, .ref k2])) lk = some (.lst [.ref k0, .ref k1, .ref k2]) := upd_same
    have s7 := sk2.trans slk
    have gh7 := slk _ _ gh2
    have e0 := slk _ _ g0
    have e1 := slk _ _ g1'
    have e2 := slk _ _ g2'
    generalize upd H6 lk (.lst [.ref k0, .ref k1, .ref k2]) = H7 at s7 glk gh7 e0 e1 e2 ⊢
    clear sk0 sk1 sk2 slk g0 g1' g2' gh2 t12 hk0 hk1 hk2 hlk sh gh hlh
    have hl7 := s7 _ _ hl
    have M7 := MovL.same M s7
    refine ⟨lk, rfl, ⟨_, SqL.of glk⟩, for_list (a := lk) (xs := [.ref k0, .ref k1, .ref k2]) (fun k σ Hc => ∃ (v7 v8 v9 : Option V) (due : Int), σ = [some (.ref sc), some (.ref d), some (.ref la), some (.int (0 + (i : Int))), some (.ref r), some (.ref lm), some (.ref lh), some (.int due), v8, v9] ∧ Same H7 Hc ∧ due = match k with | 0 => 0 | 1 => 0 + c0 * kindN "do" ms4 | 2 => 0 + c0 * kindN "do" ms4 + c1 * kindN "put" ms4 | _ => 0 + c0 * kindN "do" ms4 + c1 * kindN "put" ms4 + c2 * kindN "fetch" ms4)
      ⟨none, _, _, 0, rfl, .refl _, rfl⟩ (fun k σ Hc _ ⟨_, _, _, _, _, sm, _⟩ => SqL.of (sm _ _ glk)) ?_ ?_⟩
    · refine fun k x σ Hc hx hI_2 => opq fun G_2 hG_2 => ?_
      obtain ⟨v7, v8, v9, due, rfl, sm, ed⟩ := hI_2
      refine hG_2 ?_
      have hk : ∃ (ka : Addr) (kind : Str) (cost : Int), x = .ref ka ∧ Hc ka = some (.tup [.str kind, .int cost]) ∧ (0 ≤ cost ∧ cost < 100) ∧ due + cost * kindN kind ms4 = match k + 1 with | 0 => 0 | 1 => 0 + c0 * kindN "do" ms4 | 2 => 0 + c0 * kindN "do" ms4 + c1 * kindN "put" ms4 | _ => 0 + c0 * kindN "do" ms4 + c1 * kindN "put" ms4 + c2 * kindN "fetch" ms4 := by
        rcases k with _ | _ | _ | k
        · cases hx; exact ⟨k0, _, c0, rfl, sm _ _ e0, b0, by rw [ed]; rfl⟩
        · cases hx; exact ⟨k1, _, c1, rfl, sm _ _ e1, b1, by rw [ed]; rfl⟩
        · cases hx; exact ⟨k2, _, c2, rfl, sm _ _ e2, b2, by rw [ed]; rfl⟩
        · simp at hx
      obtain ⟨ka, kind, cost, rfl, gk, cb, edn⟩ := hk
      refine ⟨ka, _, rfl, SqT.of gk, rfl, _, _, rfl, _, _, rfl, rfl, ?_⟩
      refine ⟨_, rfl, _, rfl, _, rfl, lm, rfl, ⟨_, SqL.of (sm _ _ hl7)⟩, fun p hp => ?_⟩
      refine lc_list (p := p) (a := lm) (xs := rs.map V.ref) (fun i σ Hz => ∃ (v : Option V) (fs : List Addr), σ = [v, some (.str kind)] ∧ Same Hc Hz ∧ Hz p = some (.lst (fs.map V.ref)) ∧ fs.length = ((ms4.take i).filter fun m => decide (m.1 = kind)).length) ?_ ?_ ?_ ?_
      · exact ⟨none, [], rfl, same_new hp _, upd_same, rfl⟩
      · rintro i σ Hz hi ⟨v, fs, rfl, smz, _⟩
        exact SqL.of (smz _ _ (sm _ _ hl7))
      · refine fun i x σ Hz hx hI_4 => opq fun G_4 hG_4 => ?_
        obtain ⟨v, fs, rfl, smz, hpc, lf⟩ := hI_4
        obtain ⟨mv, hmv, rfl⟩ := get_ref hx
        obtain ⟨⟨word, wk⟩, hm, hH⟩ := paired_get M7 hmv
        refine hG_4 ?_
        dsimp only at hH
        have hi := (List.getElem?_eq_some_iff.mp hm).1
        have lk := filt_len (p := fun m : Mv => decide (m.1 = kind)) (l := ms4) (i := i)
        refine ⟨_, rfl, mv, _, _, _, rfl, rfl, SqT.of (smz _ _ (sm _ _ hH)), rfl, _, rfl, rfl, _, rfl, ?_⟩
        rw [filter_snoc hm]
        refine ite2 (fun ck => ?_) (fun ck => ?_)
        · have hd : word = kind := V.str.inj (of_decide_eq_true ck)
          refine ⟨_, rfl, _, hpc, small_n (by rw [List.length_map]; omega), _, fs ++ [mv], rfl, same_put smz hp, ?_, ?_⟩
          · rw [upd_same, List.map_append]; rfl
          · rw [if_pos (by simpa using hd), List.length_append, List.length_append, lf]; rfl
        · have hd : ¬ word = kind := fun e => ck (decide_eq_true (congrArg V.str e))
          refine ⟨_, fs, rfl, smz, hpc, ?_⟩
          rw [if_neg (by simpa using hd), List.append_nil, lf]
      · refine fun σ Hz hI_5 => opq fun G_5 hG_5 => ?_
        obtain ⟨v, fs, rfl, smz, hpc, lf⟩ := hI_5
        refine hG_5 ?_
        rw [List.length_map, lrs, take_all rfl] at lf
        refine ⟨p, _, rfl, .inl (SqL.of hpc), _, _, rfl, rfl, .inl ⟨by omega, by omega⟩, _, _, rfl, rfl, ?_⟩
        have ek : (((fs.map V.ref).length : Nat) : Int) = kindN kind ms4 := by rw [List.length_map, lf]; rfl
        dsimp only
        rw [ek]
        exact ⟨none, _, _, _, rfl, sm.trans smz, edn⟩
    · refine fun σ H8 hI_6 => opq fun G_6 hG_6 => ?_
      obtain ⟨v7, v8, v9, due, rfl, s8, ed⟩ := hI_6
      refine hG_6 ?_
      have ed : due = 0 + c0 * kindN "do" ms4 + c1 * kindN "put" ms4 + c2 * kindN "fetch" ms4 := ed
      have edf : due = farSum c0 c1 c2 ms4 := ed.trans (farSum_kinds wP).symm
      have s9 := s7.trans s8
      have hC8 := s9 _ _ hC4
      refine ⟨_, rfl, _, rfl, lh, r, ms4, c0, c1, c2, rfl, ⟨rs, s8 _ _ gh7, MovL.same M7 s8⟩, wP, by omega, hC8, fun H9 sm9 => ?_⟩
      refine ⟨_, rfl, .int (farSum c0 c1 c2 ms4), .int due, rfl, by rw [edf]; exact .inl ⟨rfl, .inr (.inl ⟨_, rfl⟩)⟩, fun H10 sm10 => ⟨_, rfl, ?_⟩⟩
      have s11 := (s8.trans sm9).trans sm10
      refine ⟨_, rfl, _, rfl, lh, lm, rs, rfl, rfl, SqL.of (s11 _ _ gh7), SqL.of (s11 _ _ hl7), _, rfl, ?_⟩
      have s12 := s7.trans s11
      have hA12 := hA4.same s12
      obtain ⟨ra, hla, MA⟩ := id hA12
      refine ⟨_, rfl, _, rfl, la, lm, _, _, rfl, rfl, hla, s12 _ _ hl, Nat.le_of_lt (small_n (by rw [List.length_map, List.length_map, Paired.length MA, lrs]; omega)), fun lc hlc => ?_⟩
      have sc' := same_new hlc (.lst (ra.map V.ref ++ rs.map V.ref))
      refine ⟨_, rfl, lc, r, am ++ ms4, c0, c1, c2, rfl, ⟨ra ++ rs, by rw [upd_same, List.map_append], (MovL.app MA (MovL.same M s12)).same sc'⟩, ?_, by rw [List.length_append]; omega, sc' _ _ (s12 _ _ hC4), fun H13 sm13 => ?_⟩
      · intro m hm
        rcases List.mem_append.mp hm with hm | hm
        · exact wA m hm
        · exact wP m hm
      have s13 := (s12.trans sc').trans sm13
      refine ⟨_, rfl, _, rfl, la, r, am, c0, c1, c2, rfl, hA4.same s13, wA, by omega, s13 _ _ hC4, fun H14 sm14 => ?_⟩
      have s14 := s13.trans sm14
      refine ⟨_, rfl, _, _, rfl, rfl, rfl, _, rfl, ?_⟩
      rw [farSum_app, edf]
      dsimp only
      refine ite2 (fun ck => absurd ck (by simp)) (fun _ => ?_)
      exact ⟨_, rfl, t4, ns4, lm, ms4, _, _, _, _, _, _, _, rfl, S4.same s14, by omega, hP.same s14, wP, lP, nl⟩
  · rintro σ Hc _
    exact q Hc
end
end Fw
set_option Elab.async false
set_option linter.all false
set_option maxRecDepth 100000
set_option maxHeartbeats 0
namespace Fw
open PySem L2
theorem all_mk {l : PySem.W.OpenLaw} {w : World} {K : PySem.W.Frag} {h : Heap} {mg : Str → Option Value} {fa c_WITH_COST f_cost_of f_far_cost f_Lbegin f_Ltake f_Lsame f_Lcosts f_Lmoves f_law : Addr} (X : K.In h) (G : h.Ns mainGlobals mg) (hfa : mg "law" = some (.ref fa))
    {od_cost_of an_cost_of od_far_cost an_far_cost od_Lbegin an_Lbegin od_Ltake an_Ltake od_Lsame an_Lsame od_Lcosts an_Lcosts od_Lmoves an_Lmoves od_law an_law : Option Addr} {sl_cost_of sl_far_cost sl_Lbegin sl_Ltake sl_Lsame sl_Lcosts sl_Lmoves sl_law : Array (Option Value)} {oc_cost_of kV_cost_of dc_cost_of pm_cost_of cd_cost_of ct_cost_of oc_far_cost kV_far_cost dc_far_cost pm_far_cost cd_far_cost ct_far_cost oc_Lbegin kV_Lbegin dc_Lbegin pm_Lbegin cd_Lbegin ct_Lbegin oc_Ltake kV_Ltake dc_Ltake pm_Ltake cd_Ltake ct_Ltake oc_Lsame kV_Lsame dc_Lsame pm_Lsame cd_Lsame ct_Lsame oc_Lcosts kV_Lcosts dc_Lcosts pm_Lcosts cd_Lcosts ct_Lcosts oc_Lmoves kV_Lmoves dc_Lmoves pm_Lmoves cd_Lmoves ct_Lmoves oc_law kV_law dc_law pm_law cd_law ct_law : Value}
    {q1 q2 q3 q4 : Nat} {q5 : Array (Option Value)}
    (a_WITH_COST : PySem.W.nsIn K mainGlobals "WITH_COST" = some (some (.ref c_WITH_COST)))
    (a_cost_of : PySem.W.nsIn K mainGlobals "cost_of" = some (some (.ref f_cost_of))) (l_cost_of : K.lookup f_cost_of = some ⟨oc_cost_of, od_cost_of, .func (PySem.W.fnOf "cost_of" "cost_of" (defArgs s_cost_of) (defBody s_cost_of) (defScope s_cost_of) .none kV_cost_of dc_cost_of pm_cost_of an_cost_of cd_cost_of ct_cost_of), sl_cost_of⟩) (c_cost_of : PySem.W.codeIn K cd_cost_of "cost_of" = true) (k_cost_of : PySem.W.keepIn K (.ref f_cost_of) = true)
    (a_far_cost : PySem.W.nsIn K mainGlobals "far_cost" = some (some (.ref f_far_cost))) (l_far_cost : K.lookup f_far_cost = some ⟨oc_far_cost, od_far_cost, .func (PySem.W.fnOf "far_cost" "far_cost" (defArgs s_far_cost) (defBody s_far_cost) (defScope s_far_cost) .none kV_far_cost dc_far_cost pm_far_cost an_far_cost cd_far_cost ct_far_cost), sl_far_cost⟩) (c_far_cost : PySem.W.codeIn K cd_far_cost "far_cost" = true) (k_far_cost : PySem.W.keepIn K (.ref f_far_cost) = true)
    (a_Lbegin : PySem.W.nsIn K mainGlobals "_law_begin" = some (some (.ref f_Lbegin))) (l_Lbegin : K.lookup f_Lbegin = some ⟨oc_Lbegin, od_Lbegin, .func (PySem.W.fnOf "_law_begin" "_law_begin" (defArgs s_Lbegin) (defBody s_Lbegin) (defScope s_Lbegin) .none kV_Lbegin dc_Lbegin pm_Lbegin an_Lbegin cd_Lbegin ct_Lbegin), sl_Lbegin⟩) (c_Lbegin : PySem.W.codeIn K cd_Lbegin "_law_begin" = true) (k_Lbegin : PySem.W.keepIn K (.ref f_Lbegin) = true)
    (a_Ltake : PySem.W.nsIn K mainGlobals "_law_take" = some (some (.ref f_Ltake))) (l_Ltake : K.lookup f_Ltake = some ⟨oc_Ltake, od_Ltake, .func (PySem.W.fnOf "_law_take" "_law_take" (defArgs s_Ltake) (defBody s_Ltake) (defScope s_Ltake) .none kV_Ltake dc_Ltake pm_Ltake an_Ltake cd_Ltake ct_Ltake), sl_Ltake⟩) (c_Ltake : PySem.W.codeIn K cd_Ltake "_law_take" = true) (k_Ltake : PySem.W.keepIn K (.ref f_Ltake) = true)
    (a_Lsame : PySem.W.nsIn K mainGlobals "_law_same" = some (some (.ref f_Lsame))) (l_Lsame : K.lookup f_Lsame = some ⟨oc_Lsame, od_Lsame, .func (PySem.W.fnOf "_law_same" "_law_same" (defArgs s_Lsame) (defBody s_Lsame) (defScope s_Lsame) .none kV_Lsame dc_Lsame pm_Lsame an_Lsame cd_Lsame ct_Lsame), sl_Lsame⟩) (c_Lsame : PySem.W.codeIn K cd_Lsame "_law_same" = true) (k_Lsame : PySem.W.keepIn K (.ref f_Lsame) = true)
    (a_Lcosts : PySem.W.nsIn K mainGlobals "_law_costs" = some (some (.ref f_Lcosts))) (l_Lcosts : K.lookup f_Lcosts = some ⟨oc_Lcosts, od_Lcosts, .func (PySem.W.fnOf "_law_costs" "_law_costs" (defArgs s_Lcosts) (defBody s_Lcosts) (defScope s_Lcosts) .none kV_Lcosts dc_Lcosts pm_Lcosts an_Lcosts cd_Lcosts ct_Lcosts), sl_Lcosts⟩) (c_Lcosts : PySem.W.codeIn K cd_Lcosts "_law_costs" = true) (k_Lcosts : PySem.W.keepIn K (.ref f_Lcosts) = true)
    (a_Lmoves : PySem.W.nsIn K mainGlobals "_law_moves" = some (some (.ref f_Lmoves))) (l_Lmoves : K.lookup f_Lmoves = some ⟨oc_Lmoves, od_Lmoves, .func (PySem.W.fnOf "_law_moves" "_law_moves" (defArgs s_Lmoves) (defBody s_Lmoves) (defScope s_Lmoves) .none kV_Lmoves dc_Lmoves pm_Lmoves an_Lmoves cd_Lmoves ct_Lmoves), sl_Lmoves⟩) (c_Lmoves : PySem.W.codeIn K cd_Lmoves "_law_moves" = true) (k_Lmoves : PySem.W.keepIn K (.ref f_Lmoves) = true)
    (a_law : PySem.W.nsIn K mainGlobals "law" = some (some (.ref f_law))) (l_law : K.lookup f_law = some ⟨oc_law, od_law, .func (PySem.W.fnOf "law" "law" (defArgs s_law) (defBody s_law) (defScope s_law) .none kV_law dc_law pm_law an_law cd_law ct_law), sl_law⟩) (c_law : PySem.W.codeIn K cd_law "law" = true) (k_law : PySem.W.keepIn K (.ref f_law) = true)
    (lk_WITH_COST : K.lookup c_WITH_COST = some ⟨.type "tuple", none, .seq #[.str "do" q1, .str "put" q2, .str "fetch" q3] q4, q5⟩)
    (z_all : PySem.W.nsIn K mainGlobals "all" = some none)
    (z_bool : PySem.W.nsIn K mainGlobals "bool" = some none)
    (z_divmod : PySem.W.nsIn K mainGlobals "divmod" = some none)
    (z_int : PySem.W.nsIn K mainGlobals "int" = some none)
    (z_isinstance : PySem.W.nsIn K mainGlobals "isinstance" = some none)
    (z_len : PySem.W.nsIn K mainGlobals "len" = some none)
    (z_list : PySem.W.nsIn K mainGlobals "list" = some none)
    (z_range : PySem.W.nsIn K mainGlobals "range" = some none)
    (z_str : PySem.W.nsIn K mainGlobals "str" = some none)
    (z_sum : PySem.W.nsIn K mainGlobals "sum" = some none)
    (z_tuple : PySem.W.nsIn K mainGlobals "tuple" = some none)
    (z_zip : PySem.W.nsIn K mainGlobals "zip" = some none)
    : ∃ fd : FuncData, (∀ (s : Shared) (v : Value), BindsTo s fd ⟨[v], []⟩ [("_law_script", v)]) ∧ ∀ base : Heap, K.In base → base.Ns mainGlobals mg → FnOk l.prog w K mg base CX0 3 fa fd ["_law_script"] (spLaw K) := by
  have e := hfa.symm.trans (PySem.W.mg_of X G a_law)
  cases e
  have F_cost_of := fun_mk (st := s_cost_of) l_cost_of c_cost_of k_cost_of
  have b_cost_of := F_cost_of.binds (ps := ["move", "costs"]) fun _ _ _ _ _ _ us hl => match us, hl with | [_, _], _ => rfl
  have m_cost_of := PySem.W.mg_of X G a_cost_of
  have F_far_cost := fun_mk (st := s_far_cost) l_far_cost c_far_cost k_far_cost
  have b_far_cost := F_far_cost.binds (ps := ["moves", "costs"]) fun _ _ _ _ _ _ us hl => match us, hl with | [_, _], _ => rfl
  have m_far_cost := PySem.W.mg_of X G a_far_cost
  have F_Lbegin := fun_mk (st := s_Lbegin) l_Lbegin c_Lbegin k_Lbegin
  have b_Lbegin := F_Lbegin.binds (ps := ["_law_script"]) fun _ _ _ _ _ _ us hl => match us, hl with | [_], _ => rfl
  have m_Lbegin := PySem.W.mg_of X G a_Lbegin
  have F_Ltake := fun_mk (st := s_Ltake) l_Ltake c_Ltake k_Ltake
  have b_Ltake := F_Ltake.binds (ps := ["_law_state", "_law_many"]) fun _ _ _ _ _ _ us hl => match us, hl with | [_, _], _ => rfl
  have m_Ltake := PySem.W.mg_of X G a_Ltake
  have F_Lsame := fun_mk (st := s_Lsame) l_Lsame c_Lsame k_Lsame
  have b_Lsame := F_Lsame.binds (ps := ["_law_found", "_law_due"]) fun _ _ _ _ _ _ us hl => match us, hl with | [_, _], _ => rfl
  have m_Lsame := PySem.W.mg_of X G a_Lsame
  have F_Lcosts := fun_mk (st := s_Lcosts) l_Lcosts c_Lcosts k_Lcosts
  have b_Lcosts := F_Lcosts.binds (ps := ["_law_state"]) fun _ _ _ _ _ _ us hl => match us, hl with | [_], _ => rfl
  have m_Lcosts := PySem.W.mg_of X G a_Lcosts
  have F_Lmoves := fun_mk (st := s_Lmoves) l_Lmoves c_Lmoves k_Lmoves
  have b_Lmoves := F_Lmoves.binds (ps := ["_law_state"]) fun _ _ _ _ _ _ us hl => match us, hl with | [_], _ => rfl
  have m_Lmoves := PySem.W.mg_of X G a_Lmoves
  have F_law := fun_mk (st := s_law) l_law c_law k_law
  have m_WITH_COST := PySem.W.mg_of X G a_WITH_COST
  have tp_WITH_COST : ∀ H, SqT K H c_WITH_COST [.str "do", .str "put", .str "fetch"] := fun H => .inr ⟨_, _, _, lk_WITH_COST, rfl, rfl, (by show 3 ≤ sizeLine; decide), .cons ⟨_, rfl⟩ (.cons ⟨_, rfl⟩ (.cons ⟨_, rfl⟩ .nil))⟩
  have ty_WITH_COST : ∃ o : Obj, K.lookup c_WITH_COST = some o ∧ o.cls = .type "tuple" ∧ o.dict = none := ⟨_, lk_WITH_COST, rfl, rfl⟩
  have zz_all := PySem.W.mg_none_of X G z_all
  have zz_bool := PySem.W.mg_none_of X G z_bool
  have zz_divmod := PySem.W.mg_none_of X G z_divmod
  have zz_int := PySem.W.mg_none_of X G z_int
  have zz_isinstance := PySem.W.mg_none_of X G z_isinstance
  have zz_len := PySem.W.mg_none_of X G z_len
  have zz_list := PySem.W.mg_none_of X G z_list
  have zz_range := PySem.W.mg_none_of X G z_range
  have zz_str := PySem.W.mg_none_of X G z_str
  have zz_sum := PySem.W.mg_none_of X G z_sum
  have zz_tuple := PySem.W.mg_none_of X G z_tuple
  have zz_zip := PySem.W.mg_none_of X G z_zip
  refine ⟨PySem.W.fnOf "law" "law" (defArgs s_law) (defBody s_law) (defScope s_law) .none kV_law dc_law pm_law an_law cd_law ct_law, fun s v => .of_eq rfl, fun base _ _ => ?_⟩
  have G_cost_of := ok_cost_of (P := l.prog) (w := w) (mg := mg) (base := base) (F := F_cost_of) (tp_WITH_COST := tp_WITH_COST) (ty_WITH_COST := ty_WITH_COST) (m_WITH_COST := m_WITH_COST)
  have G_far_cost := ok_far_cost (P := l.prog) (w := w) (mg := mg) (base := base) (F := F_far_cost) (G_cost_of := G_cost_of) (b_cost_of := b_cost_of) (k_cost_of := F_cost_of.kp) (m_cost_of := m_cost_of) (z_sum := zz_sum)
  have G_Lbegin := ok_Lbegin (P := l.prog) (w := w) (mg := mg) (base := base) (F := F_Lbegin) (z_list := zz_list)
  have G_Ltake := ok_Ltake (P := l.prog) (w := w) (mg := mg) (base := base) (F := F_Ltake) (z_divmod := zz_divmod) (z_len := zz_len)
  have G_Lsame := ok_Lsame (P := l.prog) (w := w) (mg := mg) (base := base) (F := F_Lsame) (b_Lsame := b_Lsame) (k_Lsame := F_Lsame.kp) (m_Lsame := m_Lsame) (n := 2) (z_all := zz_all) (z_bool := zz_bool) (z_int := zz_int) (z_isinstance := zz_isinstance) (z_len := zz_len) (z_list := zz_list) (z_str := zz_str) (z_tuple := zz_tuple) (z_zip := zz_zip)
  have G_Lcosts := ok_Lcosts (P := l.prog) (w := w) (mg := mg) (base := base) (F := F_Lcosts) (G_Ltake := G_Ltake) (b_Ltake := b_Ltake) (k_Ltake := F_Ltake.kp) (m_Ltake := m_Ltake) (z_range := zz_range) (z_tuple := zz_tuple)
  have G_Lmoves := ok_Lmoves (P := l.prog) (w := w) (mg := mg) (base := base) (F := F_Lmoves) (G_Ltake := G_Ltake) (b_Ltake := b_Ltake) (k_Ltake := F_Ltake.kp) (m_Ltake := m_Ltake) (z_int := zz_int) (z_range := zz_range)
  exact ok_law (P := l.prog) (w := w) (mg := mg) (base := base) (F := F_law) (G_Lbegin := G_Lbegin) (b_Lbegin := b_Lbegin) (k_Lbegin := F_Lbegin.kp) (m_Lbegin := m_Lbegin) (G_Lcosts := G_Lcosts) (b_Lcosts := b_Lcosts) (k_Lcosts := F_Lcosts.kp) (m_Lcosts := m_Lcosts) (G_Lmoves := G_Lmoves) (b_Lmoves := b_Lmoves) (k_Lmoves := F_Lmoves.kp) (m_Lmoves := m_Lmoves) (G_Lsame := G_Lsame) (b_Lsame := b_Lsame) (k_Lsame := F_Lsame.kp) (m_Lsame := m_Lsame) (G_far_cost := G_far_cost) (b_far_cost := b_far_cost) (k_far_cost := F_far_cost.kp) (m_far_cost := m_far_cost) (z_len := zz_len) (z_list := zz_list) (z_range := zz_range)
theorem walk {l : PySem.W.OpenLaw} {q : Program} {loose : List Str} {XP : (Str → Option Value) → Heap → Prop} {YP : World → Heap → Prop} {d : DefRec} {K : Params → PySem.W.Frag} (hn : l.most = some 63) (hdf : d.params.defaults = [])
    (hY : ∀ (w : World) (h : Heap), YP w h → (K w.params).In h)
    (F : ∀ (w : World) (mg : Str → Option Value) (fa : Addr) (h : Heap), (K w.params).In h → h.Ns mainGlobals mg → mg d.name = some (.ref fa) →
      ∃ fd : FuncData, (∀ (s : Shared) (u : Value), BindsTo s fd ⟨[u], []⟩ [("_law_script", u)]) ∧ ∀ base : Heap, (K w.params).In base → base.Ns mainGlobals mg → FnOk l.prog w (K w.params) mg base CX0 3 fa fd ["_law_script"] (spLaw (K w.params))) :
    PySem.W.WalkO q loose XP YP l.row.toRowW d [] (fun f vs => PySem.call f vs) :=
  L2.walk_of (n := 63) (k := 3) (x := "_law_script") (CX := fun _ => CX0) (sp := fun w => spLaw (K w.params)) hn (by decide) hdf ⟨rfl, by decide, by decide⟩ hY F (fun _ _ a ns hl _ hS => ⟨a, ns, rfl, hS, hl, fun _ => rfl⟩) fun _ _ _ _ _ z => z
end Fw
open PySem PySem.W PyProof.Rows
set_option maxRecDepth 100000 in
set_option maxHeartbeats 0 in
theorem PySem.Challenge.cw_fewrooms_k56_far_costs_holds : PySem.Challenge.rw_fewrooms_k56_far_costs.Holds := by
  w_on; refine holds_law Fw.hpSaid fun said => ?_
  refine holds_open (q := Fw.hpQ) (Xt := Fw.hpX) (XP := XL Fw.hpQ []) (YP := (kHook Fw.hpK Fw.hpA Fw.hpE).says)
    Fw.hpLeft (kHook Fw.hpK Fw.hpA Fw.hpE).of (kHook Fw.hpK Fw.hpA Fw.hpE).keeps (fun s e => xl_of s (Bool.and_eq_true_iff.mp e).1) XL.keeps
    (by rfl) (by rfl) (by rfl) (fun s e => recFacts_of (Bool.and_eq_true_iff.mp e).2) (by rfl)
    (by first | assumption | decide +kernel) (by decide +kernel) ⟨rfl, rfl, rfl, rfl, rfl, by decide +kernel⟩ ?hw ?hc
  case hw => w_witness2
  k_fill
  refine Fw.walk (l := PySem.Challenge.rw_fewrooms_k56_far_costs) rfl rfl (fun w h Y => PySem.W.kIn_of Y) ?F
  case F =>
    intro w mg fa h KX G hmg
    refine' Fw.all_mk KX G hmg ?a_WITH_COST ?a_cost_of ?l_cost_of ?c_cost_of ?k_cost_of ?a_far_cost ?l_far_cost ?c_far_cost ?k_far_cost ?a_Lbegin ?l_Lbegin ?c_Lbegin ?k_Lbegin ?a_Ltake ?l_Ltake ?c_Ltake ?k_Ltake ?a_Lsame ?l_Lsame ?c_Lsame ?k_Lsame ?a_Lcosts ?l_Lcosts ?c_Lcosts ?k_Lcosts ?a_Lmoves ?l_Lmoves ?c_Lmoves ?k_Lmoves ?a_law ?l_law ?c_law ?k_law ?lk_WITH_COST ?z_all ?z_bool ?z_divmod ?z_int ?z_isinstance ?z_len ?z_list ?z_range ?z_str ?z_sum ?z_tuple ?z_zip
    (case a_WITH_COST => k_is)
    (case a_cost_of => k_is)
    (case l_cost_of => k_is)
    (case c_cost_of => k_is)
    (case k_cost_of => k_is)
    (case a_far_cost => k_is)
    (case l_far_cost => k_is)
    (case c_far_cost => k_is)
    (case k_far_cost => k_is)
    (case a_Lbegin => k_is)
    (case l_Lbegin => k_is)
    (case c_Lbegin => k_is)
    (case k_Lbegin => k_is)
    (case a_Ltake => k_is)
    (case l_Ltake => k_is)
    (case c_Ltake => k_is)
    (case k_Ltake => k_is)
    (case a_Lsame => k_is)
    (case l_Lsame => k_is)
    (case c_Lsame => k_is)
    (case k_Lsame => k_is)
    (case a_Lcosts => k_is)
    (case l_Lcosts => k_is)
    (case c_Lcosts => k_is)
    (case k_Lcosts => k_is)
    (case a_Lmoves => k_is)
    (case l_Lmoves => k_is)
    (case c_Lmoves => k_is)
    (case k_Lmoves => k_is)
    (case a_law => k_is)
    (case l_law => k_is)
    (case c_law => k_is)
    (case k_law => k_is)
    (case lk_WITH_COST => k_is)
    (case z_all => k_is)
    (case z_bool => k_is)
    (case z_divmod => k_is)
    (case z_int => k_is)
    (case z_isinstance => k_is)
    (case z_len => k_is)
    (case z_list => k_is)
    (case z_range => k_is)
    (case z_str => k_is)
    (case z_sum => k_is)
    (case z_tuple => k_is)
    (case z_zip => k_is)

