import PyProof.Rows.All
import Wide.All
import OpenK.AllK
import Wide.FinOn
import HandS.ForMost
import HandS.ForExc
import HandS.SlotsOwn
import KE.KMathG
import KE.KOpsOwn
import HandS.ExcInit
import HandS.ExcField
import HandS.ExcIs
import HandS.IsInst
import HandS.OwnEq
import HandS.Gcd
import HandS.Wide
import HandS.Codes
import HandS.Style
import HandS.DictComp
import HandS.Zip
import HandS.TupAny
import HandS.TryMany
import KE.KMathGC
import HandS.Deep
import KE.SortData
import KE.KDictDisplayH
import HandS.Strs
import PyProof.NeKinds
import KE.OsSortAny
import HandS.Head0
import HandS.Head1
import HandS.Head2
import HandS.Head3
import HandS.HeadEnd
import HandS.HeadHook1
import HandS.HeadHook2
import KE.GoesEnum
import KE.GoesMore
import PySem.Challenge.RW_threetiles_k54_heaps_moved
set_option Elab.async false
set_option linter.all false
set_option maxRecDepth 100000
set_option maxHeartbeats 4000000

/-! The head by one kernel run: what is asked of the heap that the top leaves is a list of Booleans and of the defs' texts. -/
namespace L2.My
open PySem PySem.Spec PyProof.Rows

def adr : Option (Option Value) → Addr
  | some (some (.ref a)) => a
  | _ => 0
def isR : Option (Option Value) → Bool
  | some (some (.ref _)) => true
  | _ => false
theorem isR_ok {x : Option (Option Value)} (h : isR x = true) : x = some (some (.ref (adr x))) := by
  unfold isR at h
  split at h
  · rfl
  · cases h

abbrev FnT : Type := Option (Str × Str × Arguments × FuncBody × Scope × Addr × List (Str × Addr) × Value × Addr)
def objAt (K : PySem.W.Frag) (f : Addr) : Obj := (K.lookup f).getD default
def fdOf : Obj → Option FuncData
  | ⟨_, _, .func fd, _⟩ => some fd
  | _ => none
def fdAt (K : PySem.W.Frag) (f : Addr) : Option FuncData := (K.lookup f).bind fdOf
def fnT (K : PySem.W.Frag) (f : Addr) : FnT :=
  (fdAt K f).map fun fd => (fd.name, fd.qualname, fd.params, fd.body, fd.scope, fd.globals, fd.closure, fd.defaults, fd.builtins)
def fnE (n q : Str) (st : Stmt) : FnT :=
  some (n, q, defArgs st, .stmts (defBody st), defScope st, mainGlobals, [], .none, builtinsNs)
abbrev fdK (K : PySem.W.Frag) (f : Addr) : FuncData := (fdAt K f).getD ⟨"", "", defArgs (.Pass ⟨0, 0, 0, 0⟩), .stmts [], defScope (.Pass ⟨0, 0, 0, 0⟩), 0, [], .none, .none, .none, .none, none, .none, .none, 0⟩
theorem fn_l {K : PySem.W.Frag} {f : Addr} {n q : Str} {st : Stmt} (e : fnT K f = fnE n q st) :
    K.lookup f = some ⟨(objAt K f).cls, (objAt K f).dict, .func (PySem.W.fnOf n q (defArgs st) (defBody st) (defScope st) .none (fdK K f).kwdefaults (fdK K f).doc (fdK K f).pyModule (fdK K f).annotations (fdK K f).code (fdK K f).closureTuple), (objAt K f).slots⟩ := by
  unfold fnT fnE at e
  unfold fdK fdAt objAt at *
  cases h : K.lookup f with
  | none => rw [h] at e; cases e
  | some o =>
    rw [h] at e
    obtain ⟨oc, od, dt, sl⟩ := o
    cases dt with
    | func fd =>
      obtain ⟨x1, x2, x3, x4, x5, x6, x7, x8, x9, x10, x11, x12, x13, x14, x15⟩ := fd
      cases e
      rfl
    | _ => cases e

/-- a module's integer -/
def isIntV (x : Option (Option Value)) (k : Int) : Bool := match x with
  | some (some (.int n _)) => decide (n = k)
  | _ => false
/-- the thing at u is this constant data -/
def kdB (K : PySem.W.Frag) : Nat → Value → PyData → Bool
  | _ + 1, .int i _, .int j => decide (i = j)
  | n + 1, .ref a, .tuple ds => match K.lookup a with
    | some ⟨.type t, _, .seq its _, _⟩ => decide (t = "tuple") && Nat.ble its.size 1000 && decide (its.toList.length = ds.length) && (its.toList.zip ds).all fun p => kdB K n p.1 p.2
    | _ => false
  | _, _, _ => false
structure CV where
  nm : Str
  q : Str
  N : Addr
  bs : List Value
  sn : List Str
  sub : List Value
  ab : Bool
  col : Option Bool
  dd : Option Addr
  m0 : Option Value
  m1 : Option Value
  m2 : Option Value
  m3 : Option Value
  m5 : Option Value

def excB (K : PySem.W.Frag) (C B : Addr) (ms : List Value) (nw : String) : Bool :=
  match K.lookup C with
  | some ⟨.type t, _, .cls cd, sl⟩ =>
    match sl.toList with
    | [_, _, _, _, some (.builtin i), _] =>
      decide (t = "type") && decide (cd.mro = .ref C :: .ref B :: ms) && cd.hasDict && !cd.hasDel && decide (i = nw)
    | _ => false
  | _ => false
theorem excB_ok {K : PySem.W.Frag} {C B : Addr} {ms : List Value} {nw : String} (h : excB K C B ms nw = true) :
    ∃ c : CV, K.lookup C = some (excClassObj c.nm c.q C c.N c.bs (.ref B :: ms) true c.sn c.sub c.ab c.col c.dd c.m0 c.m1 c.m2 c.m3 c.m5 nw) := by
  unfold excB at h
  split at h
  · rename_i t dd cd sl hl
    split at h
    · rename_i k0 k1 k2 k3 i k5 hs
      simp only [Bool.and_eq_true, decide_eq_true_eq, Bool.not_eq_true'] at h
      obtain ⟨⟨⟨⟨ht, hm⟩, hd⟩, hx⟩, hi⟩ := h
      obtain ⟨x1, x2, x3, x4, x5, x6, x7, x8, x9, x10, x11⟩ := cd
      obtain ⟨sl⟩ := sl
      simp only at hm hd hx hs
      subst hm hd hx ht hi hs
      exact ⟨⟨x1, x5, x4, x2, x7, x8, x9, x10, dd, k0, k1, k2, k3, k5⟩, hl⟩
    · cases h
  · cases h

/-- what a def, a class or a namespace leads to: its code, its namespace, its values -/
def leads (g : Addr → Option Obj) (a : Addr) : List Addr :=
  match g a with
  | some ⟨_, _, .func fd, _⟩ => He.refV fd.code
  | some ⟨_, _, .cls cd, _⟩ => [cd.ns]
  | some ⟨_, _, .dict es _, _⟩ => es.toList.flatMap fun e => He.refV e.val
  | some ⟨.type t, _, .seq its _, _⟩ => if t = "tuple" then its.toList.flatMap He.refV else []
  | _ => []
def frOf (g : Addr → Option Obj) (ns : List Str) : PySem.W.Frag :=
  let A := ns.map (He.ga (He.frG g [mainGlobals]))
  let B := A.flatMap (leads g)
  let C := B.flatMap (leads g)
  He.frG g (mainGlobals :: A ++ (B ++ (C ++ C.flatMap (leads g))))

def hookF (ns : List Str) (bs : PySem.W.Frag → List Bool) (fs : PySem.W.Frag → List FnT) (ws : List FnT) : PySem.W.Hook where
  α := Bool × List FnT
  obs s := ((bs (frOf s.heap.get? ns)).all id, fs (frOf s.heap.get? ns))
  val _ := (true, ws)
  says _ h := ∃ K : PySem.W.Frag, K.In h ∧ (bs K).all id = true ∧ fs K = ws
  of _ _ e := ⟨_, He.frG_in, (Prod.mk.inj e).1, (Prod.mk.inj e).2⟩
  keeps _ _ _ := fun ⟨K, a, b⟩ f => ⟨K, fun x o e => f x o (a x o e), b⟩

def obF (ns : List Str) (bs : PySem.W.Frag → List Bool) (fs : PySem.W.Frag → List FnT) (s : PySem.W.SharedT) : Bool × List FnT :=
  ((bs (frOf (HandSHeadRun.getT s) ns)).all id, fs (frOf (HandSHeadRun.getT s) ns))
theorem obF_eq {ns : List Str} {bs : PySem.W.Frag → List Bool} {fs : PySem.W.Frag → List FnT} {ws : List FnT} (s : PySem.W.SharedT) :
    obF ns bs fs s = (hookF ns bs fs ws).obs s.abs := by
  have e : HandSHeadRun.getT s = s.abs.heap.get? := funext (HandSHeadRun.getT_eq s)
  unfold obF hookF
  simp only [e]

noncomputable abbrev wholeO (r : PySem.W.OpenRow) (M : Nat) (w : World) : Option (Shared × PySem.W.SharedT) :=
  HandSHeadRun.wholeF (fun p => HandSHeadRun.stepQ (HandSHeadRun.denQ HandSHeadRun.tabQ) p w) HandSHeadRun.fenceQ M r.prog
def RunB (r : PySem.W.OpenRow) (M : Nat) (w : World) (ns : List Str) (b : PySem.W.Frag → List Bool) : Prop :=
  Option.map (fun x => (b (frOf (HandSHeadRun.getT x.2) ns)).all id) (wholeO r M w) = some true
def RunF (r : PySem.W.OpenRow) (M : Nat) (w : World) (ns : List Str) (f : PySem.W.Frag → List FnT) (ws : List FnT) : Prop :=
  Option.map (fun x => f (frOf (HandSHeadRun.getT x.2) ns)) (wholeO r M w) = some ws
theorem run_b {r : PySem.W.OpenRow} {q : Program} {M : Nat} {loose : List Str} {w : World} {ns : List Str} {b b' : PySem.W.Frag → List Bool} {f : PySem.W.Frag → List FnT} {ws : List FnT}
    (h : HandSHeadRun.RunEqI r q (hookF ns b f ws) (obF ns b f) M loose w) (h' : RunB r M w ns b') :
    HandSHeadRun.RunEqI r q (hookF ns (fun K => b' K ++ b K) f ws) (obF ns (fun K => b' K ++ b K) f) M loose w := by
  unfold HandSHeadRun.RunEqI at h ⊢
  unfold RunB wholeO at h'
  generalize HandSHeadRun.wholeF (fun p => HandSHeadRun.stepQ (HandSHeadRun.denQ HandSHeadRun.tabQ) p w) HandSHeadRun.fenceQ M r.prog = o at h h' ⊢
  cases o with
  | none => cases h
  | some x =>
    have h := Prod.mk.inj (Option.some.inj h)
    have h2 := Prod.mk.inj h.2
    have h3 := Prod.mk.inj h2.2
    have h' := Option.some.inj h'
    show some _ = some _
    refine congrArg some (Prod.ext h.1 (Prod.ext h2.1 (Prod.ext ?_ h3.2)))
    show (b' _ ++ b _).all id = true
    have h4 : (b' (frOf (HandSHeadRun.getT x.2) ns)).all id = true := h'
    rw [List.all_append, h4, Bool.true_and]
    exact h3.1
theorem run_f {r : PySem.W.OpenRow} {q : Program} {M : Nat} {loose : List Str} {w : World} {ns : List Str} {b : PySem.W.Frag → List Bool} {f f' : PySem.W.Frag → List FnT} {ws ws' : List FnT}
    (h : HandSHeadRun.RunEqI r q (hookF ns b f ws) (obF ns b f) M loose w) (h' : RunF r M w ns f' ws') :
    HandSHeadRun.RunEqI r q (hookF ns b (fun K => f' K ++ f K) (ws' ++ ws)) (obF ns b (fun K => f' K ++ f K)) M loose w := by
  unfold HandSHeadRun.RunEqI at h ⊢
  unfold RunF wholeO at h'
  generalize HandSHeadRun.wholeF (fun p => HandSHeadRun.stepQ (HandSHeadRun.denQ HandSHeadRun.tabQ) p w) HandSHeadRun.fenceQ M r.prog = o at h h' ⊢
  cases o with
  | none => cases h
  | some x =>
    have h := Prod.mk.inj (Option.some.inj h)
    have h2 := Prod.mk.inj h.2
    have h3 := Prod.mk.inj h2.2
    have h' := Option.some.inj h'
    show some _ = some _
    refine congrArg some (Prod.ext h.1 (Prod.ext h2.1 (Prod.ext h3.1 ?_)))
    show f' _ ++ f _ = ws' ++ ws
    exact congr (congrArg _ h') h3.2

theorem nthB : ∀ {l : List Bool}, l.all id = true → ∀ i : Nat, l.getD i true = true
  | [], _, _ => rfl
  | b :: l, h, 0 => by
    simp only [List.all_cons, id, Bool.and_eq_true] at h
    exact h.1
  | b :: l, h, i + 1 => by
    simp only [List.all_cons, id, Bool.and_eq_true] at h
    exact nthB (l := l) h.2 i
theorem nthF {l m : List FnT} (h : l = m) (i : Nat) : l.getD i none = m.getD i none := by rw [h]
theorem dok {p : Prop} [Decidable p] (h : decide p = true) : p := of_decide_eq_true h

theorem walk_ofEW {l : PySem.W.OpenLaw} {n k : Nat} {q : Program} {loose : List Str} {XP : (Str → Option Value) → Heap → Prop} {YP : World → Heap → Prop} {d : DefRec} {CX : World → L2.CXT} {x : Str}
    (hn : l.most = some n) (hz : n ≤ sizeLine) (hd : d.params.defaults = []) (hr : L2.Room k callerA)
    (F : ∀ (w : World) (mg : Str → Option Value) (fa : Addr) (h : Heap), YP w h → h.Ns mainGlobals mg → mg d.name = some (.ref fa) →
      ∃ K fd sp, PySem.W.Frag.In K h ∧ (∀ (s : Shared) (u : Value), BindsTo s fd { pos := [u] } [(x, u)]) ∧
        (∀ (H : L2.Hp) (a : Addr) (ns : List Int), ns.length ≤ n → L2.Only H → L2.SqL K H a (ns.map L2.V.int) → sp [L2.V.ref a] H (fun v x => v = L2.V.bl true) fun x x_1 x_2 => False) ∧
        ∀ base : Heap, PySem.W.Frag.In K base → base.Ns mainGlobals mg → L2.FnOk l.prog w K mg base (CX w) k fa fd [x] sp)
    (N : ∀ (w : World) (H : L2.Hp) (s : Shared) (e : Value) (s' : Shared), CX w [] H s (fun x x_1 x_2 => False) e s' → False) :
    PySem.W.WalkO q loose XP YP l.row.toRowW d [] (fun f vs => PySem.call f vs) := by
  intro w s0 s1 mg mb Gr Y
  refine L2.walk_ofE (l := l) (n := n) (k := k) (q := q) (loose := loose) (XP := XP) (YP := fun w' h => w' = w ∧ YP w h) (d := d) (CX := CX w) (x := x) hn hz hd hr ?_ (N w) w s0 s1 mg mb Gr ⟨rfl, Y⟩
  rintro w' mg' fa h ⟨rfl, Y'⟩ G hm
  exact F w' mg' fa h Y' G hm
end L2.My

namespace L2.My
open PySem PySem.Spec PyProof.Rows
def Z_top (i : Nat) : Stmt := PySem.Challenge.pw_threetiles_k54_heaps_moved.main.body.getD i (.Pass ⟨0, 0, 0, 0⟩)

abbrev Z_s_is_integral : Stmt := Z_top 5
abbrev Z_s_BadCorner_init : Stmt := inClass (Z_top 2) 0
abbrev Z_s_BadHeap_init : Stmt := inClass (Z_top 3) 0
abbrev Z_s_is_corner : Stmt := Z_top 7
abbrev Z_s_check_corner : Stmt := Z_top 8
abbrev Z_s_is_tile : Stmt := Z_top 10
abbrev Z_s_plus : Stmt := Z_top 16
abbrev Z_s_moved_tiles : Stmt := Z_top 17
abbrev Z_s__law_sign : Stmt := Z_top 23
abbrev Z_s__law_sum : Stmt := Z_top 25
abbrev Z_s__law_less : Stmt := Z_top 26
abbrev Z_s__law_star : Stmt := Z_top 24
abbrev Z_s__law_within : Stmt := Z_top 27
abbrev Z_s__law_in_window : Stmt := Z_top 28
abbrev Z_s__law_has : Stmt := Z_top 29
abbrev Z_s__law_next : Stmt := Z_top 30
abbrev Z_s__law_sides : Stmt := Z_top 31
abbrev Z_s__law_draw : Stmt := Z_top 21
abbrev Z_s__law_pool : Stmt := Z_top 20
abbrev Z_s__law_great : Stmt := Z_top 22
abbrev Z_s__law_corner : Stmt := Z_top 35
abbrev Z_s__law_barred : Stmt := Z_top 33
abbrev Z_s__law_point : Stmt := Z_top 34
abbrev Z_s__law_floor : Stmt := Z_top 36
abbrev Z_s__law_negated : Stmt := Z_top 38
abbrev Z_s__law_between : Stmt := Z_top 32
abbrev Z_s__law_tiles : Stmt := Z_top 41
abbrev Z_s__law_due : Stmt := Z_top 42
abbrev Z_s__law_heap : Stmt := Z_top 37
abbrev Z_s_wrong_in_row : Stmt := Z_top 11
abbrev Z_s_check_heap : Stmt := Z_top 14
abbrev Z_s_heap_moved : Stmt := Z_top 18
abbrev Z_s__law_no_tile : Stmt := Z_top 39
abbrev Z_s__law_no_corner : Stmt := Z_top 40
abbrev Z_s__law_asked : Stmt := Z_top 43
abbrev Z_s__law_refuses : Stmt := Z_top 44
abbrev Z_s_law : Stmt := Z_top 45
def A_c_FloorError (K : PySem.W.Frag) : Addr := adr (PySem.W.nsIn K mainGlobals "FloorError")
def A_c_BadCorner (K : PySem.W.Frag) : Addr := adr (PySem.W.nsIn K mainGlobals "BadCorner")
def A_c_BadHeap (K : PySem.W.Frag) : Addr := adr (PySem.W.nsIn K mainGlobals "BadHeap")
def A_f_is_integral (K : PySem.W.Frag) : Addr := adr (PySem.W.nsIn K mainGlobals "is_integral")
def A_f_BadCorner_init (K : PySem.W.Frag) : Addr := adr (PySem.W.findIn K (.ref (A_c_BadCorner K)) "__init__")
def A_f_BadHeap_init (K : PySem.W.Frag) : Addr := adr (PySem.W.findIn K (.ref (A_c_BadHeap K)) "__init__")
def A_f_is_corner (K : PySem.W.Frag) : Addr := adr (PySem.W.nsIn K mainGlobals "is_corner")
def A_f_check_corner (K : PySem.W.Frag) : Addr := adr (PySem.W.nsIn K mainGlobals "check_corner")
def A_f_is_tile (K : PySem.W.Frag) : Addr := adr (PySem.W.nsIn K mainGlobals "is_tile")
def A_f_plus (K : PySem.W.Frag) : Addr := adr (PySem.W.nsIn K mainGlobals "plus")
def A_f_moved_tiles (K : PySem.W.Frag) : Addr := adr (PySem.W.nsIn K mainGlobals "moved_tiles")
def A_f__law_sign (K : PySem.W.Frag) : Addr := adr (PySem.W.nsIn K mainGlobals "_law_sign")
def A_f__law_sum (K : PySem.W.Frag) : Addr := adr (PySem.W.nsIn K mainGlobals "_law_sum")
def A_f__law_less (K : PySem.W.Frag) : Addr := adr (PySem.W.nsIn K mainGlobals "_law_less")
def A_f__law_star (K : PySem.W.Frag) : Addr := adr (PySem.W.nsIn K mainGlobals "_law_star")
def A_f__law_within (K : PySem.W.Frag) : Addr := adr (PySem.W.nsIn K mainGlobals "_law_within")
def A_f__law_in_window (K : PySem.W.Frag) : Addr := adr (PySem.W.nsIn K mainGlobals "_law_in_window")
def A_f__law_has (K : PySem.W.Frag) : Addr := adr (PySem.W.nsIn K mainGlobals "_law_has")
def A_f__law_next (K : PySem.W.Frag) : Addr := adr (PySem.W.nsIn K mainGlobals "_law_next")
def A_f__law_sides (K : PySem.W.Frag) : Addr := adr (PySem.W.nsIn K mainGlobals "_law_sides")
def A_f__law_draw (K : PySem.W.Frag) : Addr := adr (PySem.W.nsIn K mainGlobals "_law_draw")
def A_f__law_pool (K : PySem.W.Frag) : Addr := adr (PySem.W.nsIn K mainGlobals "_law_pool")
def A_f__law_great (K : PySem.W.Frag) : Addr := adr (PySem.W.nsIn K mainGlobals "_law_great")
def A_f__law_corner (K : PySem.W.Frag) : Addr := adr (PySem.W.nsIn K mainGlobals "_law_corner")
def A_f__law_barred (K : PySem.W.Frag) : Addr := adr (PySem.W.nsIn K mainGlobals "_law_barred")
def A_f__law_point (K : PySem.W.Frag) : Addr := adr (PySem.W.nsIn K mainGlobals "_law_point")
def A_f__law_floor (K : PySem.W.Frag) : Addr := adr (PySem.W.nsIn K mainGlobals "_law_floor")
def A_f__law_negated (K : PySem.W.Frag) : Addr := adr (PySem.W.nsIn K mainGlobals "_law_negated")
def A_f__law_between (K : PySem.W.Frag) : Addr := adr (PySem.W.nsIn K mainGlobals "_law_between")
def A_f__law_tiles (K : PySem.W.Frag) : Addr := adr (PySem.W.nsIn K mainGlobals "_law_tiles")
def A_f__law_due (K : PySem.W.Frag) : Addr := adr (PySem.W.nsIn K mainGlobals "_law_due")
def A_f__law_heap (K : PySem.W.Frag) : Addr := adr (PySem.W.nsIn K mainGlobals "_law_heap")
def A_f_wrong_in_row (K : PySem.W.Frag) : Addr := adr (PySem.W.nsIn K mainGlobals "wrong_in_row")
def A_f_check_heap (K : PySem.W.Frag) : Addr := adr (PySem.W.nsIn K mainGlobals "check_heap")
def A_f_heap_moved (K : PySem.W.Frag) : Addr := adr (PySem.W.nsIn K mainGlobals "heap_moved")
def A_f__law_no_tile (K : PySem.W.Frag) : Addr := adr (PySem.W.nsIn K mainGlobals "_law_no_tile")
def A_f__law_no_corner (K : PySem.W.Frag) : Addr := adr (PySem.W.nsIn K mainGlobals "_law_no_corner")
def A_f__law_asked (K : PySem.W.Frag) : Addr := adr (PySem.W.nsIn K mainGlobals "_law_asked")
def A_f__law_refuses (K : PySem.W.Frag) : Addr := adr (PySem.W.nsIn K mainGlobals "_law_refuses")
def A_f_law (K : PySem.W.Frag) : Addr := adr (PySem.W.nsIn K mainGlobals "law")
def nsK : List Str := (["FloorError", "BadCorner", "BadHeap", "is_integral", "is_corner", "check_corner", "is_tile", "plus", "moved_tiles", "_law_sign", "_law_sum", "_law_less", "_law_star", "_law_within", "_law_in_window", "_law_has", "_law_next", "_law_sides", "_law_draw", "_law_pool", "_law_great", "_law_corner", "_law_barred", "_law_point", "_law_floor", "_law_negated", "_law_between", "_law_tiles", "_law_due", "_law_heap"] : List Str) ++ (["wrong_in_row", "check_heap", "heap_moved", "_law_no_tile", "_law_no_corner", "_law_asked", "_law_refuses", "law"] : List Str)
def namesK : List Str := (["__name__", "FloorError", "BadCorner", "BadHeap", "is_integral", "is_corner", "check_corner", "is_tile", "wrong_in_row", "MOST_TILES", "check_heap", "plus", "moved_tiles", "heap_moved", "_law_pool", "_law_draw", "_law_great", "_law_sign", "_law_star", "_law_sum", "_law_less", "_law_within", "_law_in_window", "_law_has", "_law_next", "_law_sides", "_law_between", "_law_barred", "_law_point", "_law_corner"] : List Str) ++ (["_law_floor", "_law_heap", "_law_negated", "_law_no_tile", "_law_no_corner", "_law_tiles", "_law_due", "_law_asked", "_law_refuses"] : List Str)
def bs0 (K : PySem.W.Frag) : List Bool := [
  decide (isIntV (PySem.W.nsIn K mainGlobals "MOST_TILES") 40 = true),
  isR (PySem.W.nsIn K mainGlobals "FloorError"),
  isR (PySem.W.nsIn K mainGlobals "BadCorner"),
  isR (PySem.W.nsIn K mainGlobals "BadHeap"),
  decide (PySem.W.nsIn K mainGlobals "all" = some none),
  decide (PySem.W.nsIn K mainGlobals "len" = some none),
  decide (PySem.W.nsIn K mainGlobals "isinstance" = some none),
  decide (PySem.W.nsIn K mainGlobals "tuple" = some none),
  decide (PySem.W.nsIn K mainGlobals "zip" = some none),
  decide (PySem.W.nsIn K mainGlobals "int" = some none),
  decide (PySem.W.nsIn K mainGlobals "range" = some none),
  decide (PySem.W.nsIn K mainGlobals "list" = some none),
  decide (PySem.W.nsIn K mainGlobals "abs" = some none),
  decide (PySem.W.nsIn K mainGlobals "sorted" = some none),
  decide (PySem.W.nsIn K mainGlobals "enumerate" = some none),
  decide (PySem.W.nsIn K mainGlobals "bool" = some none),
  excB K (A_c_BadCorner K) (A_c_FloorError K) [.type "ValueError", .type "Exception", .type "BaseException", .type "object"] "ValueError.__new__",
  decide (PySem.W.findIn K (.ref (A_c_BadCorner K)) "__setattr__" = some (some (.builtin "object.__setattr__"))),
  decide (PySem.W.mroIn K (A_c_BadCorner K) (.type "BaseException") = some true),
  decide (PySem.W.typeIn K (.ref (A_c_BadCorner K)) = some (.type "type")),
  decide (PySem.W.keepIn K (.ref (A_c_BadCorner K)) = true),
  decide (PySem.W.findIn K (.ref (A_c_BadCorner K)) "corner" = some none),
  decide (PySem.W.findIn K (.ref (A_c_BadCorner K)) "__getattribute__" = some (some (.builtin "BaseException.__getattribute__"))),
  decide (PySem.W.findIn K (.ref (A_c_BadCorner K)) "__getattr__" = some none),
  decide (PySem.W.hasDictIn K (A_c_BadCorner K) = true),
  decide (PySem.W.isClsIn K (A_c_BadCorner K) = true),
  decide (PySem.W.mroIn K (A_c_BadCorner K) (.ref (A_c_BadCorner K)) = some true),
  excB K (A_c_BadHeap K) (A_c_FloorError K) [.type "ValueError", .type "Exception", .type "BaseException", .type "object"] "ValueError.__new__",
  decide (PySem.W.findIn K (.ref (A_c_BadHeap K)) "__setattr__" = some (some (.builtin "object.__setattr__"))),
  decide (PySem.W.mroIn K (A_c_BadHeap K) (.type "BaseException") = some true),
  decide (PySem.W.typeIn K (.ref (A_c_BadHeap K)) = some (.type "type")),
  decide (PySem.W.keepIn K (.ref (A_c_BadHeap K)) = true),
  decide (PySem.W.findIn K (.ref (A_c_BadHeap K)) "index" = some none),
  decide (PySem.W.findIn K (.ref (A_c_BadHeap K)) "__getattribute__" = some (some (.builtin "BaseException.__getattribute__"))),
  decide (PySem.W.findIn K (.ref (A_c_BadHeap K)) "__getattr__" = some none),
  decide (PySem.W.hasDictIn K (A_c_BadHeap K) = true),
  decide (PySem.W.isClsIn K (A_c_BadHeap K) = true),
  decide (PySem.W.mroIn K (A_c_BadHeap K) (.ref (A_c_BadHeap K)) = some true),
  decide (PySem.W.mroIn K (A_c_BadCorner K) (.ref (A_c_BadHeap K)) = some false),
  decide (PySem.W.mroIn K (A_c_BadHeap K) (.ref (A_c_BadCorner K)) = some false),
  isR (PySem.W.nsIn K mainGlobals "is_integral"),
  decide (PySem.W.codeIn K (fdK K (A_f_is_integral K)).code "is_integral" = true),
  decide (PySem.W.keepIn K (.ref (A_f_is_integral K)) = true),
  isR (PySem.W.findIn K (.ref (A_c_BadCorner K)) "__init__"),
  decide (PySem.W.typeIn K (.ref (A_f_BadCorner_init K)) = some (.type "function")),
  decide (PySem.W.codeIn K (fdK K (A_f_BadCorner_init K)).code "BadCorner.__init__" = true),
  decide (PySem.W.keepIn K (.ref (A_f_BadCorner_init K)) = true),
  isR (PySem.W.findIn K (.ref (A_c_BadHeap K)) "__init__"),
  decide (PySem.W.typeIn K (.ref (A_f_BadHeap_init K)) = some (.type "function")),
  decide (PySem.W.codeIn K (fdK K (A_f_BadHeap_init K)).code "BadHeap.__init__" = true),
  decide (PySem.W.keepIn K (.ref (A_f_BadHeap_init K)) = true),
  isR (PySem.W.nsIn K mainGlobals "is_corner"),
  decide (PySem.W.codeIn K (fdK K (A_f_is_corner K)).code "is_corner" = true),
  decide (PySem.W.keepIn K (.ref (A_f_is_corner K)) = true),
  isR (PySem.W.nsIn K mainGlobals "check_corner"),
  decide (PySem.W.codeIn K (fdK K (A_f_check_corner K)).code "check_corner" = true),
  decide (PySem.W.keepIn K (.ref (A_f_check_corner K)) = true),
  isR (PySem.W.nsIn K mainGlobals "is_tile"),
  decide (PySem.W.codeIn K (fdK K (A_f_is_tile K)).code "is_tile" = true),
  decide (PySem.W.keepIn K (.ref (A_f_is_tile K)) = true),
  isR (PySem.W.nsIn K mainGlobals "plus"),
  decide (PySem.W.codeIn K (fdK K (A_f_plus K)).code "plus" = true),
  decide (PySem.W.keepIn K (.ref (A_f_plus K)) = true),
  isR (PySem.W.nsIn K mainGlobals "moved_tiles"),
  decide (PySem.W.codeIn K (fdK K (A_f_moved_tiles K)).code "moved_tiles" = true),
  decide (PySem.W.keepIn K (.ref (A_f_moved_tiles K)) = true),
  isR (PySem.W.nsIn K mainGlobals "_law_sign"),
  decide (PySem.W.codeIn K (fdK K (A_f__law_sign K)).code "_law_sign" = true),
  decide (PySem.W.keepIn K (.ref (A_f__law_sign K)) = true),
  isR (PySem.W.nsIn K mainGlobals "_law_sum"),
  decide (PySem.W.codeIn K (fdK K (A_f__law_sum K)).code "_law_sum" = true),
  decide (PySem.W.keepIn K (.ref (A_f__law_sum K)) = true),
  isR (PySem.W.nsIn K mainGlobals "_law_less"),
  decide (PySem.W.codeIn K (fdK K (A_f__law_less K)).code "_law_less" = true),
  decide (PySem.W.keepIn K (.ref (A_f__law_less K)) = true),
  isR (PySem.W.nsIn K mainGlobals "_law_star"),
  decide (PySem.W.codeIn K (fdK K (A_f__law_star K)).code "_law_star" = true),
  decide (PySem.W.keepIn K (.ref (A_f__law_star K)) = true),
  isR (PySem.W.nsIn K mainGlobals "_law_within"),
  decide (PySem.W.codeIn K (fdK K (A_f__law_within K)).code "_law_within" = true),
  decide (PySem.W.keepIn K (.ref (A_f__law_within K)) = true),
  isR (PySem.W.nsIn K mainGlobals "_law_in_window"),
  decide (PySem.W.codeIn K (fdK K (A_f__law_in_window K)).code "_law_in_window" = true),
  decide (PySem.W.keepIn K (.ref (A_f__law_in_window K)) = true),
  isR (PySem.W.nsIn K mainGlobals "_law_has"),
  decide (PySem.W.codeIn K (fdK K (A_f__law_has K)).code "_law_has" = true),
  decide (PySem.W.keepIn K (.ref (A_f__law_has K)) = true),
  isR (PySem.W.nsIn K mainGlobals "_law_next"),
  decide (PySem.W.codeIn K (fdK K (A_f__law_next K)).code "_law_next" = true),
  decide (PySem.W.keepIn K (.ref (A_f__law_next K)) = true),
  isR (PySem.W.nsIn K mainGlobals "_law_sides"),
  decide (PySem.W.codeIn K (fdK K (A_f__law_sides K)).code "_law_sides" = true),
  decide (PySem.W.keepIn K (.ref (A_f__law_sides K)) = true),
  isR (PySem.W.nsIn K mainGlobals "_law_draw"),
  decide (PySem.W.codeIn K (fdK K (A_f__law_draw K)).code "_law_draw" = true),
  decide (PySem.W.keepIn K (.ref (A_f__law_draw K)) = true),
  isR (PySem.W.nsIn K mainGlobals "_law_pool"),
  decide (PySem.W.codeIn K (fdK K (A_f__law_pool K)).code "_law_pool" = true),
  decide (PySem.W.keepIn K (.ref (A_f__law_pool K)) = true),
  isR (PySem.W.nsIn K mainGlobals "_law_great")]
def bs1 (K : PySem.W.Frag) : List Bool := [
  decide (PySem.W.codeIn K (fdK K (A_f__law_great K)).code "_law_great" = true),
  decide (PySem.W.keepIn K (.ref (A_f__law_great K)) = true),
  isR (PySem.W.nsIn K mainGlobals "_law_corner"),
  decide (PySem.W.codeIn K (fdK K (A_f__law_corner K)).code "_law_corner" = true),
  decide (PySem.W.keepIn K (.ref (A_f__law_corner K)) = true),
  isR (PySem.W.nsIn K mainGlobals "_law_barred"),
  decide (PySem.W.codeIn K (fdK K (A_f__law_barred K)).code "_law_barred" = true),
  decide (PySem.W.keepIn K (.ref (A_f__law_barred K)) = true),
  isR (PySem.W.nsIn K mainGlobals "_law_point"),
  decide (PySem.W.codeIn K (fdK K (A_f__law_point K)).code "_law_point" = true),
  decide (PySem.W.keepIn K (.ref (A_f__law_point K)) = true),
  isR (PySem.W.nsIn K mainGlobals "_law_floor"),
  decide (PySem.W.codeIn K (fdK K (A_f__law_floor K)).code "_law_floor" = true),
  decide (PySem.W.keepIn K (.ref (A_f__law_floor K)) = true),
  isR (PySem.W.nsIn K mainGlobals "_law_negated"),
  decide (PySem.W.codeIn K (fdK K (A_f__law_negated K)).code "_law_negated" = true),
  decide (PySem.W.keepIn K (.ref (A_f__law_negated K)) = true),
  isR (PySem.W.nsIn K mainGlobals "_law_between"),
  decide (PySem.W.codeIn K (fdK K (A_f__law_between K)).code "_law_between" = true),
  decide (PySem.W.keepIn K (.ref (A_f__law_between K)) = true),
  isR (PySem.W.nsIn K mainGlobals "_law_tiles"),
  decide (PySem.W.codeIn K (fdK K (A_f__law_tiles K)).code "_law_tiles" = true),
  decide (PySem.W.keepIn K (.ref (A_f__law_tiles K)) = true),
  isR (PySem.W.nsIn K mainGlobals "_law_due"),
  decide (PySem.W.codeIn K (fdK K (A_f__law_due K)).code "_law_due" = true),
  decide (PySem.W.keepIn K (.ref (A_f__law_due K)) = true),
  isR (PySem.W.nsIn K mainGlobals "_law_heap"),
  decide (PySem.W.codeIn K (fdK K (A_f__law_heap K)).code "_law_heap" = true),
  decide (PySem.W.keepIn K (.ref (A_f__law_heap K)) = true),
  isR (PySem.W.nsIn K mainGlobals "wrong_in_row"),
  decide (PySem.W.codeIn K (fdK K (A_f_wrong_in_row K)).code "wrong_in_row" = true),
  decide (PySem.W.keepIn K (.ref (A_f_wrong_in_row K)) = true),
  isR (PySem.W.nsIn K mainGlobals "check_heap"),
  decide (PySem.W.codeIn K (fdK K (A_f_check_heap K)).code "check_heap" = true),
  decide (PySem.W.keepIn K (.ref (A_f_check_heap K)) = true),
  isR (PySem.W.nsIn K mainGlobals "heap_moved"),
  decide (PySem.W.codeIn K (fdK K (A_f_heap_moved K)).code "heap_moved" = true),
  decide (PySem.W.keepIn K (.ref (A_f_heap_moved K)) = true),
  isR (PySem.W.nsIn K mainGlobals "_law_no_tile"),
  decide (PySem.W.codeIn K (fdK K (A_f__law_no_tile K)).code "_law_no_tile" = true),
  decide (PySem.W.keepIn K (.ref (A_f__law_no_tile K)) = true),
  isR (PySem.W.nsIn K mainGlobals "_law_no_corner"),
  decide (PySem.W.codeIn K (fdK K (A_f__law_no_corner K)).code "_law_no_corner" = true),
  decide (PySem.W.keepIn K (.ref (A_f__law_no_corner K)) = true),
  isR (PySem.W.nsIn K mainGlobals "_law_asked"),
  decide (PySem.W.codeIn K (fdK K (A_f__law_asked K)).code "_law_asked" = true),
  decide (PySem.W.keepIn K (.ref (A_f__law_asked K)) = true),
  isR (PySem.W.nsIn K mainGlobals "_law_refuses"),
  decide (PySem.W.codeIn K (fdK K (A_f__law_refuses K)).code "_law_refuses" = true),
  decide (PySem.W.keepIn K (.ref (A_f__law_refuses K)) = true),
  isR (PySem.W.nsIn K mainGlobals "law"),
  decide (PySem.W.codeIn K (fdK K (A_f_law K)).code "law" = true),
  decide (PySem.W.keepIn K (.ref (A_f_law K)) = true)]
def fs0 (K : PySem.W.Frag) : List FnT := [
  fnT K (A_f_is_integral K),
  fnT K (A_f_BadCorner_init K),
  fnT K (A_f_BadHeap_init K),
  fnT K (A_f_is_corner K),
  fnT K (A_f_check_corner K),
  fnT K (A_f_is_tile K),
  fnT K (A_f_plus K),
  fnT K (A_f_moved_tiles K),
  fnT K (A_f__law_sign K),
  fnT K (A_f__law_sum K),
  fnT K (A_f__law_less K),
  fnT K (A_f__law_star K),
  fnT K (A_f__law_within K),
  fnT K (A_f__law_in_window K),
  fnT K (A_f__law_has K),
  fnT K (A_f__law_next K),
  fnT K (A_f__law_sides K),
  fnT K (A_f__law_draw K),
  fnT K (A_f__law_pool K),
  fnT K (A_f__law_great K),
  fnT K (A_f__law_corner K),
  fnT K (A_f__law_barred K),
  fnT K (A_f__law_point K),
  fnT K (A_f__law_floor K),
  fnT K (A_f__law_negated K),
  fnT K (A_f__law_between K),
  fnT K (A_f__law_tiles K),
  fnT K (A_f__law_due K),
  fnT K (A_f__law_heap K),
  fnT K (A_f_wrong_in_row K),
  fnT K (A_f_check_heap K),
  fnT K (A_f_heap_moved K),
  fnT K (A_f__law_no_tile K),
  fnT K (A_f__law_no_corner K),
  fnT K (A_f__law_asked K),
  fnT K (A_f__law_refuses K),
  fnT K (A_f_law K)]
def ws0 : List FnT := [
  fnE "is_integral" "is_integral" Z_s_is_integral,
  fnE "__init__" "BadCorner.__init__" Z_s_BadCorner_init,
  fnE "__init__" "BadHeap.__init__" Z_s_BadHeap_init,
  fnE "is_corner" "is_corner" Z_s_is_corner,
  fnE "check_corner" "check_corner" Z_s_check_corner,
  fnE "is_tile" "is_tile" Z_s_is_tile,
  fnE "plus" "plus" Z_s_plus,
  fnE "moved_tiles" "moved_tiles" Z_s_moved_tiles,
  fnE "_law_sign" "_law_sign" Z_s__law_sign,
  fnE "_law_sum" "_law_sum" Z_s__law_sum,
  fnE "_law_less" "_law_less" Z_s__law_less,
  fnE "_law_star" "_law_star" Z_s__law_star,
  fnE "_law_within" "_law_within" Z_s__law_within,
  fnE "_law_in_window" "_law_in_window" Z_s__law_in_window,
  fnE "_law_has" "_law_has" Z_s__law_has,
  fnE "_law_next" "_law_next" Z_s__law_next,
  fnE "_law_sides" "_law_sides" Z_s__law_sides,
  fnE "_law_draw" "_law_draw" Z_s__law_draw,
  fnE "_law_pool" "_law_pool" Z_s__law_pool,
  fnE "_law_great" "_law_great" Z_s__law_great,
  fnE "_law_corner" "_law_corner" Z_s__law_corner,
  fnE "_law_barred" "_law_barred" Z_s__law_barred,
  fnE "_law_point" "_law_point" Z_s__law_point,
  fnE "_law_floor" "_law_floor" Z_s__law_floor,
  fnE "_law_negated" "_law_negated" Z_s__law_negated,
  fnE "_law_between" "_law_between" Z_s__law_between,
  fnE "_law_tiles" "_law_tiles" Z_s__law_tiles,
  fnE "_law_due" "_law_due" Z_s__law_due,
  fnE "_law_heap" "_law_heap" Z_s__law_heap,
  fnE "wrong_in_row" "wrong_in_row" Z_s_wrong_in_row,
  fnE "check_heap" "check_heap" Z_s_check_heap,
  fnE "heap_moved" "heap_moved" Z_s_heap_moved,
  fnE "_law_no_tile" "_law_no_tile" Z_s__law_no_tile,
  fnE "_law_no_corner" "_law_no_corner" Z_s__law_no_corner,
  fnE "_law_asked" "_law_asked" Z_s__law_asked,
  fnE "_law_refuses" "_law_refuses" Z_s__law_refuses,
  fnE "law" "law" Z_s_law]
def bsK (K : PySem.W.Frag) : List Bool := bs0 K ++ (bs1 K ++ ([]))
def fsK (K : PySem.W.Frag) : List FnT := fs0 K ++ ([])
def wsK : List FnT := ws0 ++ ([])
theorem run0 (w : World) : HandSHeadRun.RunEqI (PySem.W.OpenLaw.row PySem.Challenge.rw_threetiles_k54_heaps_moved) (PySem.W.view (PySem.W.OpenLaw.row PySem.Challenge.rw_threetiles_k54_heaps_moved).prog [45]) (hookF nsK (fun _ => []) (fun _ => []) []) (obF nsK (fun _ => []) (fun _ => [])) 20000 namesK w := by
  unfold HandSHeadRun.RunEqI
  kernel_rfl
theorem runB0 (w : World) : RunB (PySem.W.OpenLaw.row PySem.Challenge.rw_threetiles_k54_heaps_moved) 20000 w nsK bs0 := by
  unfold RunB
  kernel_rfl
theorem runB1 (w : World) : RunB (PySem.W.OpenLaw.row PySem.Challenge.rw_threetiles_k54_heaps_moved) 20000 w nsK bs1 := by
  unfold RunB
  kernel_rfl
theorem runF0 (w : World) : RunF (PySem.W.OpenLaw.row PySem.Challenge.rw_threetiles_k54_heaps_moved) 20000 w nsK fs0 ws0 := by
  unfold RunF
  kernel_rfl
theorem runH (w : World) : HandSHeadRun.RunEqI (PySem.W.OpenLaw.row PySem.Challenge.rw_threetiles_k54_heaps_moved) (PySem.W.view (PySem.W.OpenLaw.row PySem.Challenge.rw_threetiles_k54_heaps_moved).prog [45]) (hookF nsK bsK fsK wsK) (obF nsK bsK fsK) 20000 namesK w :=
  run_f (run_b (run_b (run0 w) (runB1 w)) (runB0 w)) (runF0 w)
end L2.My

/-! W0: what all my proofs share: callees by name (Has), steps that walk a reading (walk_at "w"), wide rules. -/
namespace L2.My
open PySem PySem.Spec PyProof.Rows

/-! ### callees by name -/
section
variable (P : Program) (w : World) (K : PySem.W.Frag) (mg : Str → Option Value) (base : Heap)
/-- a def of the module that keeps a promise -/
def Has (x : Str) (k : Nat) (ps : List Str) (sp : Sp) : Prop :=
  ∃ f fd, FnOk P w K mg base (L2.CX P w) k f fd ps sp ∧ mg x = some (.ref f) ∧ PySem.W.keepIn K (.ref f) = true ∧ Binds K fd ps []
/-- a method -/
def HasM (C : Addr) (m : Str) (k : Nat) (ps : List Str) (sp : Sp) : Prop :=
  ∃ f fd, FnOk P w K mg base (L2.CX P w) k f fd ps sp ∧ Meth K C m f ∧ Binds K fd ps []
/-- a class that is made -/
def HasC (x : Str) (C : Addr) (k : Nat) (ps : List Str) (sp : Sp) : Prop :=
  ∃ f fd, FnOk P w K mg base (L2.CX P w) k f fd ps sp ∧ Mk K C f ∧ mg x = some (.ref C) ∧ Binds K fd ps []
end
section
variable {X : Cx} {x m : Str} {k j : Nat} {ps : List Str} {sp : Sp} {E : St → XK} {e o : Expr} {es : List Expr} {t : TA} {ta : TE} {p pos apos : Pos} {C f : Addr} {fd : FuncData}
/-- nothing is let out -/
theorem pa0 : ∀ σ, PassesAt (L2.CX X.prog X.w) X σ ((fun _ => E0 : St → XK) σ) := fun σ pins H s e s' I h => passL pins σ H s e s' I h
/-- what is wished at the slots -/
theorem paW {W : WX} (tk : Takes X W) : ∀ σ, PassesAt (L2.CX X.prog X.w) X σ (WE W σ) := fun σ => passAt tk σ
/-- what the def wishes of an exception -/
abbrev ED (E : XK) : St → XK := WE (fun cls d _ H => E cls d H)
theorem pe_h (h : Has X.prog X.w X.K X.mg X.base x k ps sp) (hr : Room j X.A) (hx : ∀ σ, PassesAt (L2.CX X.prog X.w) X σ (E σ)) (ha : PA X (e :: es) t) (hj : k ≤ j := by decide) (hg : Gl X x := by rfl) (hdb : (x == ("__debug__" : Str)) = false := by decide)
    (he : starEach (e :: es) X.env = (false, eval e X.env) :: starEach es X.env := by rfl) (hpl : (backTo pos (starEach es X.env)).any (·.1) = false := by rfl) :
    PE X (.Call (.Name x p) (e :: es) [] pos) (tCallS sp E t) := by
  obtain ⟨f, fd, F, hm, hk, hb⟩ := h
  exact pe_callS F (hr.mono hj) hg hm hk hb hx ha hdb he hpl
theorem pe_h0 (h : Has X.prog X.w X.K X.mg X.base x k ps sp) (hr : Room j X.A) (hx : ∀ σ, PassesAt (L2.CX X.prog X.w) X σ (E σ)) (hj : k ≤ j := by decide) (hg : Gl X x := by rfl) (hdb : (x == ("__debug__" : Str)) = false := by decide) :
    PE X (.Call (.Name x p) [] [] pos) (tCallS sp E tNil) := by
  obtain ⟨f, fd, F, hm, hk, hb⟩ := h
  refine ⟨fun pins s σ H Q I hh => ?_⟩
  refine wpAny_Call_Name_kw (ld_glob I hg hm ?_ hdb)
  exact PySem.W.callWith_K0 I.kIn hk (run_fnS (us := []) F (hr.mono hj) hb (hx σ) I .nil hh)
/-- C(..) -/
theorem run_makeS {pins : List (Addr × Obj)} {σ : St} {H : Hp} {s : Shared} {Q : VK} {us : List Value} {vs : List V} (M : Mk X.K C f) (F : FnOk X.prog X.w X.K X.mg X.base (L2.CX X.prog X.w) k f fd ps sp) (hr : Room (k + 1) X.A) (hb : Binds X.K fd ps [])
    (hx : PassesAt (L2.CX X.prog X.w) X σ (E σ)) (I : Inv X pins σ H s) (r : Vals vs us)
    (h : ∀ x dx, H x = none → H dx = none → dx ≠ x → sp (.ref x :: vs) (upd (upd H dx (.own x)) x (.ins C dx [])) (fun v H2 => v = .non ∧ Q (.ref x) H2) (E σ)) :
    wpAny (model X.prog X.w) X.A (call (.ref C) us) (EP X pins σ Q) X.xe s := by
  have hq := h (s.heap.objs.size + 1) s.heap.objs.size (I.hok.fresh (Nat.le_succ _)) (I.hok.fresh (Nat.le_refl _)) (Nat.ne_of_lt (Nat.lt_succ_self _))
  have I2 := Inv.made (C := C) I
  have r2 : Vals (V.ref (s.heap.objs.size + 1) :: vs) (Value.ref (s.heap.objs.size + 1) :: us) := .cons rfl r
  have hl : (Value.ref (s.heap.objs.size + 1) :: us).length = ps.length := by
    have e := r2.length
    rw [F.len _ _ _ _ hq] at e
    exact e.symm
  have bb := hb _ (Value.ref (s.heap.objs.size + 1) :: us) I2.kIn (by rw [List.append_nil]; exact hl)
  rw [List.append_nil] at bb
  refine wpAny_call (make_map (f := f) I.kIn M.makes M.init (beq_iff_eq.mp M.fn) (codeAny_mono (F.run _ X.stack _ _ ⟨Value.ref (s.heap.objs.size + 1) :: us, []⟩ (Value.ref (s.heap.objs.size + 1) :: us) _ _ (E σ) (hr.make C us [])
    (I2.env0.make C us []) bb r2 hq) fun r s' hq' => ?_))
  cases r with
  | error e => exact hx pins _ _ e s' I2 hq'
  | ok fl =>
    cases fl with
    | ret u =>
      obtain ⟨v, H', I3, rv, ev, q3⟩ := I2.after hq'
      subst ev
      exact ⟨rv, ⟨V.ref (s.heap.objs.size + 1), H', I3, rfl, q3⟩⟩
    | next => exact False.elim hq'
    | brk => exact False.elim hq'
    | cont => exact False.elim hq'
def tMakeS (C : Addr) (sp : Sp) (E : St → XK) (t : TA) : TE := fun σ H Q => t σ H fun vs H1 => ∀ x dx, H1 x = none → H1 dx = none → dx ≠ x →
  sp (.ref x :: vs) (upd (upd H1 dx (.own x)) x (.ins C dx [])) (fun v H2 => v = .non ∧ Q (.ref x) H2) (E σ)
theorem pe_hc (h : HasC X.prog X.w X.K X.mg X.base x C k ps sp) (hr : Room j X.A) (hx : ∀ σ, PassesAt (L2.CX X.prog X.w) X σ (E σ)) (ha : PA X (e :: es) t) (hj : k + 1 ≤ j := by decide) (hg : Gl X x := by rfl) (hdb : (x == ("__debug__" : Str)) = false := by decide)
    (he : starEach (e :: es) X.env = (false, eval e X.env) :: starEach es X.env := by rfl) (hpl : (backTo pos (starEach es X.env)).any (·.1) = false := by rfl) :
    PE X (.Call (.Name x p) (e :: es) [] pos) (tMakeS C sp E t) := by
  obtain ⟨f, fd, F, M, hm, hb⟩ := h
  refine ⟨fun pins s σ H Q I h => ?_⟩
  refine wpAny_Call_Name_kw (ld_glob I hg hm ?_ hdb)
  refine PySem.W.callWith_K (h₀ := X.base) I.ok.mod.kin M.kp (thn (ha.run pos pins s σ H _ I h) fun us s1 ⟨vs, H1, I1, r, q⟩ => ⟨I1.kIn, ?_⟩) he hpl
  exact run_makeS M F (hr.mono hj) hb (hx σ) I1 r q
/-- o.m(..) -/
def tMethS (C : Addr) (m : Str) (sp : Sp) (E : St → XK) (ta : TE) (t : TA) : TE := fun σ H Q => ta σ H fun x H1 => ∃ a dx fs, x = .ref a ∧ H1 a = some (.ins C dx fs) ∧ fs.lookup m = none ∧
  t σ H1 fun vs H2 => sp (x :: vs) H2 Q (E σ)
theorem pe_hm {pl : Sem Bool} (h : HasM X.prog X.w X.K X.mg X.base C m k ps sp) (c : Cls X.K C) (hr : Room j X.A) (hx : ∀ σ, PassesAt (L2.CX X.prog X.w) X σ (E σ)) (ho : PE X o ta) (ha : PA X (e :: es) t) (hj : k ≤ j := by decide)
    (hst : starEach (e :: es) X.env = (false, eval e X.env) :: starEach es X.env := by rfl) (hpl : (backTo pos (starEach es X.env)).any (·.1) = false := by rfl)
    (ht : eval (.Call (.Attribute o m apos) (e :: es) [] pos) X.env = (do
      let ov ← eval o X.env
      standAt apos.atName
      let (f, first) ← holding [ov] (getMethod ov m pl)
      callWith pos f first (backTo pos (starEach (e :: es) X.env)) (backToKw pos (keywordEach [] X.env))) := by rfl) :
    PE X (.Call (.Attribute o m apos) (e :: es) [] pos) (tMethS C m sp E ta t) := by
  obtain ⟨f, fd, F, hm, hb⟩ := h
  refine ⟨fun pins s σ H Q I h => ?_⟩
  refine PySem.W.methodCall_KW (pl := pl) (thn (ho.run pins s σ H _ I h) fun u s1 ⟨x, H1, I1, rx, a, dx, fs, ex, ea, l, q⟩ => ?_) ht
  subst ex
  obtain rfl : u = Value.ref a := rx
  refine getmeth_ok I1 ea c hm l ?_
  refine PySem.W.callWith_K (first := [.ref a]) (h₀ := X.base) I.ok.mod.kin hm.kp (thn (ha.run pos pins s1 σ H1 _ I1 q) fun us s2 ⟨vs, H2, I2, r, q2⟩ => ⟨I2.kIn, ?_⟩) hst hpl
  exact run_fnS (us := .ref a :: us) (vs := .ref a :: vs) F (hr.mono hj) hb (hx σ) I2 (.cons rfl r) q2
theorem pe_hm0 {pl : Sem Bool} (h : HasM X.prog X.w X.K X.mg X.base C m k ps sp) (c : Cls X.K C) (hr : Room j X.A) (hx : ∀ σ, PassesAt (L2.CX X.prog X.w) X σ (E σ)) (ho : PE X o ta) (hj : k ≤ j := by decide)
    (ht : eval (.Call (.Attribute o m apos) [] [] pos) X.env = (do
      let ov ← eval o X.env
      standAt apos.atName
      let (f, first) ← holding [ov] (getMethod ov m pl)
      callWith pos f first (backTo pos (starEach [] X.env)) (backToKw pos (keywordEach [] X.env))) := by rfl) :
    PE X (.Call (.Attribute o m apos) [] [] pos) (tMethS C m sp E ta tNil) := by
  obtain ⟨f, fd, F, hm, hb⟩ := h
  refine ⟨fun pins s σ H Q I h => ?_⟩
  refine PySem.W.methodCall_KW (pl := pl) (thn (ho.run pins s σ H _ I h) fun u s1 ⟨x, H1, I1, rx, a, dx, fs, ex, ea, l, q⟩ => ?_) ht
  subst ex
  obtain rfl : u = Value.ref a := rx
  refine getmeth_ok I1 ea c hm l ?_
  exact PySem.W.callWith_K0 (first := [.ref a]) I1.kIn hm.kp (run_fnS (us := [.ref a]) (vs := [.ref a]) F (hr.mono hj) hb (hx σ) I1 (.cons rfl .nil) q)
end

/-! ### numbers of any size -/
/-- // by what is not 0, below 2 ^ 9000 in size -/
def CDivN9 (_ j : Int) : Prop := j ≠ 0 ∧ j.natAbs.log2 < 9000
section
variable {X : Cx}
theorem op_fdivV : OpR X (binaryOp .FloorDiv) (rI CDivN9 fun i j => .int (i.fdiv j)) := opI fun i j _ _ _ _ _ hc q =>
  floordiv_int hc.1 q (.inl (PyProof.noPylong_of_log2 hc.2))
end

/-! ### steps that walk a reading -/
section
variable {σ σ' : St} {H : Hp} {v x y : V} {i j : Int} {n : Nat} {b : Bool} {ta tb te : TE} {t u : TT} {ts us : TS} {r : R2} {D : Ends} {Q : VK} {QB : Bool → Hp → Prop} {QL : List V → Hp → Prop} {tl : TA}
theorem w_var (h : σ[n]? = some (some v)) (q : Q v H) : tVar n σ H Q := ⟨v, h, q⟩
theorem w_c (q : Q v H) : tC v σ H Q := q
theorem w_op (q : ta σ H fun x H1 => tb σ H1 fun y H2 => r x y H2 Q) : tOp r ta tb σ H Q := q
theorem w_un {r : V → Hp → VK → Prop} (q : ta σ H fun x H1 => r x H1 Q) : tUn r ta σ H Q := q
theorem w_I0 {g : Int → Int → V} (q : Q (g i j) H) : rI0 g (.int i) (.int j) H Q := ⟨i, j, rfl, rfl, q⟩
theorem w_I {C : Int → Int → Prop} {g : Int → Int → V} (c : C i j) (q : Q (g i j) H) : rI C g (.int i) (.int j) H Q := ⟨i, j, rfl, rfl, c, q⟩
theorem w_U {g : Int → V} (q : Q (g i) H) : rU g (.int i) H Q := ⟨i, rfl, q⟩
theorem w_eq (h : scal x y = true) (q : Q (.bl (decide (x = y))) H) : rEq x y H Q := ⟨h, q⟩
theorem w_ne (h : scal x y = true) (q : Q (.bl (!decide (x = y))) H) : rNe x y H Q := ⟨h, q⟩
theorem w_test (q : te σ H fun x H' => ∃ k, x = .bl k ∧ QB k H') : tTest te σ H QB := q
theorem w_B (q : te σ H fun x H' => ∃ k, x = .bl k ∧ QB k H') : tB te σ H QB := q
theorem w_bl (q : QB b H) : ∃ k, V.bl b = .bl k ∧ QB k H := ⟨b, rfl, q⟩
theorem w_and (q : t σ H fun c H1 => if c = true then u σ H1 QB else QB false H1) : tAnd t u σ H QB := q
theorem w_or (q : t σ H fun c H1 => if c = true then QB true H1 else u σ H1 QB) : tOr t u σ H QB := q
theorem w_not (q : t σ H fun c H1 => QB (!c) H1) : tNot t σ H QB := q
theorem w_andV (q : ta σ H fun x H1 => ∃ c, x = .bl c ∧ if c = true then tb σ H1 Q else Q (.bl false) H1) : tAndV ta tb σ H Q := q
theorem w_orV (q : ta σ H fun x H1 => ∃ c, x = .bl c ∧ if c = true then Q (.bl true) H1 else tb σ H1 Q) : tOrV ta tb σ H Q := q
theorem w_notV (q : ta σ H fun x H1 => ∃ c, x = .bl c ∧ Q (.bl (!c)) H1) : tNotV ta σ H Q := q
theorem w_blV {p : Bool → Prop} (q : p b) : ∃ c, V.bl b = .bl c ∧ p c := ⟨b, rfl, q⟩
theorem w_seq {nx bk ct : L2.St → Hp → Prop} {rt : VK} (q : ts ⟨us ⟨nx, rt, bk, ct⟩, rt, bk, ct⟩ σ H) : tSeq ts us ⟨nx, rt, bk, ct⟩ σ H := q
theorem w_next {nx bk ct : L2.St → Hp → Prop} {rt : VK} (q : nx σ H) : tNext ⟨nx, rt, bk, ct⟩ σ H := q
theorem w_asg {g : TG} {nx bk ct : L2.St → Hp → Prop} {rt : VK} (q : te σ H fun x H1 => g x σ H1 nx) : tAsg te g ⟨nx, rt, bk, ct⟩ σ H := q
theorem w_drop {nx bk ct : L2.St → Hp → Prop} {rt : VK} (q : te σ H fun _ H1 => nx σ H1) : tDrop te ⟨nx, rt, bk, ct⟩ σ H := q
theorem w_ret {nx bk ct : L2.St → Hp → Prop} {rt : VK} (q : te σ H rt) : tRet te ⟨nx, rt, bk, ct⟩ σ H := q
theorem w_if {c : TT} (q : c σ H fun b H1 => if b = true then ts D σ H1 else us D σ H1) : tIfS c ts us D σ H := q
theorem w_name {N : St → Hp → Prop} (h : σ.set n (some v) = σ') (q : N σ' H) : gName n v σ H N := by rw [← h] at q; exact q
theorem w_nil (q : QL [] H) : tNil σ H QL := q
theorem w_cons (q : te σ H fun x H1 => tl σ H1 fun xs H2 => QL (x :: xs) H2) : tCons te tl σ H QL := q
theorem w_T {A B : Prop} {c : Bool} (h : c = true) (q : A) : if c = true then A else B := by rw [h]; exact iteT q
theorem w_F {A B : Prop} {c : Bool} (h : c = false) (q : B) : if c = true then A else B := by rw [h]; exact iteF q
theorem w_ite {c A B : Prop} [Decidable c] (h1 : c → A) (h2 : ¬ c → B) : if decide c = true then A else B := by
  by_cases h : c
  · rw [decide_eq_true h]; exact iteT (h1 h)
  · rw [decide_eq_false h]; exact iteF (h2 h)
theorem w_call {sp : Sp} {E : St → XK} (q : tl σ H fun vs H1 => sp vs H1 Q (E σ)) : tCallS sp E tl σ H Q := q
theorem w_cb {r : List V → Hp → VK → Prop} (q : tl σ H fun vs H1 => r vs H1 Q) : tCB r tl σ H Q := q
theorem set0 {a0 : Option V} {l : St} : (a0 :: l).set 0 (some v) = some v :: l := rfl
theorem set1 {a0 a1 : Option V} {l : St} : (a0 :: a1 :: l).set 1 (some v) = a0 :: some v :: l := rfl
theorem set2 {a0 a1 a2 : Option V} {l : St} : (a0 :: a1 :: a2 :: l).set 2 (some v) = a0 :: a1 :: some v :: l := rfl
theorem set3 {a0 a1 a2 a3 : Option V} {l : St} : (a0 :: a1 :: a2 :: a3 :: l).set 3 (some v) = a0 :: a1 :: a2 :: some v :: l := rfl
theorem set4 {a0 a1 a2 a3 a4 : Option V} {l : St} : (a0 :: a1 :: a2 :: a3 :: a4 :: l).set 4 (some v) = a0 :: a1 :: a2 :: a3 :: some v :: l := rfl
theorem set5 {a0 a1 a2 a3 a4 a5 : Option V} {l : St} : (a0 :: a1 :: a2 :: a3 :: a4 :: a5 :: l).set 5 (some v) = a0 :: a1 :: a2 :: a3 :: a4 :: some v :: l := rfl
theorem set6 {a0 a1 a2 a3 a4 a5 a6 : Option V} {l : St} : (a0 :: a1 :: a2 :: a3 :: a4 :: a5 :: a6 :: l).set 6 (some v) = a0 :: a1 :: a2 :: a3 :: a4 :: a5 :: some v :: l := rfl
theorem set7 {a0 a1 a2 a3 a4 a5 a6 a7 : Option V} {l : St} : (a0 :: a1 :: a2 :: a3 :: a4 :: a5 :: a6 :: a7 :: l).set 7 (some v) = a0 :: a1 :: a2 :: a3 :: a4 :: a5 :: a6 :: some v :: l := rfl
theorem set8 {a0 a1 a2 a3 a4 a5 a6 a7 a8 : Option V} {l : St} : (a0 :: a1 :: a2 :: a3 :: a4 :: a5 :: a6 :: a7 :: a8 :: l).set 8 (some v) = a0 :: a1 :: a2 :: a3 :: a4 :: a5 :: a6 :: a7 :: some v :: l := rfl
theorem set9 {a0 a1 a2 a3 a4 a5 a6 a7 a8 a9 : Option V} {l : St} : (a0 :: a1 :: a2 :: a3 :: a4 :: a5 :: a6 :: a7 :: a8 :: a9 :: l).set 9 (some v) = a0 :: a1 :: a2 :: a3 :: a4 :: a5 :: a6 :: a7 :: a8 :: some v :: l := rfl
theorem set10 {a0 a1 a2 a3 a4 a5 a6 a7 a8 a9 a10 : Option V} {l : St} : (a0 :: a1 :: a2 :: a3 :: a4 :: a5 :: a6 :: a7 :: a8 :: a9 :: a10 :: l).set 10 (some v) = a0 :: a1 :: a2 :: a3 :: a4 :: a5 :: a6 :: a7 :: a8 :: a9 :: some v :: l := rfl
theorem set11 {a0 a1 a2 a3 a4 a5 a6 a7 a8 a9 a10 a11 : Option V} {l : St} : (a0 :: a1 :: a2 :: a3 :: a4 :: a5 :: a6 :: a7 :: a8 :: a9 :: a10 :: a11 :: l).set 11 (some v) = a0 :: a1 :: a2 :: a3 :: a4 :: a5 :: a6 :: a7 :: a8 :: a9 :: a10 :: some v :: l := rfl
theorem set12 {a0 a1 a2 a3 a4 a5 a6 a7 a8 a9 a10 a11 a12 : Option V} {l : St} : (a0 :: a1 :: a2 :: a3 :: a4 :: a5 :: a6 :: a7 :: a8 :: a9 :: a10 :: a11 :: a12 :: l).set 12 (some v) = a0 :: a1 :: a2 :: a3 :: a4 :: a5 :: a6 :: a7 :: a8 :: a9 :: a10 :: a11 :: some v :: l := rfl
theorem set13 {a0 a1 a2 a3 a4 a5 a6 a7 a8 a9 a10 a11 a12 a13 : Option V} {l : St} : (a0 :: a1 :: a2 :: a3 :: a4 :: a5 :: a6 :: a7 :: a8 :: a9 :: a10 :: a11 :: a12 :: a13 :: l).set 13 (some v) = a0 :: a1 :: a2 :: a3 :: a4 :: a5 :: a6 :: a7 :: a8 :: a9 :: a10 :: a11 :: a12 :: some v :: l := rfl
theorem set14 {a0 a1 a2 a3 a4 a5 a6 a7 a8 a9 a10 a11 a12 a13 a14 : Option V} {l : St} : (a0 :: a1 :: a2 :: a3 :: a4 :: a5 :: a6 :: a7 :: a8 :: a9 :: a10 :: a11 :: a12 :: a13 :: a14 :: l).set 14 (some v) = a0 :: a1 :: a2 :: a3 :: a4 :: a5 :: a6 :: a7 :: a8 :: a9 :: a10 :: a11 :: a12 :: a13 :: some v :: l := rfl
theorem set15 {a0 a1 a2 a3 a4 a5 a6 a7 a8 a9 a10 a11 a12 a13 a14 a15 : Option V} {l : St} : (a0 :: a1 :: a2 :: a3 :: a4 :: a5 :: a6 :: a7 :: a8 :: a9 :: a10 :: a11 :: a12 :: a13 :: a14 :: a15 :: l).set 15 (some v) = a0 :: a1 :: a2 :: a3 :: a4 :: a5 :: a6 :: a7 :: a8 :: a9 :: a10 :: a11 :: a12 :: a13 :: a14 :: some v :: l := rfl
theorem set16 {a0 a1 a2 a3 a4 a5 a6 a7 a8 a9 a10 a11 a12 a13 a14 a15 a16 : Option V} {l : St} : (a0 :: a1 :: a2 :: a3 :: a4 :: a5 :: a6 :: a7 :: a8 :: a9 :: a10 :: a11 :: a12 :: a13 :: a14 :: a15 :: a16 :: l).set 16 (some v) = a0 :: a1 :: a2 :: a3 :: a4 :: a5 :: a6 :: a7 :: a8 :: a9 :: a10 :: a11 :: a12 :: a13 :: a14 :: a15 :: some v :: l := rfl
theorem set17 {a0 a1 a2 a3 a4 a5 a6 a7 a8 a9 a10 a11 a12 a13 a14 a15 a16 a17 : Option V} {l : St} : (a0 :: a1 :: a2 :: a3 :: a4 :: a5 :: a6 :: a7 :: a8 :: a9 :: a10 :: a11 :: a12 :: a13 :: a14 :: a15 :: a16 :: a17 :: l).set 17 (some v) = a0 :: a1 :: a2 :: a3 :: a4 :: a5 :: a6 :: a7 :: a8 :: a9 :: a10 :: a11 :: a12 :: a13 :: a14 :: a15 :: a16 :: some v :: l := rfl
theorem set18 {a0 a1 a2 a3 a4 a5 a6 a7 a8 a9 a10 a11 a12 a13 a14 a15 a16 a17 a18 : Option V} {l : St} : (a0 :: a1 :: a2 :: a3 :: a4 :: a5 :: a6 :: a7 :: a8 :: a9 :: a10 :: a11 :: a12 :: a13 :: a14 :: a15 :: a16 :: a17 :: a18 :: l).set 18 (some v) = a0 :: a1 :: a2 :: a3 :: a4 :: a5 :: a6 :: a7 :: a8 :: a9 :: a10 :: a11 :: a12 :: a13 :: a14 :: a15 :: a16 :: a17 :: some v :: l := rfl
theorem set19 {a0 a1 a2 a3 a4 a5 a6 a7 a8 a9 a10 a11 a12 a13 a14 a15 a16 a17 a18 a19 : Option V} {l : St} : (a0 :: a1 :: a2 :: a3 :: a4 :: a5 :: a6 :: a7 :: a8 :: a9 :: a10 :: a11 :: a12 :: a13 :: a14 :: a15 :: a16 :: a17 :: a18 :: a19 :: l).set 19 (some v) = a0 :: a1 :: a2 :: a3 :: a4 :: a5 :: a6 :: a7 :: a8 :: a9 :: a10 :: a11 :: a12 :: a13 :: a14 :: a15 :: a16 :: a17 :: a18 :: some v :: l := rfl
theorem set20 {a0 a1 a2 a3 a4 a5 a6 a7 a8 a9 a10 a11 a12 a13 a14 a15 a16 a17 a18 a19 a20 : Option V} {l : St} : (a0 :: a1 :: a2 :: a3 :: a4 :: a5 :: a6 :: a7 :: a8 :: a9 :: a10 :: a11 :: a12 :: a13 :: a14 :: a15 :: a16 :: a17 :: a18 :: a19 :: a20 :: l).set 20 (some v) = a0 :: a1 :: a2 :: a3 :: a4 :: a5 :: a6 :: a7 :: a8 :: a9 :: a10 :: a11 :: a12 :: a13 :: a14 :: a15 :: a16 :: a17 :: a18 :: a19 :: some v :: l := rfl
theorem set21 {a0 a1 a2 a3 a4 a5 a6 a7 a8 a9 a10 a11 a12 a13 a14 a15 a16 a17 a18 a19 a20 a21 : Option V} {l : St} : (a0 :: a1 :: a2 :: a3 :: a4 :: a5 :: a6 :: a7 :: a8 :: a9 :: a10 :: a11 :: a12 :: a13 :: a14 :: a15 :: a16 :: a17 :: a18 :: a19 :: a20 :: a21 :: l).set 21 (some v) = a0 :: a1 :: a2 :: a3 :: a4 :: a5 :: a6 :: a7 :: a8 :: a9 :: a10 :: a11 :: a12 :: a13 :: a14 :: a15 :: a16 :: a17 :: a18 :: a19 :: a20 :: some v :: l := rfl
theorem set22 {a0 a1 a2 a3 a4 a5 a6 a7 a8 a9 a10 a11 a12 a13 a14 a15 a16 a17 a18 a19 a20 a21 a22 : Option V} {l : St} : (a0 :: a1 :: a2 :: a3 :: a4 :: a5 :: a6 :: a7 :: a8 :: a9 :: a10 :: a11 :: a12 :: a13 :: a14 :: a15 :: a16 :: a17 :: a18 :: a19 :: a20 :: a21 :: a22 :: l).set 22 (some v) = a0 :: a1 :: a2 :: a3 :: a4 :: a5 :: a6 :: a7 :: a8 :: a9 :: a10 :: a11 :: a12 :: a13 :: a14 :: a15 :: a16 :: a17 :: a18 :: a19 :: a20 :: a21 :: some v :: l := rfl
theorem set23 {a0 a1 a2 a3 a4 a5 a6 a7 a8 a9 a10 a11 a12 a13 a14 a15 a16 a17 a18 a19 a20 a21 a22 a23 : Option V} {l : St} : (a0 :: a1 :: a2 :: a3 :: a4 :: a5 :: a6 :: a7 :: a8 :: a9 :: a10 :: a11 :: a12 :: a13 :: a14 :: a15 :: a16 :: a17 :: a18 :: a19 :: a20 :: a21 :: a22 :: a23 :: l).set 23 (some v) = a0 :: a1 :: a2 :: a3 :: a4 :: a5 :: a6 :: a7 :: a8 :: a9 :: a10 :: a11 :: a12 :: a13 :: a14 :: a15 :: a16 :: a17 :: a18 :: a19 :: a20 :: a21 :: a22 :: some v :: l := rfl
end
end L2.My

/-! W1: own ==, reflected ==, own minus in front; gcd of three; raising an own error; is of bools. -/
namespace L2.My
open PySem PySem.Spec PyProof.Rows PySem.SeqAt
open AutoSeq1 (wpAny_loadPart')

/-! ### the type of a value that is known -/
section
variable {X : Cx} {pins : List (Addr × Obj)} {σ : St} {H : Hp} {s : Shared} {y : V} {u t : Value}
theorem looks_ty (I : Inv X pins σ H s) (ru : RelV y u) (ty : TyX X.K H y t) : PySem.W.Looks (model X.prog X.w) s.heap (typeOf u) t := by
  obtain ⟨P, Z, p, _⟩ := kit_of I ru ty
  exact Z.ty _ _ I.kIn p
end

/-! ### x op y by x's own def -/
section
variable {X : Cx} {C : Addr} {k j : Nat} {ps : List Str} {sp : Sp} {E : XK} {m : Str}
def rOwnC (K : PySem.W.Frag) (C : Addr) (sp : Sp) (E : XK) : R2 := fun x y H Q => ∃ a dx fs t, x = .ref a ∧ H a = some (.ins C dx fs) ∧ TyX K H y t ∧ PySem.W.notFirst K C t = true ∧ sp [x, y] H Q E
theorem op_ownC {op : CmpOp} (hop : ∀ a b, compareOp op a b = richCompare op a b) (h : HasM X.prog X.w X.K X.mg X.base C (cmpInfo op).2.1 k ps sp) (hr : Room j X.A) (hx : Passes (L2.CX X.prog X.w) X E) (hj : k ≤ j := by decide) :
    OpR X (compareOp op) (rOwnC X.K C sp E) := by
  obtain ⟨f, fd, Fo, hm, hb⟩ := h
  intro pins s σ H x y v u Q I rx ry hh
  obtain ⟨a, dx, fs, t, rfl, ha, ty, hn, q⟩ := hh
  cases (show v = Value.ref a from rx)
  obtain ⟨mA, O, _⟩ := ins_get I.hok ha
  obtain ⟨od, J, _⟩ := O.look
  have hb' := looks_ty I ry ty
  obtain ⟨m, hF⟩ := I.fr
  rw [hop]
  refine PySem.W.cmp_K (op := op) (tb := t) hr.units0 hF I.ok.mod.kin J hb' hn hm.at_ hm.fn ?_
  refine wpAny_mono (run_fn Fo (hr.mono hj) hb .nil hx I (.cons rx (.cons ry .nil)) q) (fun w s' z => ?_) fun _ _ x => x
  obtain ⟨z', H', I', rz, qz⟩ := z
  exact SlX.cmpback rz ⟨z', H', I', rz, qz⟩
theorem op_eqC (h : HasM X.prog X.w X.K X.mg X.base C "__eq__" k ps sp) (hr : Room j X.A) (hx : Passes (L2.CX X.prog X.w) X E) (hj : k ≤ j := by decide) :
    OpR X (compareOp .Eq) (rOwnC X.K C sp E) := op_ownC (fun _ _ => rfl) h hr hx hj

/-! ### an int or a bool == an instance: the instance's own def, turned about -/
theorem int_eq_declines_ins_int (b : Int) (u : Tok) (l C dx : Addr) :
    Meets (Builtin.«int.__eq__» ⟨[.int b u, .ref l], []⟩) (fun _ R s => s.heap.get? l = some (PySem.W.instObj C dx) ∧ R (.ok (.ret .notImplemented)) s) :=
  .of_wp fun prog w A R s h => by obtain ⟨hp, g, d, tk, os⟩ := s; obtain ⟨hl, h⟩ := h; wp_walk using wpAny_loadPart' hl, wpAny_load hl; exact ⟨_, rfl, h⟩
theorem int_eq_declines_ins_bool (b : Bool) (l C dx : Addr) :
    Meets (Builtin.«int.__eq__» ⟨[.bool b, .ref l], []⟩) (fun _ R s => s.heap.get? l = some (PySem.W.instObj C dx) ∧ R (.ok (.ret .notImplemented)) s) :=
  .of_wp fun prog w A R s h => by obtain ⟨hp, g, d, tk, os⟩ := s; obtain ⟨hl, h⟩ := h; wp_walk using wpAny_loadPart' hl, wpAny_load hl; exact ⟨_, rfl, h⟩

theorem rc_refl {prog : Program} {w : World} {A : Around} {E : Value → Shared → Prop} {s : Shared} {K : PySem.W.Frag} {x C f : Addr} {ox : Obj} {od : Option Obj} {b : Value} {T : String} {Q : Value → Shared → Prop} (hu : A.units < cLine) (X : K.In s.heap) (I : PySem.W.InstAt s.heap x ox C od)
    (hb : s.TypeIs b T) (hsub : PySem.W.subIn K (.ref C) (.type T) = some false) (hs : PySem.W.findIn K (.ref C) "__eq__" = some (some (.ref f))) (hf : PySem.W.isFn K (.ref f) = true)
    (hd : ∀ Q' : Option Value → Shared → Prop, Q' none s → wpAny (model prog w) A (tryCompare b "__eq__" (.ref x)) Q' E s)
    (h : wpAny (model prog w) A (call (.ref f) [.ref x, b]) (PySem.W.CmpBack Q) E s) : wpAny (model prog w) A (richCompare .Eq b (.ref x)) Q E s := by
  have one : wpAny (model prog w) A (tryCompare (.ref x) "__eq__" b) (fun r s' => ∃ v, r = some v ∧ Q v s') E s := by
    unfold tryCompare
    refine wpAny_bind (PySem.W.ifBound_K X I hs hf (wpAny_mono h (fun v s' hv => ?_) fun _ _ e => e))
    cases v <;> first | exact hv.elim | exact wpAny_pure ⟨_, rfl, hv⟩
  have ot : oneThing? .Eq b (.ref x) = none := hb.oneThing_none _ _
  have hne : (Value.type T != Value.ref C) = true := rfl
  unfold richCompare
  rw [ot]
  refine wpAny_holding (wpAny_bind (wpAny_cRoomFor hu ?_))
  refine wpAny_bind (wpAny_typeOf hb (wpAny_bind (I.type.here ?_)))
  simp only [hne, if_true]
  refine wpAny_bind ((PySem.W.looks_subIn X hsub).here ?_)
  simp only [cmpInfo, Bool.false_eq_true, if_false, Bool.not_false, if_true]
  refine wpAny_bind (hd _ ?_)
  refine wpAny_bind (wpAny_mono one (fun r s' z => ?_) fun _ _ e => e)
  obtain ⟨v, rfl, hq⟩ := z
  exact wpAny_pure hq

def rOwnR (K : PySem.W.Frag) (C : Addr) (sp : Sp) (E : XK) : R2 := fun x y H Q => ∃ a dx fs, y = .ref a ∧ H a = some (.ins C dx fs) ∧
  ((∃ i, x = .int i) ∧ PySem.W.subIn K (.ref C) (.type "int") = some false ∨ (∃ b, x = .bl b) ∧ PySem.W.subIn K (.ref C) (.type "bool") = some false) ∧ sp [y, x] H Q E
theorem op_eqR (h : HasM X.prog X.w X.K X.mg X.base C "__eq__" k ps sp) (hr : Room j X.A) (hx : Passes (L2.CX X.prog X.w) X E) (hj : k ≤ j := by decide) :
    OpR X (compareOp .Eq) (rOwnR X.K C sp E) := by
  obtain ⟨f, fd, Fo, hm, hb⟩ := h
  intro pins s σ H x y v u Q I rx ry hh
  obtain ⟨a, dx, fs, rfl, ha, hxx, q⟩ := hh
  cases (show u = Value.ref a from ry)
  obtain ⟨mA, O, _⟩ := ins_get I.hok ha
  obtain ⟨od, J, _⟩ := O.look
  have call_ : wpAny (model X.prog X.w) X.A (call (.ref f) [.ref a, v]) (PySem.W.CmpBack (EP X pins σ Q)) X.xe s := by
    refine wpAny_mono (run_fn Fo (hr.mono hj) hb .nil hx I (.cons ry (.cons rx .nil)) q) (fun w s' z => ?_) fun _ _ x => x
    obtain ⟨z', H', I', rz, qz⟩ := z
    exact SlX.cmpback rz ⟨z', H', I', rz, qz⟩
  rcases hxx with ⟨⟨i, rfl⟩, hsub⟩ | ⟨⟨b, rfl⟩, hsub⟩
  · obtain ⟨t, rfl⟩ := (show ∃ t, v = Value.int i t from rx)
    exact rc_refl hr.units0 I.kIn J (typeIs_int s i t) hsub hm.at_ hm.fn (fun Q' hq => wpAny_tryCompare_declines (typeIs_int s i t) F.slot_int_eq
      (call_meets F.slot_int_eq (typeIs_int s i t) F.entry_int_eq (F.args_int_eq_2 _ _) (int_eq_declines_ins_int i t a C dx) ⟨O.obj, rfl, hq⟩)) call_
  · cases (show v = Value.bool b from rx)
    exact rc_refl hr.units0 I.kIn J (show s.TypeIs (.bool b) "bool" from rfl) hsub hm.at_ hm.fn (fun Q' hq => wpAny_tryCompare_declines (show s.TypeIs (.bool b) "bool" from rfl) F.slot_bool_eq
      (call_meets F.slot_bool_eq rfl F.entry_int_eq (F.args_int_eq_2 _ _) (int_eq_declines_ins_bool b a C dx) ⟨O.obj, rfl, hq⟩)) call_

/-! ### -x by x's own def -/
def rOwnU (C : Addr) (sp : Sp) (E : XK) : V → Hp → VK → Prop := fun x H Q => ∃ a dx fs, x = .ref a ∧ H a = some (.ins C dx fs) ∧ sp [x] H Q E
theorem un_own (h : HasM X.prog X.w X.K X.mg X.base C "__neg__" k ps sp) (hr : Room j X.A) (hx : Passes (L2.CX X.prog X.w) X E) (hj : k ≤ j := by decide) :
    UnR X (unaryOp .USub) (rOwnU C sp E) := by
  obtain ⟨f, fd, Fo, hm, hb⟩ := h
  intro pins s σ H x v Q I rx hh
  obtain ⟨a, dx, fs, rfl, ha, q⟩ := hh
  cases (show v = Value.ref a from rx)
  obtain ⟨mA, O, _⟩ := ins_get I.hok ha
  obtain ⟨od, J, _⟩ := O.look
  obtain ⟨m, hF⟩ := I.fr
  exact PySem.W.ksp_neg hF I.ok.mod.kin J hm.at_ hm.fn (run_fn Fo (hr.mono hj) hb .nil hx I (.cons rx .nil) q)

/-! ### math.gcd of three -/
theorem args_gcd3 (a b c : Value) : argsOk "math.gcd" ⟨[a, b, c], []⟩ := by unfold argsOk; kernel_rfl
theorem mg_run_gcd3 (a : Int) (t : Tok) (b : Int) (u : Tok) (c : Int) (w : Tok) :
    Gives (Builtin.«math.gcd» ⟨[.int a t, .int b u, .int c w], []⟩) (.int ((((Nat.gcd 0 a.natAbs).gcd b.natAbs).gcd c.natAbs : Nat) : Int)) :=
  .of_wp fun M A E s Q h => by obtain ⟨hp, g, d, tk, os⟩ := s; wp_walk; exact ⟨_, rfl, h⟩
def rGcd3 : List V → Hp → VK → Prop := fun vs H Q => ∃ a b c : Int, vs = [.int a, .int b, .int c] ∧ Q (.int (((a.natAbs.gcd b.natAbs).gcd c.natAbs : Nat) : Int)) H
theorem cr_gcd3 : CallR X (.builtin "math.gcd") rGcd3 := by
  intro pins s σ H vs us Q I r h
  obtain ⟨a, b, c, rfl, q⟩ := h
  cases r with
  | cons ra r =>
    cases r with
    | cons rb r =>
      cases r with
      | cons rc r =>
        cases r
        obtain ⟨t, rfl⟩ := ra
        obtain ⟨u, rfl⟩ := rb
        obtain ⟨w, rfl⟩ := rc
        have g := mg_run_gcd3 a t b u c w
        rw [Nat.gcd_zero_left] at g
        exact call_function_meets PySem.W.MGF.kind_gcd PySem.W.MGF.plain_gcd PySem.W.MGF.entry_gcd (args_gcd3 _ _ _) g.meets ⟨.int _, H, I.tok _, ⟨_, rfl⟩, q⟩
end
end L2.My

/-! W2: where defs stand, what is known of things, Roots. -/
namespace L2.My
open PySem PySem.Spec PyProof.Rows
/-! ### where a def of the text stands behind the top -/
def AtF (K : PySem.W.Frag) (mg : Str → Option Value) (x qual : Str) (st : Stmt) (ps : List Str) : Prop := ∃ f fd, Fun K x qual st f fd ∧ Binds K fd ps [] ∧ mg x = some (.ref f)
def AtM (K : PySem.W.Frag) (C : Addr) (m qual : Str) (st : Stmt) (ps : List Str) : Prop := ∃ f fd, Fun K m qual st f fd ∧ Binds K fd ps [] ∧ Meth K C m f
def AtC (K : PySem.W.Frag) (mg : Str → Option Value) (x : Str) (C : Addr) (qual : Str) (st : Stmt) (ps : List Str) : Prop := ∃ f fd, Fun K "__init__" qual st f fd ∧ Binds K fd ps [] ∧ Mk K C f ∧ mg x = some (.ref C)
def AtX (K : PySem.W.Frag) (mg : Str → Option Value) (x : Str) (C : Addr) (qual : Str) (st : Stmt) (ps : List Str) : Prop := ∃ f fd, Fun K "__init__" qual st f fd ∧ Binds K fd ps [] ∧ mg x = some (.ref C) ∧
  PySem.W.findIn K (.ref C) "__init__" = some (some (.ref f)) ∧ PySem.W.typeIn K (.ref f) = some (.type "function")
section
variable {P : Program} {w : World} {K : PySem.W.Frag} {mg : Str → Option Value} {base : Heap} {x m qual : Str} {st : Stmt} {N ps : List Str} {k : Nat} {sp : Sp} {C : Addr}
abbrev BodyOk (P : Program) (w : World) (K : PySem.W.Frag) (mg : Str → Option Value) (base : Heap) (N : List Str) (qual : Str) (st : Stmt) (k : Nat) (sp : Sp) (f : Addr) : Prop :=
  ∀ (cdv : Value) (A : Around) (outer : List Env) (s : Shared) (H : Hp) (vs : List V) (Q : VK) (E : XK), Room k (A.deeper (envOfC qual (defScope st) s.heap.objs.size f cdv)) → sp vs H Q E →
    ∃ t, PSs (cxOf (L2.CX P w) P w K mg base N qual (defScope st) f cdv A outer s H E) (defBody st) t ∧ t { nx := fun _ H' => Q .non H', rt := Q } (start N vs) H
theorem AtF.ok (D : AtF K mg x qual st ps) (S : FnScope N ps (defScope st)) (len : ∀ vs H Q E, sp vs H Q E → vs.length = ps.length) (h : ∀ {f : Addr}, BodyOk P w K mg base N qual st k sp f) : Has P w K mg base x (k + 1) ps sp := by
  obtain ⟨f, fd, Fo, b, g⟩ := D
  exact ⟨f, fd, Fo.okX S len h, g, Fo.kp, b⟩
theorem AtM.ok (D : AtM K C m qual st ps) (S : FnScope N ps (defScope st)) (len : ∀ vs H Q E, sp vs H Q E → vs.length = ps.length) (h : ∀ {f : Addr}, BodyOk P w K mg base N qual st k sp f) : HasM P w K mg base C m (k + 1) ps sp := by
  obtain ⟨f, fd, Fo, b, g⟩ := D
  exact ⟨f, fd, Fo.okX S len h, g, b⟩
theorem AtC.ok (D : AtC K mg x C qual st ps) (S : FnScope N ps (defScope st)) (len : ∀ vs H Q E, sp vs H Q E → vs.length = ps.length) (h : ∀ {f : Addr}, BodyOk P w K mg base N qual st k sp f) : HasC P w K mg base x C (k + 1) ps sp := by
  obtain ⟨f, fd, Fo, b, g, h2⟩ := D
  exact ⟨f, fd, Fo.okX S len h, g, h2, b⟩
/-- an own error class that is made -/
def HasX (P : Program) (w : World) (K : PySem.W.Frag) (mg : Str → Option Value) (base : Heap) (x : Str) (C : Addr) (k : Nat) (ps : List Str) (sp : Sp) : Prop :=
  ∃ f fd, FnOk P w K mg base (L2.CX P w) k f fd ps sp ∧ mg x = some (.ref C) ∧ PySem.W.findIn K (.ref C) "__init__" = some (some (.ref f)) ∧ PySem.W.typeIn K (.ref f) = some (.type "function") ∧ Binds K fd ps []
theorem AtX.ok (D : AtX K mg x C qual st ps) (S : FnScope N ps (defScope st)) (len : ∀ vs H Q E, sp vs H Q E → vs.length = ps.length) (h : ∀ {f : Addr}, BodyOk P w K mg base N qual st k sp f) : HasX P w K mg base x C (k + 1) ps sp := by
  obtain ⟨f, fd, Fo, b, g, h2, h3⟩ := D
  exact ⟨f, fd, Fo.okX S len h, g, h2, h3, b⟩
end
/-- making an own error, to be raised -/
theorem pm_h {X : Cx} {x : Str} {C : Addr} {k j : Nat} {ps : List Str} {sp : Sp} {e : Expr} {es : List Expr} {ta : TA} {p pos : Pos} (T : OexC X.K C) (h : HasX X.prog X.w X.K X.mg X.base x C k ps sp) (hr : Room j X.A) (ha : PA X (e :: es) ta) (hj : k + 1 ≤ j := by decide) (hg : Gl X x := by rfl)
    (hdb : (x == ("__debug__" : Str)) = false := by decide) (he : starEach (e :: es) X.env = (false, eval e X.env) :: starEach es X.env := by rfl) (hpl : (backTo pos (starEach es X.env)).any (·.1) = false := by rfl) :
    PMk X (.Call (.Name x p) (e :: es) [] pos) (tMkO C sp [] ta) := by
  obtain ⟨f, fd, Fo, hm, iC, tI, hb⟩ := h
  exact pmk_oex T iC tI Fo (hr.mono hj) hb .nil passL hg hm ha hdb he hpl
/-! ### what is known of things -/
/-- what stands is as it was, but for the object at p -/
def SameX (p : Addr) (H H' : Hp) : Prop := ∀ b o, b ≠ p → H b = some o → H' b = some o
theorem Same.x {p : Addr} {H H' : Hp} (h : Same H H') : SameX p H H' := fun b o _ e => h b o e
theorem SameX.trans {p : Addr} {H H1 H2 : Hp} (a : SameX p H H1) (b : SameX p H1 H2) : SameX p H H2 := fun c o n e => b c o n (a c o n e)
theorem SameX.upd {p : Addr} {H H1 : Hp} {o : HO} (a : SameX p H H1) : SameX p H (upd H1 p o) := fun c u n e => by rw [upd_ne n]; exact a c u n e
theorem Same.new {H : Hp} {p : Addr} {o : HO} (h : H p = none) : Same H (upd H p o) := fun a u e => by rw [upd_ne (ne_of_none e h)]; exact e
def rootF (t r b : Int) : List (Str × V) := [("top", .int t), ("root", .int r), ("bottom", .int b)]
/-- a number as the package keeps it -/
def RootAt (c : Addr) (H : Hp) (v : V) (t r b : Int) : Prop := ∃ a dx, v = .ref a ∧ H a = some (.ins c dx (rootF t r b))
theorem RootAt.same {c : Addr} {H H' : Hp} {v : V} {t r b : Int} (h : RootAt c H v t r b) (s : Same H H') : RootAt c H' v t r b := by
  obtain ⟨a, dx, rfl, e⟩ := h
  exact ⟨a, dx, rfl, s _ _ e⟩
/-- a thing of a kind that is known -/
inductive Th (c : Addr) (H : Hp) : V → Prop
  | non : Th c H .non
  | bl (b : Bool) : Th c H (.bl b)
  | int (i : Int) : Th c H (.int i)
  | str (s : Str) : Th c H (.str s)
  | lst (a : Addr) (xs : List V) (e : H a = some (.lst xs)) : Th c H (.ref a)
  | tup (a : Addr) (xs : List V) (e : H a = some (.tup xs)) : Th c H (.ref a)
  | dK (a : Addr) (kvs : List (Key × V)) (e : H a = some (.dK kvs)) : Th c H (.ref a)
  | root (a dx : Addr) (t r b : Int) (e : H a = some (.ins c dx (rootF t r b))) : Th c H (.ref a)
theorem Th.same {c : Addr} {H H' : Hp} {v : V} (h : Th c H v) (s : Same H H') : Th c H' v := by
  cases h with
  | non => exact .non
  | bl b => exact .bl b
  | int i => exact .int i
  | str s => exact .str s
  | lst a xs e => exact .lst a xs (s _ _ e)
  | tup a xs e => exact .tup a xs (s _ _ e)
  | dK a xs e => exact .dK a xs (s _ _ e)
  | root a dx t r b e => exact .root a dx t r b (s _ _ e)
def isI : V → Bool
  | .int _ => true
  | _ => false
def isB : V → Bool
  | .bl _ => true
  | _ => false
def isC (c : Addr) (H : Hp) : V → Bool
  | .ref a => match H a with
    | some (.ins C _ _) => decide (C = c)
    | _ => false
  | _ => false
/-- what isinstance says of the kinds, for the class at C -/
structure KiT (K : PySem.W.Frag) (c : Addr) : Prop where
  ty : Cls K c
  ha : PySem.W.findIn K (.ref c) "__class__" = some (some (.builtin "object.__class__"))
  hn : PySem.W.specialIn K (.builtin "object.__class__") "__get__" = some (some (.builtin "getset_descriptor.__get__"))
  htk : PySem.W.takesIn K (.builtin "object.__class__") = some true
  hm : PySem.W.mroIn K c (.type "object") = some true
  i : PySem.W.kitOne K (.ref c) (.type "int") = some false
  b : PySem.W.kitOne K (.ref c) (.type "bool") = some false
  cc : PySem.W.kitOne K (.ref c) (.ref c) = some true
  k1 : PySem.W.kitOne K (.type "NoneType") (.ref c) = some false
  k2 : PySem.W.kitOne K (.type "bool") (.ref c) = some false
  k3 : PySem.W.kitOne K (.type "int") (.ref c) = some false
  k4 : PySem.W.kitOne K (.type "str") (.ref c) = some false
  k5 : PySem.W.kitOne K (.type "list") (.ref c) = some false
  k6 : PySem.W.kitOne K (.type "tuple") (.ref c) = some false
  k7 : PySem.W.kitOne K (.type "dict") (.ref c) = some false
  n1 : PySem.W.subIn K (.type "NoneType") (.ref c) = some false
  n2 : PySem.W.subIn K (.type "bool") (.ref c) = some false
  n3 : PySem.W.subIn K (.type "int") (.ref c) = some false
  n4 : PySem.W.subIn K (.type "str") (.ref c) = some false
  n5 : PySem.W.subIn K (.type "list") (.ref c) = some false
  n6 : PySem.W.subIn K (.type "tuple") (.ref c) = some false
  n7 : PySem.W.subIn K (.type "dict") (.ref c) = some false
  s1 : PySem.W.subIn K (.ref c) (.type "int") = some false
  s2 : PySem.W.subIn K (.ref c) (.type "bool") = some false
theorem Th.ty {K : PySem.W.Frag} {c : Addr} {H : Hp} {v : V} (h : Th c H v) (T : KiT K c) : ∃ t, TyX K H v t ∧ PySem.W.kitOne K t (.type "int") = some (isI v || isB v) ∧ PySem.W.kitOne K t (.type "bool") = some (isB v) ∧
    PySem.W.kitOne K t (.ref c) = some (isC c H v) ∧ PySem.W.notFirst K c t = true := by
  have nf : ∀ t, PySem.W.subIn K t (.ref c) = some false → PySem.W.notFirst K c t = true := fun t e => by
    unfold PySem.W.notFirst
    rw [e]
    simp
  have kb : ∀ (a b : String) (r : Bool), kitB a b = some r → PySem.W.kitOne K (.type a) (.type b) = some r := fun _ _ _ h => kit_ty h
  have ib : ∀ {a : Addr} {o : HO} (_ : H a = some o) (_ : ∀ C dx fs, o ≠ .ins C dx fs), isC c H (.ref a) = false := fun {a o} e n => by
    show (match H a with | some (.ins C _ _) => decide (C = c) | _ => false) = false
    rw [e]
    cases o <;> first | rfl | exact absurd rfl (n _ _ _)
  cases h with
  | non => exact ⟨_, .base .non, kb "NoneType" "int" false (by decide +kernel), kb "NoneType" "bool" false (by decide +kernel), T.k1, nf _ T.n1⟩
  | bl b => exact ⟨_, .base (.bl b), kb "bool" "int" true (by decide +kernel), kb "bool" "bool" true (by decide +kernel), T.k2, nf _ T.n2⟩
  | int i => exact ⟨_, .base (.int i), kb "int" "int" true (by decide +kernel), kb "int" "bool" false (by decide +kernel), T.k3, nf _ T.n3⟩
  | str s => exact ⟨_, .base (.str s), kb "str" "int" false (by decide +kernel), kb "str" "bool" false (by decide +kernel), T.k4, nf _ T.n4⟩
  | lst a xs e => exact ⟨_, .base (.lst e), kb "list" "int" false (by decide +kernel), kb "list" "bool" false (by decide +kernel), (by rw [ib e (by intros; intro q; cases q)]; exact T.k5), nf _ T.n5⟩
  | tup a xs e => exact ⟨_, .base (.tup e), kb "tuple" "int" false (by decide +kernel), kb "tuple" "bool" false (by decide +kernel), (by rw [ib e (by intros; intro q; cases q)]; exact T.k6), nf _ T.n6⟩
  | dK a xs e => exact ⟨_, .base (.dK e), kb "dict" "int" false (by decide +kernel), kb "dict" "bool" false (by decide +kernel), (by rw [ib e (by intros; intro q; cases q)]; exact T.k7), nf _ T.n7⟩
  | root a dx t r b e =>
    have ic : isC c H (.ref a) = true := by
      show (match H a with | some (.ins C _ _) => decide (C = c) | _ => false) = true
      rw [e]
      exact decide_eq_true rfl
    exact ⟨_, .base (.ins e T.ty T.ha T.hn T.htk T.hm), T.i, T.b, (by rw [ic]; exact T.cc), (by unfold PySem.W.notFirst; simp)⟩
theorem w_isi {K : PySem.W.Frag} {H : Hp} {x : V} {n : String} {t : Value} {b : Bool} {Q : VK} (ty : TyX K H x t) (k : PySem.W.kitOne K t (.type n) = some b) (q : Q (.bl b) H) : rIsi K [x, .ty n] H Q := ⟨x, .ty n, t, _, b, rfl, .ty n, ty, k, q⟩
theorem w_isiC {K : PySem.W.Frag} {H : Hp} {x : V} {c : Addr} {t : Value} {b : Bool} {Q : VK} (ty : TyX K H x t) (k : PySem.W.kitOne K t (.ref c) = some b) (q : Q (.bl b) H) : rIsi K [x, .ref c] H Q := ⟨x, .ref c, t, _, b, rfl, .own c, ty, k, q⟩

/-! ### more steps -/
section
variable {K : PySem.W.Frag} {σ : St} {H : Hp} {Q : VK} {te : TE} {tl : TA} {a : Addr} {xs : List V} {i : Int} {v : V}
theorem sz1000 {n : Nat} (h : n ≤ 1000) : n ≤ sizeLine := Nat.le_trans h (by decide)
theorem Same.upd_new {H H1 : Hp} {p : Addr} {o : HO} (s : Same H H1) (h : H1 p = none) : Same H (upd H1 p o) := s.trans (Same.new h)
/-- a new tuple, a new list: what is asked -/
def NewT (xs : List V) (H : Hp) (Q : VK) : Prop := xs.length ≤ sizeLine ∧ ∀ p, H p = none → Q (.ref p) (upd H p (.tup xs))
def NewL (xs : List V) (H : Hp) (Q : VK) : Prop := xs.length ≤ sizeLine ∧ ∀ p, H p = none → Q (.ref p) (upd H p (.lst xs))
theorem k_tup (hl : Nat.ble xs.length 1000 = true) (q : ∀ p H2, H p = none → Same H H2 → H2 p = some (.tup xs) → Q (.ref p) H2) : NewT xs H Q :=
  ⟨sz1000 (Nat.le_of_ble_eq_true hl), fun p hp => q p _ hp (Same.new hp) upd_same⟩
theorem k_lst (hl : Nat.ble xs.length 1000 = true) (q : ∀ p H2, H p = none → Same H H2 → H2 p = some (.lst xs) → Q (.ref p) H2) : NewL xs H Q :=
  ⟨sz1000 (Nat.le_of_ble_eq_true hl), fun p hp => q p _ hp (Same.new hp) upd_same⟩
theorem w_tup (q : tl σ H fun xs H1 => NewT xs H1 Q) : tTup tl σ H Q := q
theorem w_lst (q : tl σ H fun xs H1 => NewL xs H1 Q) : tLst tl σ H Q := q
theorem w_ixL (h : H a = some (.lst xs)) (e : atI xs i = some v) (q : Q v H) : rIx K (.ref a) (.int i) H Q := .inl ⟨a, xs, i, v, rfl, rfl, SqL.of h, e, q⟩
theorem w_ixT (h : H a = some (.tup xs)) (e : atI xs i = some v) (q : Q v H) : rIx K (.ref a) (.int i) H Q := .inr (.inl ⟨a, xs, i, v, rfl, rfl, SqT.of h, e, q⟩)
/-- a field of an instance: what is asked -/
def FldP (K : PySem.W.Frag) (f : Str) (x : V) (H : Hp) (Q : VK) : Prop := ∃ a C dx fs v, x = .ref a ∧ H a = some (.ins C dx fs) ∧ Cls K C ∧ NoAttr K C f ∧ fs.lookup f = some v ∧ Q v H
theorem w_fld {C dx : Addr} {fs : List (Str × V)} {f : Str} (h : H a = some (.ins C dx fs)) (hc : Cls K C) (hn : NoAttr K C f) (l : fs.lookup f = some v) (q : Q v H) : FldP K f (.ref a) H Q :=
  ⟨a, C, dx, fs, v, rfl, h, hc, hn, l, q⟩
theorem w_fldE {f : Str} (q : te σ H fun x H1 => FldP K f x H1 Q) : tFld K te f σ H Q := q
/-- a field stored: what is asked -/
def StoP (K : PySem.W.Frag) (f : Str) (y x : V) (H : Hp) (N : Hp → Prop) : Prop := ∃ a C dx fs, x = .ref a ∧ H a = some (.ins C dx fs) ∧ Cls K C ∧ NoAttr K C f ∧ fs.length < 1000 ∧ N (upd H a (.ins C dx (putF f y fs)))
theorem w_sto {C dx : Addr} {fs : List (Str × V)} {f : Str} {N : Hp → Prop} (h : H a = some (.ins C dx fs)) (hc : Cls K C) (hn : NoAttr K C f) (l : Nat.blt fs.length 1000 = true) (q : ∀ H', SameX a H H' → H' a = some (.ins C dx (putF f v fs)) → N H') : StoP K f v (.ref a) H N :=
  ⟨a, C, dx, fs, rfl, h, hc, hn, by simpa using l, q _ (SameX.upd fun _ _ _ e => e) upd_same⟩
theorem w_stoE {f : Str} {tv : TE} {nx bk ct : L2.St → Hp → Prop} {rt : VK} (q : tv σ H fun y H1 => te σ H1 fun x H2 => StoP K f y x H2 fun H3 => nx σ H3) : sFld K te tv f ⟨nx, rt, bk, ct⟩ σ H := q
theorem rf_top (t r b : Int) : (rootF t r b).lookup ("top" : Str) = some (.int t) := by simp [rootF, List.lookup]
theorem rf_root (t r b : Int) : (rootF t r b).lookup ("root" : Str) = some (.int r) := by
  have : (("root" : Str) == "top") = false := by decide +kernel
  simp [rootF, List.lookup, this]
theorem rf_bottom (t r b : Int) : (rootF t r b).lookup ("bottom" : Str) = some (.int b) := by
  have h1 : (("bottom" : Str) == "top") = false := by decide +kernel
  have h2 : (("bottom" : Str) == "root") = false := by decide +kernel
  simp [rootF, List.lookup, h1, h2]
theorem put_root (t r b : Int) : putF "bottom" (.int b) (putF "root" (.int r) (putF "top" (.int t) [])) = rootF t r b := by
  have h1 : ¬ (("top" : Str) = "root") := by decide +kernel
  have h2 : ¬ (("top" : Str) = "bottom") := by decide +kernel
  have h3 : ¬ (("root" : Str) = "bottom") := by decide +kernel
  simp [putF, rootF, h1, h2, h3]
theorem put1 (v : V) : putF "top" v [] = [(("top" : Str), v)] := rfl
theorem put2 (u v : V) : putF "root" v [(("top" : Str), u)] = [(("top" : Str), u), ("root", v)] := by
  have h1 : ¬ (("top" : Str) = "root") := by decide +kernel
  simp [putF, h1]
theorem put3 (t r b : Int) : putF "bottom" (.int b) [(("top" : Str), .int t), ("root", .int r)] = rootF t r b := by
  have h2 : ¬ (("top" : Str) = "bottom") := by decide +kernel
  have h3 : ¬ (("root" : Str) = "bottom") := by decide +kernel
  simp [putF, rootF, h2, h3]
theorem rf_eq {t r b t' r' b' : Int} : rootF t r b = rootF t' r' b' ↔ t = t' ∧ r = r' ∧ b = b' := by simp [rootF]
end
/-! ### loops and comprehensions: the thing that is walked is known -/
section
variable {K : PySem.W.Frag} {σ : St} {H : Hp} {Q : VK} {tl : TE} {ta : TA} {g : TG} {tb : TS} {D : Ends} {p : Addr} {xs : List V} {tt : TT} {te : TE} {ws : List Nat}
def ForT (K : PySem.W.Frag) (g : TG) (tb : TS) (D : Ends) (σ : St) (x : V) (H : Hp) : Prop := tFor (iTup K (tC x)) g tb D σ H
def ForL (K : PySem.W.Frag) (g : TG) (tb : TS) (D : Ends) (σ : St) (x : V) (H : Hp) : Prop := tFor (iList K (tC x)) g tb D σ H
def ForR (g : TG) (tb : TS) (D : Ends) (σ : St) (vs : List V) (H : Hp) : Prop := tFor (iRng1 fun _ H Q => Q vs H) g tb D σ H
def ForR2 (g : TG) (tb : TS) (D : Ends) (σ : St) (vs : List V) (H : Hp) : Prop := tFor (iRng2 fun _ H Q => Q vs H) g tb D σ H
def CompL (K : PySem.W.Frag) (g : TG) (tt : TT) (te : TE) (ws : List Nat) (σ : St) (x : V) (H : Hp) (Q : VK) : Prop := tLc (iList K (tC x)) g tt te ws σ H Q
def CompT (K : PySem.W.Frag) (g : TG) (tt : TT) (te : TE) (ws : List Nat) (σ : St) (x : V) (H : Hp) (Q : VK) : Prop := tLc (iTup K (tC x)) g tt te ws σ H Q
def CompR (g : TG) (tt : TT) (te : TE) (ws : List Nat) (σ : St) (vs : List V) (H : Hp) (Q : VK) : Prop := tLc (iRng1 fun _ H Q => Q vs H) g tt te ws σ H Q
theorem w_forT (q : tl σ H fun x H1 => ForT K g tb D σ x H1) : tFor (iTup K tl) g tb D σ H := q
theorem w_forL (q : tl σ H fun x H1 => ForL K g tb D σ x H1) : tFor (iList K tl) g tb D σ H := q
theorem w_forR (q : ta σ H fun vs H1 => ForR g tb D σ vs H1) : tFor (iRng1 ta) g tb D σ H := q
theorem w_forR2 (q : ta σ H fun vs H1 => ForR2 g tb D σ vs H1) : tFor (iRng2 ta) g tb D σ H := q
theorem w_lcL (q : tl σ H fun x H1 => CompL K g tt te ws σ x H1 Q) : tLc (iList K tl) g tt te ws σ H Q := q
theorem w_lcT (q : tl σ H fun x H1 => CompT K g tt te ws σ x H1 Q) : tLc (iTup K tl) g tt te ws σ H Q := q
theorem w_lcR (q : ta σ H fun vs H1 => CompR g tt te ws σ vs H1 Q) : tLc (iRng1 ta) g tt te ws σ H Q := q
theorem k_forT {nx bk ct : L2.St → Hp → Prop} {rt : VK} (Pv : Nat → St → Hp → Prop) (h : H p = some (.tup xs)) (h0 : Pv 0 σ H) (hl : ∀ i σ H, Pv i σ H → H p = some (.tup xs))
    (hs : ∀ i x σ H, xs[i]? = some x → Pv i σ H → g x σ H fun σ2 H2 => tb ⟨Pv (i + 1), rt, nx, Pv (i + 1)⟩ σ2 H2) (hd : ∀ σ H, Pv xs.length σ H → nx σ H) : ForT K g tb ⟨nx, rt, bk, ct⟩ σ (.ref p) H :=
  ⟨p, rfl, ⟨_, SqT.of h⟩, for_tup (xs := xs) Pv h0 (fun i σ H _ q => SqT.of (hl i σ H q)) hs hd⟩
theorem k_forL {nx bk ct : L2.St → Hp → Prop} {rt : VK} (Pv : Nat → St → Hp → Prop) (h : SqL K H p xs) (h0 : Pv 0 σ H) (hl : ∀ i σ H, Pv i σ H → SqL K H p xs)
    (hs : ∀ i x σ H, xs[i]? = some x → Pv i σ H → g x σ H fun σ2 H2 => tb ⟨Pv (i + 1), rt, nx, Pv (i + 1)⟩ σ2 H2) (hd : ∀ σ H, Pv xs.length σ H → nx σ H) : ForL K g tb ⟨nx, rt, bk, ct⟩ σ (.ref p) H :=
  ⟨p, rfl, ⟨_, h⟩, for_list (xs := xs) Pv h0 (fun i σ H _ q => hl i σ H q) hs hd⟩
theorem k_forR {nx bk ct : L2.St → Hp → Prop} {rt : VK} {n : Int} (Pv : Nat → St → Hp → Prop) (h1 : -(2 ^ 62) ≤ n) (h2 : n < 2 ^ 62) (h0 : Pv 0 σ H)
    (hs : ∀ i σ H, i < n.toNat → Pv i σ H → g (.int (0 + (i : Nat))) σ H fun σ2 H2 => tb ⟨Pv (i + 1), rt, nx, Pv (i + 1)⟩ σ2 H2) (hd : ∀ σ H, Pv n.toNat σ H → nx σ H) : ForR g tb ⟨nx, rt, bk, ct⟩ σ [.int n] H :=
  ⟨n, rfl, h1, h2, for_range (lo := 0) (n := n.toNat) Pv h0 hs hd⟩
theorem k_lcR {n : Int} (Pv : Nat → Addr → Hp → Prop) (h1 : -(2 ^ 62) ≤ n) (h2 : n < 2 ^ 62) (h0 : ∀ D, H D = none → Pv 0 D (upd H D (.lst [])))
    (hs : ∀ i D H, i < n.toNat → Pv i D H → g (.int (0 + (i : Nat))) (wipe σ ws) H fun σ2 H2 => wipe σ2 ws = wipe σ ws ∧ tt σ2 H2 fun b H3 =>
      if b = true then te σ2 H3 fun y H4 => ∃ acc, H4 D = some (.lst acc) ∧ acc.length < sizeLine ∧ Pv (i + 1) D (upd H4 D (.lst (acc ++ [y]))) else Pv (i + 1) D H3) (hd : ∀ D H, Pv n.toNat D H → Q (.ref D) H) : CompR g tt te ws σ [.int n] H Q :=
  ⟨n, rfl, h1, h2, fun D hD => lc_range (lo := 0) (n := n.toNat) (fun i H => Pv i D H) (h0 D hD) (fun i H hi q => hs i D H hi q) (fun H q => hd D H q)⟩
theorem k_lcL (Pv : Nat → Addr → Hp → Prop) (h : SqL K H p xs) (h0 : ∀ D, H D = none → Pv 0 D (upd H D (.lst []))) (hl : ∀ i D H, Pv i D H → SqL K H p xs)
    (hs : ∀ i x D H, xs[i]? = some x → Pv i D H → g x (wipe σ ws) H fun σ2 H2 => wipe σ2 ws = wipe σ ws ∧ tt σ2 H2 fun b H3 =>
      if b = true then te σ2 H3 fun y H4 => ∃ acc, H4 D = some (.lst acc) ∧ acc.length < sizeLine ∧ Pv (i + 1) D (upd H4 D (.lst (acc ++ [y]))) else Pv (i + 1) D H3) (hd : ∀ D H, Pv xs.length D H → Q (.ref D) H) : CompL K g tt te ws σ (.ref p) H Q :=
  ⟨p, rfl, ⟨_, h⟩, fun D hD => lc_list (xs := xs) (fun i H => Pv i D H) (h0 D hD) (fun i H _ q => hl i D H q) (fun i x H hx q => hs i x D H hx q) (fun H q => hd D H q)⟩
end
/-! ### instances made -/
/-- C(..): what is asked -/
def MkC (C : Addr) (sp : Sp) (E : XK) (vs : List V) (H : Hp) (Q : VK) : Prop := ∀ x dx, H x = none → H dx = none → dx ≠ x →
  sp (.ref x :: vs) (upd (upd H dx (.own x)) x (.ins C dx [])) (fun v H2 => v = .non ∧ Q (.ref x) H2) E
theorem w_mkC {C : Addr} {sp : Sp} {E : L2.St → XK} {tl : TA} {σ : L2.St} {H : Hp} {Q : VK} (q : tl σ H fun vs H1 => MkC C sp (E σ) vs H1 Q) : tMakeS C sp E tl σ H Q := q
/-- o.m(..): what is asked of o -/
def MethP (C : Addr) (m : Str) (x : V) (H : Hp) (N : Hp → Prop) : Prop := ∃ a dx fs, x = .ref a ∧ H a = some (.ins C dx fs) ∧ fs.lookup m = none ∧ N H
theorem w_meth {C : Addr} {m : Str} {sp : Sp} {E : L2.St → XK} {ta : TE} {tl : TA} {σ : L2.St} {H : Hp} {Q : VK} (q : ta σ H fun x H1 => MethP C m x H1 fun H2 => tl σ H2 fun vs H3 => sp (x :: vs) H3 Q (E σ)) : tMethS C m sp E ta tl σ H Q := q
theorem k_meth {C a dx : Addr} {m : Str} {fs : List (Str × V)} {H : Hp} {N : Hp → Prop} (h : H a = some (.ins C dx fs)) (l : fs.lookup m = none) (q : N H) : MethP C m (.ref a) H N := ⟨a, dx, fs, rfl, h, l, q⟩
theorem rf_none {t r b : Int} {m : Str} (h1 : (m == ("top" : Str)) = false) (h2 : (m == ("root" : Str)) = false) (h3 : (m == ("bottom" : Str)) = false) : (rootF t r b).lookup m = none := by simp [rootF, List.lookup, h1, h2, h3]
/-! ### own errors with one field -/
def spX (C : Addr) (f : Str) : Sp := fun vs H Q _ => ∃ (a : Addr) (v : V), vs = [.ref a, v] ∧ H a = some (exo a C none) ∧ ∀ d, H d = none → d ≠ a → Q .non (upd (upd H d (exd d [(f, v)])) a (exo a C (some d)))
/-- an own error made: what is asked -/
def MkOP (C : Addr) (sp : Sp) (vs : List V) (H : Hp) (Q : XK) : Prop := vs.length ≤ 1000 ∧ ∀ a, H a = none → sp (.ref a :: (vs ++ [])) (upd H a (exo a C none))
    (fun v H2 => v = .non ∧ ∃ (d : Addr) (fs : List (Str × V)), H2 a = some (exo a C (some d)) ∧ H2 d = some (exd d fs) ∧ H d = none ∧ Q (.ref C) (some d) (upd (del H2 a) d (.xd fs))) (fun _ _ _ => False)
theorem w_mkO {C : Addr} {sp : Sp} {tl : TA} {σ : St} {H : Hp} {Q : XK} (q : tl σ H fun vs H1 => MkOP C sp vs H1 Q) : tMkO C sp [] tl σ H Q := q
theorem k_mkO {C : Addr} {f : Str} {v : V} {H : Hp} {Q : XK} (h : ∀ d H2, H d = none → Same H H2 → H2 d = some (.xd [(f, v)]) → Q (.ref C) (some d) H2) : MkOP C (spX C f) [v] H Q := by
  refine ⟨by simp, fun a ha => ⟨a, v, rfl, upd_same, fun d hd hn => ⟨rfl, d, [(f, v)], upd_same, ?_, ?_, ?_⟩⟩⟩
  · rw [upd_ne hn, upd_same]
  · rw [upd_ne hn] at hd; exact hd
  · have hd' : H d = none := by rw [upd_ne hn] at hd; exact hd
    refine h d _ hd' (fun b o e => ?_) upd_same
    have n1 : b ≠ d := ne_of_none e hd'
    have n2 : b ≠ a := ne_of_none e ha
    rw [upd_ne n1, del_ne n2, upd_ne n2, upd_ne n1, upd_ne n2]
    exact e
end L2.My

/-! W3: built-ins by name, stores into lists, products, the state that laws draw from. -/
namespace L2.My
open PySem PySem.Spec PyProof.Rows
section
variable {X : Cx} {K : PySem.W.Frag} {σ : L2.St} {H : Hp} {Q : VK} {te : TE} {tl : TA} {a p : Addr} {xs : List V} {i j : Int} {v : V}
def rInt : List V → Hp → VK → Prop := fun vs H Q => (∃ i, vs = [.int i] ∧ Q (.int i) H) ∨ ∃ k, vs = [.bl k] ∧ Q (.int (if k then 1 else 0)) H
theorem cn_int : CallR X (.type "int") rInt := call_int1
theorem w_int (q : Q (.int i) H) : rInt [.int i] H Q := .inl ⟨i, rfl, q⟩
theorem w_intB {b : Bool} (q : Q (.int (if b then 1 else 0)) H) : rInt [.bl b] H Q := .inr ⟨b, rfl, q⟩
def rAbs : List V → Hp → VK → Prop := fun vs H Q => ∃ i, vs = [.int i] ∧ Q (.int (if i < 0 then -i else i)) H
theorem cn_abs : CallR X (.builtin "abs") rAbs := call_abs
theorem w_abs (q : Q (.int (i.natAbs : Int)) H) : rAbs [.int i] H Q := ⟨i, rfl, by
  have e : (if i < 0 then -i else i) = (i.natAbs : Int) := by split <;> omega
  rw [e]; exact q⟩
def rLen (K : PySem.W.Frag) : List V → Hp → VK → Prop := fun vs H Q => ∃ x n, vs = [x] ∧ LenV K x H n ∧ Q (.int n) H
theorem cn_len : CallR X (.builtin "len") (rLen X.K) := call_len
theorem w_lenL (h : SqL K H a xs) (q : Q (.int (xs.length : Nat)) H) : rLen K [.ref a] H Q := ⟨_, _, rfl, .inl ⟨_, h, rfl⟩, q⟩
theorem w_lenT (h : SqT K H a xs) (q : Q (.int (xs.length : Nat)) H) : rLen K [.ref a] H Q := ⟨_, _, rfl, .inr ⟨_, h, rfl⟩, q⟩
def rListOf (K : PySem.W.Frag) : List V → Hp → VK → Prop := fun vs H Q => ∃ p ys, vs = [.ref p] ∧ (SqL K H p ys ∨ SqT K H p ys) ∧ ∀ l, H l = none → Q (.ref l) (upd H l (.lst ys))
theorem cn_list : CallR X (.type "list") (rListOf X.K) := call_list_of
theorem w_listL (h : SqL K H a xs) (q : ∀ l H2, H l = none → Same H H2 → H2 l = some (.lst xs) → Q (.ref l) H2) : rListOf K [.ref a] H Q := ⟨a, xs, rfl, .inl h, fun l hl => q l _ hl (Same.new hl) upd_same⟩
theorem w_listT (h : SqT K H a xs) (q : ∀ l H2, H l = none → Same H H2 → H2 l = some (.lst xs) → Q (.ref l) H2) : rListOf K [.ref a] H Q := ⟨a, xs, rfl, .inr h, fun l hl => q l _ hl (Same.new hl) upd_same⟩
def NewD (H : Hp) (Q : VK) : Prop := ∀ p, H p = none → Q (.ref p) (upd H p (.dK []))
theorem w_dnew (q : NewD H Q) : tDNewK σ H Q := q
theorem k_dnew (q : ∀ p H2, H p = none → Same H H2 → H2 p = some (.dK []) → Q (.ref p) H2) : NewD H Q := fun p hp => q p _ hp (Same.new hp) upd_same
/-- a slice of a list -/
def SlP (r : V → Option Int → Option Int → Hp → VK → Prop) (x : V) (lo hi : Option Int) (H : Hp) (Q : VK) : Prop := r x lo hi H Q
theorem w_sl {r : V → Option Int → Option Int → Hp → VK → Prop} {t1 t2 : TO} (q : te σ H fun x H1 => t1 σ H1 fun l H2 => t2 σ H2 fun u H3 => SlP r x l u H3 Q) : tSl r te t1 t2 σ H Q := q
theorem k_slL {lo hi : Option Int} (h : SqL K H a xs) (q : ∀ l H2, H l = none → Same H H2 → H2 l = some (.lst (cutV xs lo hi)) → Q (.ref l) H2) : SlP (rSlL K) (.ref a) lo hi H Q := ⟨a, xs, rfl, h, fun l hl => q l _ hl (Same.new hl) upd_same⟩
theorem w_poN {QO : Option Int → Hp → Prop} (q : QO none H) : tNoPart σ H QO := q
theorem w_poS {QO : Option Int → Hp → Prop} (q : te σ H fun x H1 => ∃ i, x = .int i ∧ QO (some i) H1) : tPart te σ H QO := q
theorem w_exI {p : Int → Prop} (q : p i) : ∃ k, V.int i = .int k ∧ p k := ⟨i, rfl, q⟩
/-- xs[i] = v -/
theorem w_gsub {to ti : TE} {t : TSet} {N : L2.St → Hp → Prop} (q : to σ H fun o H1 => ti σ H1 fun i H2 => t o i v H2 fun H3 => N σ H3) : gSub to ti t v σ H N := q
theorem w_setL {N : Hp → Prop} {n : Nat} (h : H a = some (.lst xs)) (e : ixN xs.length i = some n) (q : ∀ H2, SameX a H H2 → H2 a = some (.lst (xs.set n v)) → N H2) : rSetL (.ref a) (.int i) v H N :=
  ⟨a, xs, i, n, rfl, rfl, h, e, q _ (SameX.upd fun _ _ _ e => e) upd_same⟩
theorem w_yes {QB : Bool → Hp → Prop} (q : QB true H) : tYes σ H QB := q
/-- ways meet behind a statement -/
theorem w_cut {ts us : TS} {nx bk ct : L2.St → Hp → Prop} {rt : VK} (Mid : L2.St → Hp → Prop) (h : ts ⟨Mid, rt, bk, ct⟩ σ H) (q : ∀ σ' H', Mid σ' H' → us ⟨nx, rt, bk, ct⟩ σ' H') : C8.tCut ts us ⟨nx, rt, bk, ct⟩ σ H := ⟨Mid, h, q⟩
theorem w_cutE {ts us : TS} {nx bk ct : L2.St → Hp → Prop} {rt : VK} {σ' : L2.St} {H' : Hp} (h : ts ⟨fun σ1 H1 => σ1 = σ' ∧ H1 = H', rt, bk, ct⟩ σ H) (q : us ⟨nx, rt, bk, ct⟩ σ' H') : C8.tCut ts us ⟨nx, rt, bk, ct⟩ σ H := ⟨_, h, fun _ _ e => by rw [e.1, e.2]; exact q⟩
/-- products: one factor is small, or both together are not too large -/
def CMulS (i j : Int) : Prop := (-18446744073709551616 < i ∧ i < 18446744073709551616) ∨ (-18446744073709551616 < j ∧ j < 18446744073709551616) ∨ CMulW i j
theorem op_mulS : OpR X (binaryOp .Mult) (rI CMulS fun i j => .int (i * j)) := opI fun _ _ _ _ _ _ _ hc q => by
  rcases hc with h | h | h
  · exact mul_int q (CMul.ok (.inl h))
  · exact mul_int q (CMul.ok (.inr h))
  · exact mul_int q h.ok
theorem atI_ints {ns : List Int} {k : Int} (h0 : 0 ≤ k) (h1 : k < (ns.length : Int)) : ∃ z, atI (ns.map V.int) k = some (.int z) := by
  obtain ⟨n, rfl⟩ := Int.eq_ofNat_of_zero_le h0
  have hn : n < ns.length := by omega
  exact ⟨ns[n], atI_nat (by simp [hn])⟩
theorem cut_ints (ns : List Int) (lo hi : Option Int) : ∃ ms : List Int, cutV (ns.map V.int) lo hi = ms.map V.int := by
  unfold cutV
  exact ⟨((ns.drop (HT.sIx (ns.map V.int).length 0 lo)).take (HT.sIx (ns.map V.int).length (ns.map V.int).length hi - HT.sIx (ns.map V.int).length 0 lo)), by rw [List.map_take, List.map_drop]⟩
/-- a number that is not too great; omega doesn't see into it -/
def Bd (x : Int) : Prop := x.natAbs < 2 ^ 8000
/-! ### data compared -/
theorem dp_ints : ∀ ns : List Int, DpAll K H (ns.map V.int) (ns.map PyData.int)
  | [] => .nil
  | n :: ns => .cons (.int n) (dp_ints ns)
theorem can_ints : ∀ ns : List Int, PyData.canLayAll0 (ns.map PyData.int) = true
  | [] => rfl
  | n :: ns => by simp only [List.map_cons, PyData.canLayAll0, PyData.canLay0, can_ints ns, Bool.and_self]
theorem depth_ints : ∀ ns : List Int, PyData.depthAll (ns.map PyData.int) = 0
  | [] => rfl
  | n :: ns => by simp only [List.map_cons, PyData.depthAll, PyData.depth, depth_ints ns]; rfl
theorem eqv_ints : ∀ ns ms : List Int, PyData.eqvAll (ns.map PyData.int) (ms.map PyData.int) = decide (ns = ms)
  | [], [] => rfl
  | [], _ :: _ => rfl
  | _ :: _, [] => rfl
  | n :: ns, m :: ms => by
    simp only [List.map_cons, PyData.eqvAll, PyData.eqv, eqv_ints ns ms, List.cons.injEq, Bool.decide_and]
    rfl
theorem shaped_ints (ns : List Int) : SeqAt.shaped (.tuple (ns.map PyData.int)) = true := by
  simp only [SeqAt.shaped, PyData.canLay0, can_ints, PyData.depth, depth_ints]; decide
theorem w_eqT {b : Addr} {ns ms : List Int} (h1 : H a = some (.tup (ns.map V.int))) (h2 : H b = some (.tup (ms.map V.int))) (q : Q (.bl (decide (ns = ms))) H) : rEqD K (.ref a) (.ref b) H Q :=
  ⟨.tuple (ns.map .int), .tuple (ms.map .int), .tup (SqT.of h1) (dp_ints ns), .tup (SqT.of h2) (dp_ints ms), shaped_ints _, shaped_ints _, by rw [PyData.eqv, eqv_ints]; exact q⟩
/-- == of plain things: data of any depth, dicts -/
def rEqU (K : PySem.W.Frag) : R2 := fun x y H Q => rEqD K x y H Q ∨ rEqDA x y H Q
theorem op_eqU (hu : X.A.units + 64 < cLine) : OpR X (compareOp .Eq) (rEqU X.K) := (op_eqD hu).or (op_eq_dictA (by omega))
/-- a thing that == finds equal to itself -/
inductive Selfy (H : Hp) : V → Prop
  | non : Selfy H .non
  | int (i : Int) : Selfy H (.int i)
  | str (s : Str) (h : SeqAt.shaped (.str s) = true) : Selfy H (.str s)
  | lst (a : Addr) (ns : List Int) (e : H a = some (.lst (ns.map V.int))) : Selfy H (.ref a)
  | tup (a : Addr) (ns : List Int) (e : H a = some (.tup (ns.map V.int))) : Selfy H (.ref a)
  | dK (a : Addr) (e : H a = some (.dK [])) : Selfy H (.ref a)
theorem shaped_intsL (ns : List Int) : SeqAt.shaped (.list (ns.map PyData.int)) = true := by
  simp only [SeqAt.shaped, PyData.canLay0, can_ints, PyData.depth, depth_ints]; decide
theorem w_eqSelf (h : Selfy H v) (q : Q (.bl true) H) : rEqU K v v H Q := by
  have go : ∀ d, Dp K H v d → SeqAt.shaped d = true → rEqU K v v H Q := fun d hd sd => .inl ⟨d, d, hd, hd, sd, sd, by rw [SeqAt.eqv_refl d (SeqAt.canLay_of_shaped sd)]; exact q⟩
  cases h with
  | non => exact go _ .non (by decide +kernel)
  | int i => exact go _ (.int i) rfl
  | str s h => exact go _ (.str s) h
  | lst a ns e => exact go _ (.lst (SqL.of e) (dp_ints ns)) (shaped_intsL ns)
  | tup a ns e => exact go _ (.tup (SqT.of e) (dp_ints ns)) (shaped_ints ns)
  | dK a e => exact .inr ⟨a, a, [], [], rfl, rfl, e, e, rfl, (fun _ h => nomatch h), q⟩
/-- a thing of the law's own: a kind that is known, and if it is no int, one that is found equal to itself -/
structure Odd (c : Addr) (H : Hp) (v : V) : Prop where
  th : Th c H v
  eq : isI v = false → (∃ b, v = .bl b) ∨ isB v = false ∧ Selfy H v
theorem Odd.sx {c p : Addr} {H H' : Hp} (h : Odd c H v) (h3 : ∀ a, v = .ref a → a ≠ p) (s : SameX p H H') : Odd c H' v := by
  obtain ⟨h1, h2⟩ := h
  refine ⟨?_, fun z => ?_⟩
  · cases h1 with
    | non => exact .non
    | bl b => exact .bl b
    | int i => exact .int i
    | str s => exact .str s
    | lst a xs e => exact .lst a xs (s _ _ (h3 a rfl) e)
    | tup a xs e => exact .tup a xs (s _ _ (h3 a rfl) e)
    | dK a xs e => exact .dK a xs (s _ _ (h3 a rfl) e)
    | root a dx t r b e => exact .root a dx t r b (s _ _ (h3 a rfl) e)
  · rcases h2 z with h | ⟨hb, h⟩
    · exact .inl h
    · refine .inr ⟨hb, ?_⟩
      cases h with
      | non => exact .non
      | int i => exact .int i
      | str s h => exact .str s h
      | lst a ns e => exact .lst a ns (s _ _ (h3 a rfl) e)
      | tup a ns e => exact .tup a ns (s _ _ (h3 a rfl) e)
      | dK a e => exact .dK a (s _ _ (h3 a rfl) e)
theorem Odd.int {c : Addr} (i : Int) : Odd c H (.int i) := ⟨.int i, fun e => by cases e⟩
theorem w_Tself {α : Type} [DecidableEq α] {x : α} {A B : Prop} (q : A) : if decide (x = x) = true then A else B := by rw [decide_eq_true rfl]; exact iteT q
theorem w_Fself {α : Type} [DecidableEq α] {x : α} {A B : Prop} (q : B) : if (!decide (x = x)) = true then A else B := by rw [decide_eq_true rfl]; exact iteF q
theorem w_isB {b c : Bool} (q : Q (.bl (decide (b = c))) H) : rIsB (.bl b) (.bl c) H Q := ⟨b, c, rfl, rfl, q⟩
/-- the state that a law draws from stands at p, its cells at q -/
def StA (H : Hp) (p q : Addr) : Prop := ∃ (ns : List Int) (at_ pend : Int), H p = some (.lst [.ref q, .int at_, .int pend]) ∧ H q = some (.lst (ns.map V.int)) ∧ q ≠ p ∧ 0 ≤ at_ ∧ 0 ≤ pend
theorem StA.same {H H' : Hp} {p q : Addr} (h : StA H p q) (s : Same H H') : StA H' p q := by
  obtain ⟨ns, at_, pend, h1, h2, h3⟩ := h
  exact ⟨ns, at_, pend, s _ _ h1, s _ _ h2, h3⟩
theorem sz_lt {n : Nat} (h : n < 1000) : n < sizeLine := Nat.lt_of_lt_of_le h (by decide)
/-- a new object is another one -/
theorem StA.new {H : Hp} {p q b : Addr} (h : StA H p q) (e : H b = none) : b ≠ p ∧ b ≠ q := by
  obtain ⟨ns, at_, pend, h1, h2, _⟩ := h
  exact ⟨fun z => (by rw [z, h1] at e; cases e), fun z => (by rw [z, h2] at e; cases e)⟩
/-- a change elsewhere -/
theorem StA.other {H : Hp} {p q b : Addr} {o : HO} (h : StA H p q) (n : b ≠ p ∧ b ≠ q) : StA (upd H b o) p q := by
  obtain ⟨ns, at_, pend, h1, h2, h3⟩ := h
  exact ⟨ns, at_, pend, by rw [upd_ne (Ne.symm n.1)]; exact h1, by rw [upd_ne (Ne.symm n.2)]; exact h2, h3⟩
theorem StA.otherX {H H' : Hp} {p q b : Addr} (h : StA H p q) (n : b ≠ p ∧ b ≠ q) (s : SameX b H H') : StA H' p q := by
  obtain ⟨ns, at_, pend, h1, h2, h3⟩ := h
  exact ⟨ns, at_, pend, s _ _ (Ne.symm n.1) h1, s _ _ (Ne.symm n.2) h2, h3⟩
/-- another object than the state -/
theorem StA.ne {H : Hp} {p q b : Addr} {o : HO} (h : StA H p q) (e : H b = some o) (n : ∀ xs, o ≠ .lst xs) : b ≠ p := by
  obtain ⟨ns, at_, pend, h1, _⟩ := h
  exact ne_of e h1 (n _)
/-- a comprehension over a range whose turns draw: ints of which P holds -/
theorem k_lcDraw {st sc : Addr} {n : Int} {ws : List Nat} {slot : Nat} {te : TE} {P : Int → Prop} (h1 : -(2 ^ 62) ≤ n) (h2 : n ≤ 500) (hs : StA H st sc)
    (hw : ∀ z, wipe ((wipe σ ws).set slot (some (.int z))) ws = wipe σ ws)
    (turn : ∀ z H', StA H' st sc → SameX st H H' → ∀ N : VK, (∀ y H2, P y → SameX st H' H2 → StA H2 st sc → N (.int y) H2) → te ((wipe σ ws).set slot (some (.int z))) H' N)
    (hd : ∀ (D : Addr) (H' : Hp) (ms : List Int), H' D = some (.lst (ms.map V.int)) → ms.length = n.toNat → (∀ z ∈ ms, P z) → D ≠ st ∧ D ≠ sc → StA H' st sc → SameX st H H' → Q (.ref D) H') : CompR (gName slot) tYes te ws σ [.int n] H Q := by
  refine k_lcR (fun i D H' => H D = none ∧ ∃ ms : List Int, H' D = some (.lst (ms.map V.int)) ∧ ms.length = i ∧ (∀ z ∈ ms, P z) ∧ (D ≠ st ∧ D ≠ sc) ∧ StA H' st sc ∧ SameX st H H') h1 (by omega) (fun D hD => ⟨hD, [], upd_same, rfl, (fun _ h => nomatch h), hs.new hD, hs.same (Same.new hD), Same.x (Same.new hD)⟩) ?_ ?_
  · rintro i D H' hi ⟨hD, ms, e1, e2, e3, e4, e5, e6⟩
    refine ⟨hw _, ?_⟩
    refine w_yes (w_T rfl ?_)
    refine turn _ H' e5 e6 _ fun y H2 py s2 st2 => ?_
    refine ⟨_, s2 _ _ e4.1 e1, by rw [List.length_map, e2]; exact sz_lt (by omega), hD, ms ++ [y], by rw [List.map_append]; exact upd_same, by rw [List.length_append, e2]; rfl, ?_, e4, st2.other e4, fun b o nb e => ?_⟩
    · intro m hm
      rcases List.mem_append.mp hm with h | h
      · exact e3 m h
      · obtain rfl : m = y := by simpa using h
        exact py
    · rw [upd_ne (ne_of_none e hD)]
      exact s2 _ _ nb (e6 _ _ nb e)
  · rintro D H' ⟨hD, ms, e1, e2, e3, e4, e5, e6⟩
    exact hd D H' ms e1 e2 e3 e4 e5 e6
/-- a comprehension over a list of ints, without draws: ints again -/
theorem k_lcInts {p : Addr} {ns : List Int} {ws : List Nat} {slot : Nat} {te : TE} {f : Int → Int} (h : SqL K H p (ns.map V.int)) (hl : ns.length ≤ 500)
    (hw : ∀ z, wipe ((wipe σ ws).set slot (some (.int z))) ws = wipe σ ws) (hsame : ∀ H', Same H H' → SqL K H' p (ns.map V.int))
    (turn : ∀ z H', z ∈ ns → Same H H' → ∀ N : VK, N (.int (f z)) H' → te ((wipe σ ws).set slot (some (.int z))) H' N)
    (hd : ∀ D H', H D = none → Same H H' → H' D = some (.lst ((ns.map f).map V.int)) → Q (.ref D) H') : CompL K (gName slot) tYes te ws σ (.ref p) H Q := by
  refine k_lcL (xs := ns.map V.int) (fun i D H' => H D = none ∧ Same H H' ∧ H' D = some (.lst (((ns.take i).map f).map V.int))) h (fun D hD => ⟨hD, Same.new hD, upd_same⟩) (fun i D H' e => hsame H' e.2.1) ?_ ?_
  · rintro i x D H' hx ⟨hD, s1, e1⟩
    have hi : i < ns.length := by
      have := (List.getElem?_eq_some_iff.mp hx).1
      rwa [List.length_map] at this
    obtain rfl : x = V.int ns[i] := by
      rw [List.getElem?_map, List.getElem?_eq_getElem hi] at hx
      exact (Option.some.inj hx).symm
    refine ⟨hw _, ?_⟩
    refine w_yes (w_T rfl ?_)
    refine turn _ H' (List.getElem_mem hi) s1 _ ?_
    refine ⟨_, e1, by rw [List.length_map, List.length_map, List.length_take]; exact sz_lt (by omega), hD, fun b o e => ?_, ?_⟩
    · rw [upd_ne (ne_of_none e hD)]
      exact s1 b o e
    · have e : ns.take (i + 1) = ns.take i ++ [ns[i]] := by rw [List.take_add_one, List.getElem?_eq_getElem hi]; rfl
      rw [upd_same, e, List.map_append, List.map_append]
      rfl
  · rintro D H' ⟨hD, s1, e1⟩
    rw [List.length_map, List.take_length] at e1
    exact hd D H' hD s1 e1
end
end L2.My

/-! W4: isinstance of a caught own error that bears a field. -/
namespace PySem.W
open PySem PySem.Spec PySem.Calls PyProof.Rows
section
variable {prog : Program} {w : World} {A : Around} {E : Value → Shared → Prop} {s : Shared} {K : Frag} {x D : Addr} {ox od : Obj}
/-- what the class of such an error says -/
structure XiC (K : Frag) (D : Addr) : Prop where
  hga : findIn K (.ref D) "__getattribute__" = some (some (.builtin "BaseException.__getattribute__"))
  hgt : findIn K (.ref D) "__getattr__" = some none
  hsub : subIn K (.ref D) (.type "BaseException") = some true
  hdct : hasDictIn K D = true
  ha : findIn K (.ref D) "__class__" = some (some (.builtin "object.__class__"))
  hn : specialIn K (.builtin "object.__class__") "__get__" = some (some (.builtin "getset_descriptor.__get__"))
  htk : takesIn K (.builtin "object.__class__") = some true
  hm : mroIn K D (.type "object") = some true
theorem xi_class {Q : Option Value → Shared → Prop} (T : XiC K D) (X : K.In s.heap) (I : InstAt s.heap x ox D (some od)) (h : Q (some (.ref D)) { s with toks := s.toks + 1 }) : wpAny (model prog w) A (getAttr? (.ref x) "__class__") Q E s := by
  have fnd : findObj K D (some od) "__class__" = some (.bind (.builtin "getset_descriptor.__get__") (.builtin "object.__class__")) := findObj_data (by obtain ⟨cd, hc, _⟩ := any_some T.hdct; rw [hc]; rfl) T.ha T.hn T.htk
  obtain ⟨hp, g, d, t, os⟩ := s
  have l0 := I.type (M := model prog w)
  have l1 := looks_findIn (M := model prog w) X T.hga
  have l2 := looks_findIn (M := model prog w) X T.hgt
  have l3 := looks_find (M := model prog w) X I fnd
  have sb : Looks (model prog w) hp (isInstance (.ref x) (.type "BaseException")) true := l0.andThen (looks_subIn X T.hsub)
  have n0 : (false && onTheHeap (Value.builtin "BaseException.__getattribute__")) = false := rfl
  have n2 : (Value.builtin "BaseException.__getattribute__" == Value.builtin "object.__getattribute__") = false := by decide +kernel
  have n1 : (onTheHeap (Value.ref D) && Value.builtin "BaseException.__getattribute__" == Value.builtin "object.__getattribute__") = false := by rw [n2]; rfl
  unfold getAttr? getAttrBy? getAttrBy
  refine wpAny_bind (wpAny_mkText (wpAny_bind (wpAny_attempt (wpAny_holding (wpAny_bind (l0.at (wpAny_bind (l1.at ?_))))))))
  dsimp only
  rw [n1, if_neg Bool.false_ne_true]
  unfold getAttrByItsOwn hookBefore
  refine wpAny_bind ?_
  rw [if_pos (show onTheHeap (Value.ref D) = true from rfl)]
  refine l2.at (wpAny_bind (wpAny_attempt (wpAny_holding ?_)))
  unfold callGetattribute
  rw [n0, if_neg Bool.false_ne_true]
  unfold boundAndCalled
  rw [PySem.F.excAttr_ValueError.ga.bind (.ref x)]
  refine wpAny_bind (wpAny_pure ?_)
  show wpAny _ _ (call (.builtin "BaseException.__getattribute__") [.ref x, .str "__class__" t]) _ _ _
  refine wpAny_call (codeAny_call_builtin PySem.F.excAttr_ValueError.ga.plain PySem.F.entry_bexc_ga ?_)
  refine @check_slot (model prog w) _ _ ⟨hp, g, d, t + 1, os⟩ "BaseException.__getattribute__" "BaseException" "__getattribute__" (.ref x) [.str "__class__" t] [] _ (by decide +kernel) (by decide +kernel) sb (PySem.F.args_bexc_ga (.ref x) (.str "__class__" t)) ?_
  unfold Builtin.«object.__getattribute__»
  refine wpAny_bind (wpAny_of_eq (a := ((Value.ref x : Value), [Value.str "__class__" t])) (by first | rfl | (simp only [slotArgs]; rfl)) ?_)
  refine wpAny_bind (wpAny_pure (wpAny_bind (l0.at (wpAny_bind (l3.at ?_)))))
  show wpAny _ _ (holding [Value.builtin "object.__class__"] (call (.builtin "getset_descriptor.__get__") [.builtin "object.__class__", .ref x, .ref D]) >>= ret) _ _ _
  refine wpAny_bind (wpAny_holding (wpAny_call (class_get (s := ⟨hp, g, d, t + 1, os⟩) (ox := ox) (od := some od) X I T.hm ?_)))
  refine wpAny_pure ?_
  show wpAny _ _ (handedOut (.ref D)) _ _ _
  rw [handedOut_of (v := .ref D) rfl]
  first
    | exact wpAny_pure (wpAny_pure h)
    | exact wpAny_pure h
    | exact wpAny_pure (wpAny_bind (wpAny_pure (wpAny_pure h)))
theorem xi_kitx (T : XiC K D) : KitX K (.ref x) (.ref D) (fun h => ∃ ox od, InstAt h x ox D (some od)) where
  ty := fun _ _ _ ⟨_, _, I⟩ => I.type
  it := fun _ _ X _ => by
    obtain ⟨cdD, hcD, _⟩ := any_some T.hdct
    unfold clsIn at hcD
    split at hcD
    · rename_i c' d' cd' sl' ho
      intro A' Q' E' s' k q
      unfold isType loadHead
      exact wpAny_bind (wpAny_loadPart (k _ _ (X _ _ ho)) (wpAny_pure q))
    · cases hcD
  ne := fun h tp dd its n sl X htp => by
    obtain ⟨cdD, hcD, _⟩ := any_some T.hdct
    refine Bool.eq_false_iff.mpr fun q => ?_
    have e : D = tp := Value.ref.inj (beq_iff_eq.mp q)
    subst e
    unfold clsIn at hcD
    split at hcD
    · rename_i c' d' cd' sl' ho
      have z := (X _ _ ho).symm.trans htp
      cases z
    · cases hcD
  ca := fun X ⟨_, _, I⟩ k => xi_class T X I k
end
end PySem.W
namespace L2.My
open PySem PySem.Spec PyProof.Rows
/-- isinstance(e, c), e the own error that the suite holds -/
def rIsX (K : PySem.W.Frag) (D a : Addr) (cls : Value) (d : Option Addr) : List V → Hp → VK → Prop := fun xs H Q => ∃ (c : V) (cv : Value) (b : Bool) (dd : Addr) (fs : List (Str × V)), xs = [.ref a, c] ∧ cls = .ref D ∧ d = some dd ∧ H dd = some (.xd fs) ∧
  (∀ u, RelV c u → u = cv) ∧ PySem.W.kitOne K (.ref D) cv = some b ∧ Q (.bl b) H
theorem cn_isX {X : Cx} {a D : Addr} {cls : Value} {d : Option Addr} {oe : Obj} {pn : List (Addr × Obj)} (T : PySem.W.XiC X.K D) (hz : Zc cls d oe) (hf : ∃ vs, oe.data = .fields vs) : CallR (X.suite a ((a, oe) :: pn)) (.builtin "isinstance") (rIsX X.K D a cls d) := by
  intro pins s σ H xs us Q I r h
  obtain ⟨c, cv, b, dd, fs, rfl, rfl, rfl, ea, hcv, e, q⟩ := h
  obtain ⟨u1, u2, rfl, r1, r2⟩ := vals2 r
  cases (show u1 = Value.ref a from r1)
  have ec := hcv _ r2
  subst ec
  obtain ⟨hget, _⟩ := I.pin (a, oe) (List.mem_append_left _ List.mem_cons_self)
  obtain ⟨vs, hd⟩ := hf
  obtain ⟨mA, hns, hr⟩ := (show ObjOk X.prog X.w H s.heap dd (.xd fs) from I.hok dd _ ea)
  obtain ⟨od, ho, hl⟩ := lookIn_ns hns
  have J : PySem.W.InstAt s.heap a oe D (some od) := ⟨hget, hz.1, by unfold PySem.W.notCls; rw [hd] <;> rfl, by rw [hz.2]; exact ho⟩
  exact PySem.W.kia_one (PySem.W.xi_kitx T) I.kIn ⟨oe, od, J⟩ e (fun z => nomatch z) fun tk => ⟨.bl b, H, I.tok tk, rfl, q⟩
theorem w_isX {K : PySem.W.Frag} {D a : Addr} {d : Addr} {fs : List (Str × V)} {H : Hp} {Q : VK} {b : Bool} {C : Addr} (h : H d = some (.xd fs)) (k : PySem.W.kitOne K (.ref D) (.ref C) = some b) (q : Q (.bl b) H) : rIsX K D a (.ref D) (some d) [.ref a, .ref C] H Q :=
  ⟨.ref C, .ref C, b, d, fs, rfl, rfl, rfl, h, fun u r => r, k, q⟩
theorem w_isXT {K : PySem.W.Frag} {D a : Addr} {d : Addr} {fs : List (Str × V)} {H : Hp} {Q : VK} {b : Bool} {n : String} (h : H d = some (.xd fs)) (k : PySem.W.kitOne K (.ref D) (.type n) = some b) (q : Q (.bl b) H) : rIsX K D a (.ref D) (some d) [.ref a, .ty n] H Q :=
  ⟨.ty n, .type n, b, d, fs, rfl, rfl, rfl, h, fun u r => r, k, q⟩
/-- e.f in the suite: what is asked -/
def XfP (a : Addr) (cls : Value) (d : Option Addr) (C : Addr) (f : Str) (x : V) (H : Hp) (Q : VK) : Prop := x = .ref a ∧ cls = .ref C ∧ ∃ (dd : Addr) (fs : List (Str × V)) (v : V), d = some dd ∧ H dd = some (.xd fs) ∧ fs.lookup f = some v ∧ Q v H
theorem w_xf {a : Addr} {cls : Value} {d : Option Addr} {C : Addr} {f : Str} {te : TE} {σ : L2.St} {H : Hp} {Q : VK} (q : te σ H fun x H1 => XfP a cls d C f x H1 Q) : tXf a cls d C f te σ H Q := q
theorem k_xf {a d C : Addr} {f : Str} {v : V} {H : Hp} {Q : VK} (h : H d = some (.xd [(f, v)])) (q : Q v H) : XfP a (.ref C) (some d) C f (.ref a) H Q := ⟨rfl, rfl, d, _, v, rfl, h, by simp [List.lookup], q⟩
end L2.My

/-! W5: from what the head tells to what the walks ask. -/
namespace L2.My
open PySem PySem.Spec PyProof.Rows
theorem kit_eq {K : PySem.W.Frag} {t : Value} {C : Addr} (ic : PySem.W.isClsIn K C = true) (tc : PySem.W.typeIn K (.ref C) = some (.type "type")) : PySem.W.kitCls K t (.ref C) = PySem.W.subIn K t (.ref C) := by
  have e : ((PySem.W.clsIn K C).isSome && PySem.W.typeIn K (.ref C) == some (.type "type")) = true := by
    have h2' : (PySem.W.clsIn K C).isSome = true := ic
    rw [h2', tc] <;> rfl
  show (if ((PySem.W.clsIn K C).isSome && PySem.W.typeIn K (.ref C) == some (.type "type")) = true then PySem.W.subIn K t (.ref C) else none) = _
  rw [if_pos e]
theorem kit_ref {K : PySem.W.Frag} {t : Value} {C : Addr} (ic : PySem.W.isClsIn K C = true) (tc : PySem.W.typeIn K (.ref C) = some (.type "type")) (h : PySem.W.subIn K t (.ref C) = some true) : PySem.W.kitOne K t (.ref C) = some true := by
  unfold PySem.W.kitOne
  rw [kit_eq ic tc, h]
  split <;> rfl
theorem kit_ref0 {K : PySem.W.Frag} {t : Value} {C : Addr} (ic : PySem.W.isClsIn K C = true) (tc : PySem.W.typeIn K (.ref C) = some (.type "type")) (h : PySem.W.subIn K t (.ref C) = some false) (hn : (t == .ref C) = false) : PySem.W.kitOne K t (.ref C) = some false := by
  unfold PySem.W.kitOne
  rw [kit_eq ic tc, h, hn]
  rfl
theorem kit_type {K : PySem.W.Frag} {C : Addr} {T : String} {b : Bool} (km : PySem.W.kitMeta T = true) (h : PySem.W.subIn K (.ref C) (.type T) = some b) : PySem.W.kitOne K (.ref C) (.type T) = some b := by
  unfold PySem.W.kitOne
  have e : ((Value.ref C) == Value.type T) = false := rfl
  rw [e, if_neg Bool.false_ne_true]
  show (if PySem.W.kitMeta T = true then PySem.W.subIn K (.ref C) (.type T) else none) = some b
  rw [if_pos km, h]
theorem exm_mk {K : PySem.W.Frag} {S : Addr} (h1 : PySem.W.subIn K (.ref S) (.type "BaseException") = some true) (h2 : PySem.W.isClsIn K S = true) (h3 : PySem.W.typeIn K (.ref S) = some (.type "type")) (h4 : PySem.W.subIn K (.ref S) (.ref S) = some true) :
    PySem.W.exmOne K (.ref S) (.ref S) = some true := by
  have e1 : (PySem.W.subIn K (.ref S) (.type "BaseException") == some true) = true := by rw [h1] <;> rfl
  show (if (PySem.W.subIn K (.ref S) (.type "BaseException") == some true) = true then PySem.W.kitCls K (.ref S) (.ref S) else none) = some true
  rw [if_pos e1, kit_eq h2 h3, h4]
theorem ki_mk {K : PySem.W.Frag} {c : Addr} (ty : Cls K c) (ha : PySem.W.findIn K (.ref c) "__class__" = some (some (.builtin "object.__class__"))) (hm : PySem.W.mroIn K c (.type "object") = some true)
    (ic : PySem.W.isClsIn K c = true) (tc : PySem.W.typeIn K (.ref c) = some (.type "type")) (s1 : PySem.W.mroIn K c (.type "int") = some false) (s2 : PySem.W.mroIn K c (.type "bool") = some false) : KiT K c where
  ty := ty
  ha := ha
  hn := rfl
  htk := rfl
  hm := hm
  i := kit_type (by decide +kernel) s1
  b := kit_type (by decide +kernel) s2
  cc := by
    unfold PySem.W.kitOne
    have e : ((Value.ref c) == Value.ref c) = true := by simp
    rw [e, if_pos rfl]
  k1 := kit_ref0 ic tc rfl rfl
  k2 := kit_ref0 ic tc rfl rfl
  k3 := kit_ref0 ic tc rfl rfl
  k4 := kit_ref0 ic tc rfl rfl
  k5 := kit_ref0 ic tc rfl rfl
  k6 := kit_ref0 ic tc rfl rfl
  k7 := kit_ref0 ic tc rfl rfl
  n1 := rfl
  n2 := rfl
  n3 := rfl
  n4 := rfl
  n5 := rfl
  n6 := rfl
  n7 := rfl
  s1 := s1
  s2 := s2
theorem ref_ne {K : PySem.W.Frag} {a b : Addr} (h1 : PySem.W.mroIn K a (.ref a) = some true) (h2 : PySem.W.mroIn K a (.ref b) = some false) : (Value.ref a == Value.ref b) = false := by
  cases e : (Value.ref a == Value.ref b) with
  | false => rfl
  | true =>
    have : Value.ref a = Value.ref b := by simpa using e
    cases this
    rw [h1] at h2
    cases h2
theorem cx_no {P : Program} {w : World} {H : Hp} {s s' : Shared} {e : Value} (z : L2.CX P w [] H s (fun _ _ _ => False) e s') : False := by
  obtain ⟨_, _, _, _, _, _, _, _, _, _, _, _, h⟩ := z
  exact h
end L2.My

/-! W6: own + - * of instances and ints, both ways. -/
namespace L2.My
open PySem PySem.Spec PyProof.Rows PySem.SeqAt
open AutoSeq1 (wpAny_loadPart')
/-! ### own + - * of two instances, of one and an int, and of an int and one -/
theorem int_add_declines (b : Int) (u : Tok) (l C dx : Addr) :
    Meets (Builtin.«int.__add__» ⟨[.int b u, .ref l], []⟩) (fun _ R s => s.heap.get? l = some (PySem.W.instObj C dx) ∧ R (.ok (.ret .notImplemented)) s) :=
  .of_wp fun prog w A R s h => by obtain ⟨hp, g, d, tk, os⟩ := s; obtain ⟨hl, h⟩ := h; wp_walk using wpAny_loadPart' hl, wpAny_load hl; exact ⟨_, rfl, h⟩
theorem int_sub_declines (b : Int) (u : Tok) (l C dx : Addr) :
    Meets (Builtin.«int.__sub__» ⟨[.int b u, .ref l], []⟩) (fun _ R s => s.heap.get? l = some (PySem.W.instObj C dx) ∧ R (.ok (.ret .notImplemented)) s) :=
  .of_wp fun prog w A R s h => by obtain ⟨hp, g, d, tk, os⟩ := s; obtain ⟨hl, h⟩ := h; wp_walk using wpAny_loadPart' hl, wpAny_load hl; exact ⟨_, rfl, h⟩
theorem int_mul_declines (b : Int) (u : Tok) (l C dx : Addr) :
    Meets (Builtin.«int.__mul__» ⟨[.int b u, .ref l], []⟩) (fun _ R s => s.heap.get? l = some (PySem.W.instObj C dx) ∧ R (.ok (.ret .notImplemented)) s) :=
  .of_wp fun prog w A R s h => by obtain ⟨hp, g, d, tk, os⟩ := s; obtain ⟨hl, h⟩ := h; wp_walk using wpAny_loadPart' hl, wpAny_load hl; exact ⟨_, rfl, h⟩

/-- int op instance: the instance's own reflected def -/
theorem bin_refl {prog : Program} {w : World} {A : Around} {E : Value → Shared → Prop} {s : Shared} {K : PySem.W.Frag} {x C f g : Addr} {ox : Obj} {od : Option Obj} {op : Operator} {b : Int} {t : Tok} {id : String} {Q : Value → Shared → Prop}
    (X : K.In s.heap) (I : PySem.W.InstAt s.heap x ox C od) (sf : PySem.W.selfFirst K C = true) (hsub : PySem.W.subIn K (.ref C) (.type "int") = some false)
    (hg : PySem.W.findIn K (.ref C) (PySem.dunder op.info.2) = some (some (.ref g))) (hs : PySem.W.findIn K (.ref C) (PySem.dunderR op.info.2) = some (some (.ref f))) (hf : PySem.W.isFn K (.ref f) = true)
    (fi : fillsNumberSlot (.type "int") op.info.2 = pure true) (sl : Slot "int" (PySem.dunder op.info.2) id)
    (hd : ∀ Q' : Value → Shared → Prop, Q' .notImplemented s → wpAny (model prog w) A (call (.builtin id) [.int b t, .ref x]) Q' E s)
    (h : wpAny (model prog w) A (call (.ref f) [.ref x, .int b t]) (PySem.W.CmpBack Q) E s) : wpAny (model prog w) A (binaryOp op (.int b t) (.ref x)) Q E s := by
  obtain ⟨cd, rest, e1, e2⟩ := PySem.W.ksp_first sf
  have fC : PySem.W.Looks (model prog w) s.heap (fillsNumberSlot (.ref C) op.info.2) true := PySem.W.fills_K X e1 e2 hg
  have hne : (Value.type "int" == Value.ref C) = false := rfl
  have ti : s.TypeIs (.int b t) "int" := typeIs_int s b t
  have one : wpAny (model prog w) A (binaryOp1 op.info.2 (.int b t) (.ref x)) (fun r s' => ∃ v, r = some v ∧ Q v s') E s := by
    unfold binaryOp1
    refine wpAny_bind (wpAny_typeOf ti (wpAny_bind (I.type.here ?_)))
    rw [fi]
    refine wpAny_bind (wpAny_pure ?_)
    simp only [hne, Bool.false_eq_true, if_false]
    refine wpAny_bind (fC.here ?_)
    simp only [Bool.and_self, if_true]
    refine wpAny_bind ((PySem.W.looks_subIn X hsub).here ?_)
    simp only [Bool.false_eq_true, if_false, Bool.and_self, Bool.not_false, if_true]
    refine wpAny_bind ?_
    show wpAny _ _ (pure false) _ _ _
    refine wpAny_pure ?_
    simp only [Bool.false_eq_true, if_false]
    refine wpAny_bind (wpAny_tryMethod_declines ti sl (hd _ ⟨rfl, ?_⟩))
    refine wpAny_bind (wpAny_mono (PySem.W.ksp_try X I hs hf h) (fun r s' z => ?_) fun _ _ e => e)
    obtain ⟨v, rfl, hq⟩ := z
    exact wpAny_bind (wpAny_rule (wpAny_pure ⟨_, rfl, hq⟩))
  unfold binaryOp
  refine wpAny_holding ?_
  refine wpAny_bind (wpAny_mono one (fun r s' z => ?_) fun _ _ e => e)
  obtain ⟨v, rfl, hq⟩ := z
  exact wpAny_pure hq
section
variable {X : Cx} {C : Addr} {k k' j : Nat} {ps ps' : List Str} {sp spr : Sp} {E : XK} {m mr : Str}
/-- x op y, where one of both is an instance of C and the other one an instance of C or an int -/
def rOwnB (C : Addr) (sp spr : Sp) (E : XK) : R2 := fun x y H Q =>
  (∃ a dx fs, x = .ref a ∧ H a = some (.ins C dx fs) ∧ ((∃ i, y = .int i) ∨ ∃ a' dx' fs', y = .ref a' ∧ H a' = some (.ins C dx' fs')) ∧ sp [x, y] H Q E) ∨
  (∃ i a dx fs, x = .int i ∧ y = .ref a ∧ H a = some (.ins C dx fs) ∧ spr [y, x] H Q E)
/-- what an own operator needs of the class -/
structure OwnB (K : PySem.W.Frag) (C : Addr) : Prop where
  sf : PySem.W.selfFirst K C = true
  si : PySem.W.subIn K (.ref C) (.type "int") = some false
theorem op_ownB {op : Operator} {id : String} {fo ro : Option Value} (T : OwnB X.K C) (fi : fillsNumberSlot (.type "int") op.info.2 = pure true) (sl : Slot "int" (PySem.dunder op.info.2) id)
    (ef : PySem.W.findIn X.K (.type "int") (PySem.dunder op.info.2) = some fo) (er : PySem.W.findIn X.K (.type "int") (PySem.dunderR op.info.2) = some ro)
    (hd : ∀ {A : Around} {s : Shared} {E' : Value → Shared → Prop} (b : Int) (t : Tok) (l dx : Addr) (Q' : Value → Shared → Prop), s.heap.get? l = some (PySem.W.instObj C dx) → Q' .notImplemented s → wpAny (model X.prog X.w) A (call (.builtin id) [.int b t, .ref l]) Q' E' s)
    (h : HasM X.prog X.w X.K X.mg X.base C (PySem.dunder op.info.2) k ps sp) (h' : HasM X.prog X.w X.K X.mg X.base C (PySem.dunderR op.info.2) k' ps' spr) (hr : Room j X.A) (hx : Passes (L2.CX X.prog X.w) X E) (hj : k ≤ j := by decide) (hj' : k' ≤ j := by decide) :
    OpR X (binaryOp op) (rOwnB C sp spr E) := by
  obtain ⟨f, fd, Fo, hm, hb⟩ := h
  obtain ⟨f', fd', Fo', hm', hb'⟩ := h'
  intro pins s σ H x y v u Q I rx ry hh
  obtain ⟨m, hF⟩ := I.fr
  rcases hh with ⟨a, dx, fs, rfl, ha, hy, q⟩ | ⟨i, a, dx, fs, rfl, rfl, ha, q⟩
  · cases (show v = Value.ref a from rx)
    obtain ⟨mA, O, _⟩ := ins_get I.hok ha
    obtain ⟨od, J, _⟩ := O.look
    have cl : wpAny (model X.prog X.w) X.A (call (.ref f) [.ref a, u]) (PySem.W.CmpBack (EP X pins σ Q)) X.xe s := by
      refine wpAny_mono (run_fn Fo (hr.mono hj) hb .nil hx I (.cons rx (.cons ry .nil)) q) (fun w s' z => ?_) fun _ _ x => x
      obtain ⟨z', H', I', rz, qz⟩ := z
      exact SlX.cmpback rz ⟨z', H', I', rz, qz⟩
    rcases hy with ⟨i, rfl⟩ | ⟨a', dx', fs', rfl, ha'⟩
    · obtain ⟨t, rfl⟩ := (show ∃ t, u = Value.int i t from ry)
      exact PySem.W.ksp_binT hF I.ok.mod.kin J rfl T.sf hm.at_ hm.fn hm'.at_ (.inr ⟨_, rfl⟩) ef er rfl cl
    · cases (show u = Value.ref a' from ry)
      obtain ⟨mA', O', _⟩ := ins_get I.hok ha'
      obtain ⟨od', J', _⟩ := O'.look
      exact PySem.W.binop_K hF I.ok.mod.kin J J'.type T.sf hm.at_ hm.fn cl
  · obtain ⟨t, rfl⟩ := (show ∃ t, v = Value.int i t from rx)
    cases (show u = Value.ref a from ry)
    obtain ⟨mA, O, _⟩ := ins_get I.hok ha
    obtain ⟨od, J, _⟩ := O.look
    refine bin_refl I.kIn J T.sf T.si hm.at_ hm'.at_ hm'.fn fi sl (fun Q' hq => hd i t a dx Q' O.obj hq) ?_
    refine wpAny_mono (run_fn Fo' (hr.mono hj') hb' .nil hx I (.cons ry (.cons rx .nil)) q) (fun w s' z => ?_) fun _ _ x => x
    obtain ⟨z', H', I', rz, qz⟩ := z
    exact SlX.cmpback rz ⟨z', H', I', rz, qz⟩
theorem op_addB (T : OwnB X.K C) (h : HasM X.prog X.w X.K X.mg X.base C "__add__" k ps sp) (h' : HasM X.prog X.w X.K X.mg X.base C "__radd__" k' ps' spr) (hr : Room j X.A) (hx : Passes (L2.CX X.prog X.w) X E) (hj : k ≤ j := by decide) (hj' : k' ≤ j := by decide) :
    OpR X (binaryOp .Add) (rOwnB C sp spr E) :=
  op_ownB (op := .Add) T F.fills_int_add F.slot_int_add rfl rfl (fun b t l dx Q' hl hq => call_meets F.slot_int_add (typeIs_int _ b t) F.entry_int_add (F.args_int_add_2 _ _) (int_add_declines b t l C dx) ⟨hl, hq⟩) h h' hr hx hj hj'
theorem op_subB (T : OwnB X.K C) (h : HasM X.prog X.w X.K X.mg X.base C "__sub__" k ps sp) (h' : HasM X.prog X.w X.K X.mg X.base C "__rsub__" k' ps' spr) (hr : Room j X.A) (hx : Passes (L2.CX X.prog X.w) X E) (hj : k ≤ j := by decide) (hj' : k' ≤ j := by decide) :
    OpR X (binaryOp .Sub) (rOwnB C sp spr E) :=
  op_ownB (op := .Sub) T F.fills_int_sub F.slot_int_sub rfl rfl (fun b t l dx Q' hl hq => call_meets F.slot_int_sub (typeIs_int _ b t) F.entry_int_sub (by first | exact F.args_int_sub_2 _ _ | (unfold argsOk; kernel_rfl)) (int_sub_declines b t l C dx) ⟨hl, hq⟩) h h' hr hx hj hj'
theorem op_mulB (T : OwnB X.K C) (h : HasM X.prog X.w X.K X.mg X.base C "__mul__" k ps sp) (h' : HasM X.prog X.w X.K X.mg X.base C "__rmul__" k' ps' spr) (hr : Room j X.A) (hx : Passes (L2.CX X.prog X.w) X E) (hj : k ≤ j := by decide) (hj' : k' ≤ j := by decide) :
    OpR X (binaryOp .Mult) (rOwnB C sp spr E) :=
  op_ownB (op := .Mult) T F.fills_int_mul F.slot_int_mul rfl rfl (fun b t l dx Q' hl hq => call_meets F.slot_int_mul (typeIs_int _ b t) F.entry_int_mul (F.args_int_mul_2 _ _) (int_mul_declines b t l C dx) ⟨hl, hq⟩) h h' hr hx hj hj'
/-- x op y, where x is an instance of C and y is one or an int -/
def rOwnL (C : Addr) (sp : Sp) (E : XK) : R2 := fun x y H Q =>
  ∃ a dx fs, x = .ref a ∧ H a = some (.ins C dx fs) ∧ ((∃ i, y = .int i) ∨ ∃ a' dx' fs', y = .ref a' ∧ H a' = some (.ins C dx' fs')) ∧ sp [x, y] H Q E
theorem op_ownL {op : Operator} {fo ro : Option Value} (T : OwnB X.K C) (hrc : ∃ g, PySem.W.findIn X.K (.ref C) (PySem.dunderR op.info.2) = some (some (.ref g)))
    (ef : PySem.W.findIn X.K (.type "int") (PySem.dunder op.info.2) = some fo) (er : PySem.W.findIn X.K (.type "int") (PySem.dunderR op.info.2) = some ro)
    (h : HasM X.prog X.w X.K X.mg X.base C (PySem.dunder op.info.2) k ps sp) (hr : Room j X.A) (hx : Passes (L2.CX X.prog X.w) X E) (hj : k ≤ j := by decide) :
    OpR X (binaryOp op) (rOwnL C sp E) := by
  obtain ⟨f, fd, Fo, hm, hb⟩ := h
  obtain ⟨g, hg⟩ := hrc
  intro pins s σ H x y v u Q I rx ry hh
  obtain ⟨m, hF⟩ := I.fr
  obtain ⟨a, dx, fs, rfl, ha, hy, q⟩ := hh
  cases (show v = Value.ref a from rx)
  obtain ⟨mA, O, _⟩ := ins_get I.hok ha
  obtain ⟨od, J, _⟩ := O.look
  have cl : wpAny (model X.prog X.w) X.A (call (.ref f) [.ref a, u]) (PySem.W.CmpBack (EP X pins σ Q)) X.xe s := by
    refine wpAny_mono (run_fn Fo (hr.mono hj) hb .nil hx I (.cons rx (.cons ry .nil)) q) (fun w s' z => ?_) fun _ _ x => x
    obtain ⟨z', H', I', rz, qz⟩ := z
    exact SlX.cmpback rz ⟨z', H', I', rz, qz⟩
  rcases hy with ⟨i, rfl⟩ | ⟨a', dx', fs', rfl, ha'⟩
  · obtain ⟨t, rfl⟩ := (show ∃ t, u = Value.int i t from ry)
    exact PySem.W.ksp_binT hF I.ok.mod.kin J rfl T.sf hm.at_ hm.fn hg (.inr ⟨_, rfl⟩) ef er rfl cl
  · cases (show u = Value.ref a' from ry)
    obtain ⟨mA', O', _⟩ := ins_get I.hok ha'
    obtain ⟨od', J', _⟩ := O'.look
    exact PySem.W.binop_K hF I.ok.mod.kin J J'.type T.sf hm.at_ hm.fn cl
theorem op_addL (T : OwnB X.K C) (hrc : ∃ g, PySem.W.findIn X.K (.ref C) "__radd__" = some (some (.ref g))) (h : HasM X.prog X.w X.K X.mg X.base C "__add__" k ps sp) (hr : Room j X.A) (hx : Passes (L2.CX X.prog X.w) X E) (hj : k ≤ j := by decide) :
    OpR X (binaryOp .Add) (rOwnL C sp E) := op_ownL (op := .Add) T hrc rfl rfl h hr hx hj
theorem op_subL (T : OwnB X.K C) (hrc : ∃ g, PySem.W.findIn X.K (.ref C) "__rsub__" = some (some (.ref g))) (h : HasM X.prog X.w X.K X.mg X.base C "__sub__" k ps sp) (hr : Room j X.A) (hx : Passes (L2.CX X.prog X.w) X E) (hj : k ≤ j := by decide) :
    OpR X (binaryOp .Sub) (rOwnL C sp E) := op_ownL (op := .Sub) T hrc rfl rfl h hr hx hj
theorem op_mulL (T : OwnB X.K C) (hrc : ∃ g, PySem.W.findIn X.K (.ref C) "__rmul__" = some (some (.ref g))) (h : HasM X.prog X.w X.K X.mg X.base C "__mul__" k ps sp) (hr : Room j X.A) (hx : Passes (L2.CX X.prog X.w) X E) (hj : k ≤ j := by decide) :
    OpR X (binaryOp .Mult) (rOwnL C sp E) := op_ownL (op := .Mult) T hrc rfl rfl h hr hx hj
end
theorem w_ifx {t : TT} {ta tb : TE} {σ : L2.St} {H : Hp} {Q : VK} (q : t σ H fun c H1 => if c = true then ta σ H1 Q else tb σ H1 Q) : tIf t ta tb σ H Q := q
theorem w_truB {K : PySem.W.Frag} {b : Bool} {H : Hp} {Q : Bool → Hp → Prop} (q : Q b H) : ∃ k, TruV K (.bl b) H k ∧ Q k H := ⟨b, rfl, q⟩
theorem w_truI {K : PySem.W.Frag} {i : Int} {H : Hp} {Q : Bool → Hp → Prop} (q : Q (i != 0) H) : ∃ k, TruV K (.int i) H k ∧ Q k H := ⟨_, rfl, q⟩
/-! ### numbers that are not too great -/
def Bw (n : Nat) (x : Int) : Prop := x.natAbs < 2 ^ n
theorem Bw.mul {m n : Nat} {x y : Int} (hx : Bw m x) (hy : Bw n y) : Bw (m + n) (x * y) := by
  unfold Bw at *
  rw [Int.natAbs_mul, Nat.pow_add]
  exact Nat.mul_lt_mul'' hx hy
theorem Bw.mono {m n : Nat} {x : Int} (hx : Bw m x) (h : m ≤ n) : Bw n x := Nat.lt_of_lt_of_le hx (Nat.pow_le_pow_right (by decide) h)
theorem Bw.add {m n : Nat} {x y : Int} (hx : Bw m x) (hy : Bw n y) : Bw (max m n + 1) (x + y) := by
  have h1 := hx.mono (Nat.le_max_left m n)
  have h2 := hy.mono (Nat.le_max_right m n)
  unfold Bw at *
  rw [Nat.pow_succ]
  have := Int.natAbs_add_le x y
  omega
theorem Bw.neg {m : Nat} {x : Int} (hx : Bw m x) : Bw m (-x) := by unfold Bw at *; rw [Int.natAbs_neg]; exact hx
theorem Bw.sub {m n : Nat} {x y : Int} (hx : Bw m x) (hy : Bw n y) : Bw (max m n + 1) (x - y) := by rw [Int.sub_eq_add_neg]; exact hx.add hy.neg
theorem Bw.two : Bw 2 2 := by unfold Bw; decide
theorem Bw.zero : Bw 1 0 := by unfold Bw; decide
theorem Bw.one : Bw 1 1 := by unfold Bw; decide
theorem Bw.bd {n : Nat} {x : Int} (h : Bw n x) (hn : Nat.ble n 8000 = true) : Bd x := Nat.lt_of_lt_of_le h (Nat.pow_le_pow_right (by decide) (Nat.le_of_ble_eq_true hn))
theorem bwm {m n : Nat} {x y : Int} (hx : Bw m x) (hy : Bw n y) (h : (Nat.ble m 8000 && Nat.ble n 8000) = true) : CMulS x y := by
  simp only [Bool.and_eq_true] at h
  have hx := hx.bd h.1
  have hy := hy.bd h.2
  exact .inr (.inr (wide_mul hx hy (by decide) (by decide) (by decide)))
theorem bw_of {x : Int} {n k : Nat} (h : x.natAbs ≤ n) (hn : Nat.blt n (2 ^ k) = true) : Bw k x := Nat.lt_of_le_of_lt h (by simpa using hn)
end L2.My

/-! W7: math.isqrt of great numbers. -/
namespace L2.My
open PySem PySem.Spec PyProof.Rows
section
variable {X : Cx}
/-- the whole of the square root -/
def sqr (a : Int) : Int := ((Float64.isqrt a.toNat : Nat) : Int)
theorem sqr_spec {a : Int} (h : 0 ≤ a) : 0 ≤ sqr a ∧ sqr a * sqr a ≤ a ∧ a < (sqr a + 1) * (sqr a + 1) := by
  obtain ⟨h1, h2⟩ := Float64.isqrt_spec a.toNat
  have e : ((a.toNat : Nat) : Int) = a := by omega
  unfold sqr
  refine ⟨by omega, ?_, ?_⟩
  · have := Int.ofNat_le.mpr h1
    rw [Int.natCast_mul, e] at this
    exact this
  · have := Int.ofNat_lt.mpr h2
    rw [Int.natCast_mul, e] at this
    exact this
def rSq : List V → Hp → VK → Prop := fun vs H Q => ∃ a : Int, vs = [.int a] ∧ 0 ≤ a ∧ Bw 8000 a ∧ Q (.int (sqr a)) H
theorem cr_isqrt : CallR X (.builtin "math.isqrt") rSq := by
  intro pins s σ H vs us Q I r h
  obtain ⟨a, rfl, h0, hb, q⟩ := h
  cases r with
  | cons ra r =>
    cases r
    obtain ⟨t, rfl⟩ := ra
    have hl : a.toNat.log2 < 8000 := PySem.Flt.log2_lt_of (by decide) (by unfold Bw at hb; omega)
    have g := PySem.W.mg_run_isqrt a t (by omega) (by omega) (by omega)
    exact call_function_meets PySem.W.MGF.kind_isqrt PySem.W.MGF.plain_isqrt PySem.W.MGF.entry_isqrt (PySem.W.MGF.args_isqrt _) g.meets ⟨.int _, H, I.tok _, ⟨_, rfl⟩, q⟩
end
end L2.My

/-! W8: for a, b in zip(l, m). -/
namespace L2.My
open PySem PySem.Spec PyProof.Rows
section
variable {K : PySem.W.Frag} {σ : St} {H : Hp} {g : TG} {tb : TS} {D : Ends} {a b : Addr} {xs ys : List V} {ta : TA}
theorem for_zip (Pv : Nat → St → Hp → Prop) (h0 : Pv 0 σ H) (hl : ∀ i σ H, i ≤ xs.length → Pv i σ H → SqL K H a xs ∧ SqL K H b ys) (e : xs.length = ys.length)
    (hs : ∀ i x y σ H T H', xs[i]? = some x → ys[i]? = some y → Pv i σ H → H T = none → Same H H' → H' T = some (.tup [x, y]) → g (.ref T) σ H' fun σ2 H2 => tb ⟨Pv (i + 1), D.rt, D.nx, Pv (i + 1)⟩ σ2 H2) (hd : ∀ σ H, Pv xs.length σ H → D.nx σ H) :
    ∃ W : Nat → Nat → St → Hp → Prop, (∃ m, W 0 m σ H) ∧ ∀ i m σ H, W i m σ H → (Itz K a b).stop i H ∧ D.nx σ H ∨ (Itz K a b).go i H ∧ ∃ N, (∀ σ' H', N σ' H' → ∃ m', m' < m ∧ W (i + 1) m' σ' H') ∧
      ∀ x H', (Itz K a b).yld i H x H' → g x σ H' fun σ2 H2 => tb ⟨N, D.rt, D.nx, N⟩ σ2 H2 := by
  refine ⟨fun i m σ H => Pv i σ H ∧ m + i = xs.length, ⟨xs.length, h0, rfl⟩, fun i m σ H ⟨q, em⟩ => ?_⟩
  obtain ⟨l1, l2⟩ := hl i σ H (by omega) q
  rcases Nat.lt_or_ge i xs.length with h | h
  · right
    have ex : xs[i]? = some xs[i] := List.getElem?_eq_getElem h
    have ey : ys[i]? = some (ys[i]'(by omega)) := List.getElem?_eq_getElem (by omega)
    refine ⟨⟨xs, ys, _, _, l1, l2, ex, ey⟩, Pv (i + 1), fun σ' H' q' => ⟨m - 1, by omega, q', by omega⟩, ?_⟩
    rintro x H' ⟨T, x', y', rfl, hT, rfl, h1, h2⟩
    exact hs i x' y' σ H T _ (h1 xs l1) (h2 ys l2) q hT (Same.new hT) upd_same
  · left
    have : i = xs.length := by omega
    subst this
    exact ⟨⟨xs, ys, l1, l2, .inl (Nat.le_refl _)⟩, hd σ H q⟩
def ForZ (K : PySem.W.Frag) (g : TG) (tb : TS) (D : Ends) (σ : St) (vs : List V) (H : Hp) : Prop := tFor (iZip K fun _ H Q => Q vs H) g tb D σ H
theorem w_forZ (q : ta σ H fun vs H1 => ForZ K g tb D σ vs H1) : tFor (iZip K ta) g tb D σ H := q
theorem k_forZ {nx bk ct : L2.St → Hp → Prop} {rt : VK} (Pv : Nat → St → Hp → Prop) (hx : SqL K H a xs) (hy : SqL K H b ys) (e : xs.length = ys.length) (h0 : Pv 0 σ H) (hl : ∀ i σ H, Pv i σ H → SqL K H a xs ∧ SqL K H b ys)
    (hs : ∀ i x y σ H T H', xs[i]? = some x → ys[i]? = some y → Pv i σ H → H T = none → Same H H' → H' T = some (.tup [x, y]) → g (.ref T) σ H' fun σ2 H2 => tb ⟨Pv (i + 1), rt, nx, Pv (i + 1)⟩ σ2 H2) (hd : ∀ σ H, Pv xs.length σ H → nx σ H) :
    ForZ K g tb ⟨nx, rt, bk, ct⟩ σ [.ref a, .ref b] H :=
  ⟨a, b, xs, ys, rfl, hx, hy, for_zip (D := ⟨nx, rt, bk, ct⟩) Pv h0 (fun i σ H _ q => hl i σ H q) e hs hd⟩
theorem ix_seqZ {X : Cx} {K : PySem.W.Frag} (h : X.K = K) : IxR X (rIx K) := h ▸ ix_seq
end
end L2.My

/-! W9: plain things, tuples of ints, data of any depth, all(), slices and sums of tuples. -/
namespace L2.My
open PySem PySem.Spec PyProof.Rows
/-- a thing that is no instance -/
inductive Plain (H : Hp) : V → Prop
  | non : Plain H .non
  | bl (b : Bool) : Plain H (.bl b)
  | int (i : Int) : Plain H (.int i)
  | str (s : Str) : Plain H (.str s)
  | lst (a : Addr) (xs : List V) (e : H a = some (.lst xs)) : Plain H (.ref a)
  | tup (a : Addr) (xs : List V) (e : H a = some (.tup xs)) : Plain H (.ref a)
  | dK (a : Addr) (kvs : List (L2.Key × V)) (e : H a = some (.dK kvs)) : Plain H (.ref a)
theorem Plain.same {H H' : Hp} {v : V} (h : Plain H v) (s : Same H H') : Plain H' v := by
  cases h with
  | non => exact .non
  | bl b => exact .bl b
  | int i => exact .int i
  | str s => exact .str s
  | lst a xs e => exact .lst a xs (s _ _ e)
  | tup a xs e => exact .tup a xs (s _ _ e)
  | dK a xs e => exact .dK a xs (s _ _ e)
theorem Plain.th {c : Addr} {H : Hp} {v : V} (h : Plain H v) : Th c H v := by
  cases h with
  | non => exact .non
  | bl b => exact .bl b
  | int i => exact .int i
  | str s => exact .str s
  | lst a xs e => exact .lst a xs e
  | tup a xs e => exact .tup a xs e
  | dK a xs e => exact .dK a xs e
def isTu (H : Hp) : V → Bool
  | .ref a => match H a with
    | some (.tup _) => true
    | _ => false
  | _ => false
theorem isTu_tup {H : Hp} {a : Addr} {xs : List V} (e : H a = some (.tup xs)) : isTu H (.ref a) = true := by
  show (match H a with | some (.tup _) => true | _ => false) = true
  rw [e]
theorem isTu_lst {H : Hp} {a : Addr} {xs : List V} (e : H a = some (.lst xs)) : isTu H (.ref a) = false := by
  show (match H a with | some (.tup _) => true | _ => false) = false
  rw [e]
theorem isTu_dK {H : Hp} {a : Addr} {xs : List (L2.Key × V)} (e : H a = some (.dK xs)) : isTu H (.ref a) = false := by
  show (match H a with | some (.tup _) => true | _ => false) = false
  rw [e]
theorem Plain.ty {K : PySem.W.Frag} {H : Hp} {v : V} (h : Plain H v) : ∃ t, TyX K H v t ∧ PySem.W.kitOne K t (.type "int") = some (isI v || isB v) ∧ PySem.W.kitOne K t (.type "bool") = some (isB v) ∧ PySem.W.kitOne K t (.type "tuple") = some (isTu H v) := by
  have kb : ∀ (a b : String) (r : Bool), kitB a b = some r → PySem.W.kitOne K (.type a) (.type b) = some r := fun _ _ _ h => kit_ty h
  cases h with
  | non => exact ⟨_, .base .non, kb "NoneType" "int" false (by decide +kernel), kb "NoneType" "bool" false (by decide +kernel), kb "NoneType" "tuple" false (by decide +kernel)⟩
  | bl b => exact ⟨_, .base (.bl b), kb "bool" "int" true (by decide +kernel), kb "bool" "bool" true (by decide +kernel), kb "bool" "tuple" false (by decide +kernel)⟩
  | int i => exact ⟨_, .base (.int i), kb "int" "int" true (by decide +kernel), kb "int" "bool" false (by decide +kernel), kb "int" "tuple" false (by decide +kernel)⟩
  | str s => exact ⟨_, .base (.str s), kb "str" "int" false (by decide +kernel), kb "str" "bool" false (by decide +kernel), kb "str" "tuple" false (by decide +kernel)⟩
  | lst a xs e => exact ⟨_, .base (.lst e), kb "list" "int" false (by decide +kernel), kb "list" "bool" false (by decide +kernel), by rw [isTu_lst e]; exact kb "list" "tuple" false (by decide +kernel)⟩
  | tup a xs e => exact ⟨_, .base (.tup e), kb "tuple" "int" false (by decide +kernel), kb "tuple" "bool" false (by decide +kernel), by rw [isTu_tup e]; exact kb "tuple" "tuple" true (by decide +kernel)⟩
  | dK a xs e => exact ⟨_, .base (.dK e), kb "dict" "int" false (by decide +kernel), kb "dict" "bool" false (by decide +kernel), by rw [isTu_dK e]; exact kb "dict" "tuple" false (by decide +kernel)⟩
section
variable {K : PySem.W.Frag} {σ : L2.St} {H : Hp} {Q : VK} {a b : Addr} {xs ys : List V} {te : TE} {ws : List Nat} {g : TG} {tt : TT} {v : V}
/-- a raised class that a clause's class is no base of -/
theorem exm_no {K : PySem.W.Frag} {S D : Addr} (h1 : PySem.W.mroIn K D (.type "BaseException") = some true) (h2 : PySem.W.isClsIn K D = true) (h3 : PySem.W.typeIn K (.ref D) = some (.type "type")) (h4 : PySem.W.mroIn K S (.ref D) = some false) :
    PySem.W.exmOne K (.ref S) (.ref D) = some false := by
  have e1 : (PySem.W.subIn K (.ref D) (.type "BaseException") == some true) = true := by
    have : PySem.W.subIn K (.ref D) (.type "BaseException") = some true := h1
    rw [this] <;> rfl
  show (if (PySem.W.subIn K (.ref D) (.type "BaseException") == some true) = true then PySem.W.kitCls K (.ref S) (.ref D) else none) = some false
  rw [if_pos e1, kit_eq h2 h3]
  exact h4
theorem w_all {bs : List Bool} (h : SqL K H a (bs.map V.bl)) (q : Q (.bl (bs.all id)) H) : rAll K [.ref a] H Q := ⟨a, bs, rfl, h, q⟩
/-- a slice of a tuple that is not the whole -/
theorem k_slT {lo hi : Option Int} (h : H a = some (.tup xs)) (n : ¬ (HT.sIx xs.length 0 lo = 0 ∧ HT.sIx xs.length xs.length hi = xs.length)) (q : ∀ p H2, H p = none → Same H H2 → H2 p = some (.tup (cutV xs lo hi)) → Q (.ref p) H2) : SlP (rSlA K) (.ref a) lo hi H Q :=
  ⟨a, xs, rfl, SqT.of h, fun z => absurd z n, fun _ p hp => q p _ hp (Same.new hp) upd_same⟩
/-- t + u, both not empty -/
theorem w_catT (h1 : H a = some (.tup xs)) (h2 : H b = some (.tup ys)) (n1 : xs ≠ []) (n2 : ys ≠ []) (hl : Nat.ble (xs.length + ys.length) 1000 = true) (q : ∀ p H2, H p = none → Same H H2 → H2 p = some (.tup (xs ++ ys)) → Q (.ref p) H2) : rCatA K (.ref a) (.ref b) H Q :=
  ⟨a, b, xs, ys, rfl, rfl, SqT.of h1, SqT.of h2, sz1000 (Nat.le_of_ble_eq_true hl), fun z => absurd z n1, fun _ z => absurd z n2, fun _ _ p hp => q p _ hp (Same.new hp) upd_same⟩
/-- t + u, any -/
theorem w_catA (h1 : H a = some (.tup xs)) (h2 : H b = some (.tup ys)) (hl : Nat.ble (xs.length + ys.length) 1000 = true) (q : ∀ p H2, Same H H2 → H2 p = some (.tup (xs ++ ys)) → Q (.ref p) H2) : rCatA K (.ref a) (.ref b) H Q :=
  ⟨a, b, xs, ys, rfl, rfl, SqT.of h1, SqT.of h2, sz1000 (Nat.le_of_ble_eq_true hl), fun z => q b H (Same.refl _) (by rw [h2, z, List.nil_append]), fun _ z => q a H (Same.refl _) (by rw [h1, z, List.append_nil]), fun _ _ p hp => q p _ (Same.new hp) upd_same⟩
theorem k_slA {lo hi : Option Int} (h : H a = some (.tup xs)) (q : ∀ p H2, Same H H2 → H2 p = some (.tup (cutV xs lo hi)) → Q (.ref p) H2) : SlP (rSlA K) (.ref a) lo hi H Q :=
  ⟨a, xs, rfl, SqT.of h, fun z => q a H (Same.refl _) (by
    have : cutV xs lo hi = xs := by
      unfold cutV
      rw [z.1, z.2, List.drop_zero, Nat.sub_zero, List.take_length]
    rw [h, this]), fun _ p hp => q p _ (Same.new hp) upd_same⟩
/-- [..] * k -/
theorem w_rep {k : Int} (h : H a = some (.lst xs)) (k0 : -(2 ^ 63) ≤ k) (k1 : k < 2 ^ 63) (hl : Nat.ble (xs.length * k.toNat) 1000 = true) (q : ∀ p H2, H p = none → Same H H2 → H2 p = some (.lst (List.replicate k.toNat xs).flatten) → Q (.ref p) H2) : rRep (.ref a) (.int k) H Q :=
  ⟨a, k, xs, rfl, rfl, h, k0, k1, sz1000 (Nat.le_of_ble_eq_true hl), fun p hp => q p _ hp (Same.new hp) upd_same⟩
/-- tuple(list) -/
def rTupOf (K : PySem.W.Frag) : List V → Hp → VK → Prop := fun xs H Q => ∃ p ys, xs = [.ref p] ∧ ((SqL K H p ys ∧ ∀ l, H l = none → Q (.ref l) (upd H l (.tup ys))) ∨ (SqT K H p ys ∧ Q (.ref p) H))
theorem cn_tuple {X : Cx} : CallR X (.type "tuple") (rTupOf X.K) := call_tuple_of
theorem w_tupL (h : H a = some (.lst xs)) (q : ∀ p H2, H p = none → Same H H2 → H2 p = some (.tup xs) → Q (.ref p) H2) : rTupOf K [.ref a] H Q := ⟨a, xs, rfl, .inl ⟨SqL.of h, fun l hl => q l _ hl (Same.new hl) upd_same⟩⟩
/-- xs.append(y) -/
theorem w_append {l : Addr} {y : V} (h : H l = some (.lst xs)) (hl : xs.length < 1000) (q : ∀ H2, SameX l H H2 → H2 l = some (.lst (xs ++ [y])) → Q .non H2) : rAppend (.ref l) [y] H Q :=
  ⟨l, xs, y, rfl, rfl, h, Nat.lt_of_lt_of_le hl (by decide), q _ (SameX.upd fun _ _ _ e => e) upd_same⟩
/-- a, b, c, d = t -/
theorem k_tup4 {T : Addr} {x y z u : V} {σ' : L2.St} {i j k l : Nat} {N : L2.St → Hp → Prop} {n : Nat} (hT : H T = some (.tup [x, y, z, u])) (hn : n = 4) (hσ : (((σ.set i (some x)).set j (some y)).set k (some z)).set l (some u) = σ') (q : N σ' H) :
    gTup K n (gCons (gName i) (gCons (gName j) (gCons (gName k) (gCons (gName l) gNil)))) (.ref T) σ H N := by
  subst hσ
  exact ⟨T, [x, y, z, u], rfl, SqT.of hT, by rw [hn]; rfl, x, [y, z, u], rfl, y, [z, u], rfl, z, [u], rfl, u, [], rfl, rfl, q⟩
theorem k_tupl2 {T : Addr} {x y : V} {σ' : L2.St} {i j : Nat} {N : L2.St → Hp → Prop} {n : Nat} (hT : H T = some (.tup [x, y])) (hn : n = 2) (hσ : (σ.set i (some x)).set j (some y) = σ') (q : N σ' H) : gTup K n (gCons (gName i) (gCons (gName j) gNil)) (.ref T) σ H N := by
  subst hσ
  exact ⟨T, [x, y], rfl, SqT.of hT, by rw [hn]; rfl, x, [y], rfl, y, [], rfl, rfl, q⟩
/-- a comprehension over a tuple whose turns tell flags and change nothing -/
theorem k_lcFlags {f : V → Bool} {slot : Nat} (h : H a = some (.tup xs)) (hl : xs.length ≤ 500) (hw : ∀ x, wipe ((wipe σ ws).set slot (some x)) ws = wipe σ ws)
    (turn : ∀ x H', x ∈ xs → Same H H' → ∀ N : VK, N (.bl (f x)) H' → te ((wipe σ ws).set slot (some x)) H' N)
    (hd : ∀ D H', H D = none → Same H H' → H' D = some (.lst ((xs.map f).map V.bl)) → Q (.ref D) H') : CompT K (gName slot) tYes te ws σ (.ref a) H Q := by
  refine ⟨a, rfl, ⟨_, SqT.of h⟩, fun D hD => lc_tup (xs := xs) (fun i H' => Same H H' ∧ H' D = some (.lst (((xs.take i).map f).map V.bl))) ⟨Same.new hD, upd_same⟩ (fun i H' _ e => SqT.of (e.1 _ _ h)) (fun i x H' hx e => ?_) (fun H' e => ?_)⟩
  · have hi : i < xs.length := (List.getElem?_eq_some_iff.mp hx).1
    obtain rfl : xs[i] = x := by rw [List.getElem?_eq_getElem hi] at hx; exact Option.some.inj hx
    refine ⟨hw _, ?_⟩
    refine w_yes (w_T rfl ?_)
    refine turn _ H' (List.getElem_mem hi) e.1 _ ?_
    refine ⟨_, e.2, by rw [List.length_map, List.length_map, List.length_take]; exact sz_lt (by omega), fun b o eb => ?_, ?_⟩
    · rw [upd_ne (ne_of_none eb hD)]
      exact e.1 b o eb
    · have e2 : xs.take (i + 1) = xs.take i ++ [xs[i]] := by rw [List.take_add_one, List.getElem?_eq_getElem hi]; rfl
      rw [upd_same, e2, List.map_append, List.map_append]
      rfl
  · have e2 := e.2
    rw [List.take_length] at e2
    exact hd D H' hD e.1 e2
theorem w_lcTT {tl : TE} (q : tl σ H fun x H1 => CompT K g tt te ws σ x H1 Q) : tLc (iTup K tl) g tt te ws σ H Q := q
/-- a thing of data, not deep -/
structure Data (K : PySem.W.Frag) (H : Hp) (v : V) (d : PyData) : Prop where
  dp : Dp K H v d
  lay : d.canLay0 = true
  dep : d.depth ≤ 10
theorem sqL_same {H H' : Hp} {a : Addr} {xs : List V} (h : H a = some (.lst xs)) (s : Same H H') : SqL K H' a xs := SqL.of (s _ _ h)
theorem eq_same {d : PyData} (h : d.canLay0 = true) : PyData.eqv d d = true := SeqAt.eqv_refl d h
end
/-! ### zip of two tuples -/
section
variable {K : PySem.W.Frag} {σ : St} {H : Hp} {g : TG} {tb : TS} {D : Ends} {a b : Addr} {xs ys : List V} {ta : TA}
def ForZT (K : PySem.W.Frag) (g : TG) (tb : TS) (D : Ends) (σ : St) (vs : List V) (H : Hp) : Prop := tFor (RZ.iZipA K fun _ H Q => Q vs H) g tb D σ H
theorem w_forZT (q : ta σ H fun vs H1 => ForZT K g tb D σ vs H1) : tFor (RZ.iZipA K ta) g tb D σ H := q
theorem for_zipT (Pv : Nat → St → Hp → Prop) (h0 : Pv 0 σ H) (hl : ∀ i σ H, i ≤ xs.length → Pv i σ H → SqT K H a xs ∧ SqT K H b ys) (e : xs.length = ys.length)
    (hs : ∀ i x y σ H T H', xs[i]? = some x → ys[i]? = some y → Pv i σ H → H T = none → Same H H' → H' T = some (.tup [x, y]) → g (.ref T) σ H' fun σ2 H2 => tb ⟨Pv (i + 1), D.rt, D.nx, Pv (i + 1)⟩ σ2 H2) (hd : ∀ σ H, Pv xs.length σ H → D.nx σ H) :
    ∃ W : Nat → Nat → St → Hp → Prop, (∃ m, W 0 m σ H) ∧ ∀ i m σ H, W i m σ H → (RZ.ItzT K a b).stop i H ∧ D.nx σ H ∨ (RZ.ItzT K a b).go i H ∧ ∃ N, (∀ σ' H', N σ' H' → ∃ m', m' < m ∧ W (i + 1) m' σ' H') ∧
      ∀ x H', (RZ.ItzT K a b).yld i H x H' → g x σ H' fun σ2 H2 => tb ⟨N, D.rt, D.nx, N⟩ σ2 H2 := by
  refine ⟨fun i m σ H => Pv i σ H ∧ m + i = xs.length, ⟨xs.length, h0, rfl⟩, fun i m σ H ⟨q, em⟩ => ?_⟩
  obtain ⟨l1, l2⟩ := hl i σ H (by omega) q
  rcases Nat.lt_or_ge i xs.length with h | h
  · right
    have ex : xs[i]? = some xs[i] := List.getElem?_eq_getElem h
    have ey : ys[i]? = some (ys[i]'(by omega)) := List.getElem?_eq_getElem (by omega)
    refine ⟨⟨xs, ys, _, _, l1, l2, ex, ey⟩, Pv (i + 1), fun σ' H' q' => ⟨m - 1, by omega, q', by omega⟩, ?_⟩
    rintro x H' ⟨T, x', y', rfl, hT, rfl, h1, h2⟩
    exact hs i x' y' σ H T _ (h1 xs l1) (h2 ys l2) q hT (Same.new hT) upd_same
  · left
    have : i = xs.length := by omega
    subst this
    exact ⟨⟨xs, ys, l1, l2, .inl (Nat.le_refl _)⟩, hd σ H q⟩
theorem k_forZT {nx bk ct : L2.St → Hp → Prop} {rt : VK} (Pv : Nat → St → Hp → Prop) (hx : H a = some (.tup xs)) (hy : H b = some (.tup ys)) (e : xs.length = ys.length) (h0 : Pv 0 σ H) (hl : ∀ i σ H, Pv i σ H → SqT K H a xs ∧ SqT K H b ys)
    (hs : ∀ i x y σ H T H', xs[i]? = some x → ys[i]? = some y → Pv i σ H → H T = none → Same H H' → H' T = some (.tup [x, y]) → g (.ref T) σ H' fun σ2 H2 => tb ⟨Pv (i + 1), rt, nx, Pv (i + 1)⟩ σ2 H2) (hd : ∀ σ H, Pv xs.length σ H → nx σ H) :
    ForZT K g tb ⟨nx, rt, bk, ct⟩ σ [.ref a, .ref b] H :=
  ⟨a, b, xs, ys, rfl, .inr ⟨SqT.of hx, SqT.of hy, for_zipT (D := ⟨nx, rt, bk, ct⟩) Pv h0 (fun i σ H _ q => hl i σ H q) e hs hd⟩⟩
end
/-- what is no list stays -/
def Kps (H H' : Hp) : Prop := ∀ b o, (∀ xs, o ≠ .lst xs) → H b = some o → H' b = some o
theorem Kps.refl (H : Hp) : Kps H H := fun _ _ _ h => h
theorem Kps.trans {A B C : Hp} (h : Kps A B) (k : Kps B C) : Kps A C := fun b o n e => k b o n (h b o n e)
theorem Kps.same {A B : Hp} (h : Same A B) : Kps A B := fun b o _ e => h b o e
theorem Kps.sx {A B : Hp} {l : Addr} {ys : List V} (hl : A l = some (.lst ys)) (h : SameX l A B) : Kps A B := fun b o n e => h b o (ne_of e hl (n _)) e
theorem Kps.st {A B : Hp} {st sc : Addr} (hs : StA A st sc) (h : SameX st A B) : Kps A B := fun b o n e => h b o (hs.ne e n) e
theorem Kps.tup {A B : Hp} (h : Kps A B) {a : Addr} {xs : List V} (e : A a = some (.tup xs)) : B a = some (.tup xs) := h _ _ (by intro xs z; cases z) e
/-! ### xs.append(e), a <= b <= c -/
def LBm (K : PySem.W.Frag) (x : V) (H : Hp) (N : Prop) : Prop := tyV K "list" x H ∧ N
theorem w_bm {K : PySem.W.Frag} {r : V → List V → Hp → VK → Prop} {to : TE} {t : TA} {σ : L2.St} {H : Hp} {Q : VK} (q : to σ H fun x H1 => LBm K x H1 (t σ H1 fun xs H2 => r x xs H2 Q)) : tBM K "list" r to t σ H Q := q
theorem k_bm {K : PySem.W.Frag} {a : Addr} {xs : List V} {H : Hp} {N : Prop} (h : H a = some (.lst xs)) (q : N) : LBm K (.ref a) H N := ⟨.inl ⟨rfl, _, SqL.of h⟩, q⟩
theorem w_chain {r r' : R2} {ta tb tc : TE} {σ : L2.St} {H : Hp} {Q : VK} (q : ta σ H fun x H1 => tb σ H1 fun y H2 => r x y H2 fun z H3 => ∃ k, z = .bl k ∧ (if k = true then tc σ H3 fun w' H4 => r' y w' H4 Q else Q (.bl false) H3)) : tChain r r' ta tb tc σ H Q := q
/-- o.m(e, ..) where the fragment is told: a suite's context bears the caught error, its fragment is the same -/
theorem pe_bmZ {X : Cx} {K : PySem.W.Frag} {o e : Expr} {es : List Expr} {to : TE} {t : TA} {m : Str} {ap cp : Pos} {T id : String} {r : V → List V → Hp → VK → Prop} (hK : X.K = K)
    (pa : PlainAttrs T) (sl : Slot T m id) (ht : typeOf (.builtin id) = pure (.type "method_descriptor")) (hm : MtR X id r) (ho : PE X o to) (ha : PA X (e :: es) t)
    (h1 : attributeBase o m X.env (eval o X.env) = eval o X.env := by rfl)
    (h2 : ((backTo cp (starEach (e :: es) X.env)).all (fun x => !x.1) && (backToKw cp (keywordEach [] X.env)).all (fun x => x.1.isSome) && decide ((e :: es).length + ([] : List Keyword).length + (if ([] : List Keyword).isEmpty then 0 else 1) < 30)) = true := by rfl)
    (h3 : (ap.endLine == cp.line) = true := by rfl) (h4 : starEach (e :: es) X.env = (false, eval e X.env) :: starEach es X.env := by rfl) (h5 : (backTo cp (starEach es X.env)).any (·.1) = false := by rfl) :
    PE X (.Call (.Attribute o m ap) (e :: es) [] cp) (tBM K T r to t) := by
  subst hK
  exact pe_bm pa sl ht hm ho ha h1 h2 h3 h4 h5
end L2.My

/-! W10: xs[i] += e; == of two lists of the same things; try with several clauses 'except C as n'. -/
namespace L2.My
open PySem PySem.Spec PyProof.Rows
section
variable {X : Cx} {H : Hp} {Q : VK} {a b : Addr} {xs : List V}
/-- the read of xs[i] += e -/
def rGetL : R2 := fun o i H Q => ∃ p ys k v, o = .ref p ∧ i = .int k ∧ H p = some (.lst ys) ∧ 0 ≤ k ∧ atI ys k = some v ∧ Q v H
theorem get_list : PGet X rGetL := by
  intro pins s σ H o i ov iv Q I ro ri ⟨p, ys, k, v, eo, ei, hp, k0, hv, q⟩
  subst eo ei
  cases ro
  obtain ⟨tk, rfl⟩ := ri
  obtain ⟨its, rv, pl, sz⟩ := I.list (SqL.of hp)
  obtain ⟨j, j1, j2, j3, -, j5⟩ := atI_get hv
  obtain ⟨w, ew, rw'⟩ := rv.get j2
  have big := line63
  have ej : k.toNat = j := by
    have j1' := j1
    rw [seqIndex_of k0 j5] at j1'
    exact Option.some.inj j1'
  exact wpAny_getItem_list pl.isList k0 (by omega) (by rw [ej]; simpa using ew) ⟨v, H, I, rw', q⟩
theorem w_getL {k : Int} {v : V} (h : H a = some (.lst xs)) (k0 : 0 ≤ k) (e : atI xs k = some v) (q : Q v H) : rGetL (.ref a) (.int k) H Q := ⟨a, xs, k, v, rfl, rfl, h, k0, e, q⟩
theorem w_augS {to ti te : TE} {tget : V → V → Hp → VK → Prop} {tip : TIp} {tset : TSet} {σ : L2.St} {H : Hp} {nx bk ct : L2.St → Hp → Prop} {rt : VK}
    (q : to σ H fun o H1 => ti σ H1 fun i H2 => tget o i H2 fun x H3 => te σ H3 fun y H4 => tip x y H4 fun z H5 => tset o i z H5 fun H6 => nx σ H6) : tAugS to ti te tget tip tset ⟨nx, rt, bk, ct⟩ σ H := q
/-- both sides are lists of the same objects, one by one -/
def rEqIds : R2 := fun x y H Q => ∃ (l m : Addr) (as : List Addr), x = .ref l ∧ y = .ref m ∧ H l = some (.lst (as.map V.ref)) ∧ H m = some (.lst (as.map V.ref)) ∧ Q (.bl true) H
theorem refs_same {as : List Addr} : ∀ {us us' : List Value}, Vals (as.map V.ref) us → Vals (as.map V.ref) us' → us = us' := by
  induction as with
  | nil => intro us us' h h'; cases h; cases h'; rfl
  | cons p as ih =>
    intro us us' h h'
    cases h with
    | cons r t =>
      cases h' with
      | cons r' t' =>
        cases r
        cases r'
        rw [ih t t']
theorem op_eqIds (hu : X.A.units < cLine) : OpR X (compareOp .Eq) rEqIds := by
  intro pins s σ H x y v u Q I rx ry ⟨l, m, as, ex, ey, hl, hm, q⟩
  subst ex ey
  cases rx
  cases ry
  obtain ⟨its, rv, pl, -⟩ := I.list (SqL.of hl)
  obtain ⟨its', rv', pl', -⟩ := I.list (SqL.of hm)
  obtain rfl := refs_same rv rv'
  refine SeqAt.eq_listAt (e := fun _ => true) pl.isList pl'.isList rfl hu (fun j h1 h2 => SeqAt.EqAt.same _) ?_
  rw [show (List.range its.toArray.size).all (fun _ => true) = true from List.all_eq_true.mpr fun _ _ => rfl]
  exact ⟨.bl true, H, I, rfl, q⟩
theorem w_eqIds {as : List Addr} (h1 : H a = some (.lst (as.map V.ref))) (h2 : H b = some (.lst (as.map V.ref))) (q : Q (.bl true) H) : rEqIds (.ref a) (.ref b) H Q := ⟨a, b, as, rfl, rfl, h1, h2, q⟩
end
/-! ### several clauses 'except C as n' -/
/-- one clause: the class, the name's slot, the suite's reading -/
structure Clause where
  c : Value
  i : Nat
  ts : Addr → Value → Option Addr → TS
/-- the ends of a suite whose name goes behind it -/
def goneE (D : Ends) (i : Nat) : Ends := { nx := fun σ H => D.nx (σ.set i none) H, rt := D.rt, bk := fun σ H => D.bk (σ.set i none) H, ct := fun σ H => D.ct (σ.set i none) H }
def wClauses (K : PySem.W.Frag) (Wo : WX) (D : Ends) : List Clause → WX
  | [] => Wo
  | k :: r => fun cls d σ H => ∃ b, PySem.W.exmOne K cls k.c = some b ∧ (b = true → ∀ a, H a = none → k.ts a cls d (goneE D k.i) (σ.set k.i (some (.ref a))) H) ∧ (b = false → wClauses K Wo D r cls d σ H)
inductive ClausesOk (X : Cx) : List ExceptHandler → List Clause → Prop
  | nil : ClausesOk X [] []
  | cons {x n : Str} {c : Value} {i : Nat} {ts : Addr → Value → Option Addr → TS} {st : Stmt} {sts : List Stmt} {np hp : Pos} {hs : List ExceptHandler} {ks : List Clause} (nd : X.N.Nodup) (at_ : X.N[i]? = some n) (loc : X.env.kindOf n = some .local) (nm : Names X x c)
      (su : ∀ (a : Addr) (oe : Obj) (cls : Value) (d : Option Addr) (pn : List (Addr × Obj)), Zc cls d oe → (∃ vs, oe.data = .fields vs) → PSs (X.suite a ((a, oe) :: pn)) (st :: sts) (ts a cls d)) (more : ClausesOk X hs ks) :
      ClausesOk X (.ExceptHandler (some (.Name x np)) (some n) (st :: sts) hp :: hs) (⟨c, i, ts⟩ :: ks)
section
variable {X : Cx} {body : List Stmt} {h0 : ExceptHandler} {hs : List ExceptHandler} {ks : List Clause} {pos : Pos} {tb : WX → TS} {Wo : WX}
theorem ps_try_clauses (stk : X.stack = X.env :: X.outer) (frm : X.env.frame = some X.env.locals) (tk : Takes X Wo)
    (bd : ∀ (W : WX) (pn : List (Addr × Obj)) (xe : Value → Shared → Prop), Takes (X.tr pn xe) W → PassesOwn (model X.prog X.w) X.A X.env xe → PSs (X.tr pn xe) body (tb W)) (cl : ClausesOk X (h0 :: hs) ks) :
    PS X (.Try body (h0 :: hs) [] [] pos) (fun D σ H => tb (wClauses X.K Wo D ks) D σ H) := by
  refine ⟨fun pins s σ H D I wish => wpAny_Try_except ?_⟩
  have good := I.ok
  have frs0 : X.A.frames = some (X.env :: X.outer) := good.frames.trans (by rw [stk])
  refine wpAny_mono ((bd (wClauses X.K Wo D ks) (X.pn ++ pins) (fun e s1 => wpAny (model X.prog X.w) X.A (noteFrame e X.env) (fun _ s2 => wpAny (model X.prog X.w) X.A (setFlight e none) (fun _ s3 => wpAny (model X.prog X.w) X.A (handleBy e X.env (h0 :: hs)) (SP X pins D) X.xe s3) X.xe s2) X.xe s1)
    (fun u s1 air => ?_) PassesOwn.looking).run [] s σ H D (I.toTry _) wish) (fun f s1 out => ?_) (fun _ _ z => z)
  · obtain ⟨a, B, s0, pins1, σ1, H1, cls, d, rfl, J0, ground, upTo, sky0, free, sameOs, bare, wants⟩ := air
    have J : Inv X pins σ1 H1 s0 := J0.ofTry good
    rw [stk] at sky0
    show wpAny _ X.A (noteFrame (.ref a) X.env) _ _ _
    refine Sky.land Zc.steady frs0 frm sky0 fun g fly up1 => ?_
    have upAll := upTo.trans up1
    have JL : Inv X pins σ1 H1 { s1 with heap := g } := J.landed ground fly.1 upAll sameOs bare
    obtain ⟨oe, fs, atA, isZ, dat⟩ := fly.there
    have out0 : a ∉ frs (X.env :: X.outer) := fun mem => by
      obtain ⟨_, o2, at2, notF⟩ := fly.2.2.1.mem mem
      rw [atA] at at2
      cases at2
      exact notF _ dat
    have outL : a ≠ X.env.locals := fun z => out0 (List.mem_filterMap.mpr ⟨X.env, List.mem_cons_self, by rw [frm, z]⟩)
    have outF : a ∉ X.fs := fun mem => by
      obtain ⟨ev, mv, qv⟩ := List.mem_filterMap.mp mem
      exact out0 (List.mem_filterMap.mpr ⟨ev, List.mem_cons_of_mem _ mv, qv⟩)
    have JS := JL.suite atA dat free outL outF
    have each : ∀ {hs' : List ExceptHandler} {ks' : List Clause}, ClausesOk X hs' ks' → wClauses X.K Wo D ks' cls d σ1 H1 → wpAny (model X.prog X.w) X.A (handleBy (.ref a) X.env hs') (SP X pins D) X.xe { s1 with heap := g } := by
      intro hs' ks' ok'
      induction ok' with
      | nil =>
        intro last
        obtain ⟨q1, q2, q3, oe', fs', T, oT, tf, atE, zE, dE, f1, rest⟩ := id fly
        have thrown : wpAny (model X.prog X.w) X.A (setFlight (.ref a) X.env.frame) (fun _ s4 => wpAny (model X.prog X.w) X.A (throw (.ref a) : Sem Flow) (SP X pins D) X.xe s4) X.xe { s1 with heap := g } := by
          rw [frm]
          exact HandSPX.setFlight_upZ fly fun g2 held up2 => wpAny_throw (tk _ _ ⟨a, B, s0, pins, σ1, H1, cls, d, rfl, J, ground, upAll.trans up2, .inr (.inr (by rw [stk]; exact held)), free, sameOs, bare, last⟩)
        refine wpAny_handleBy_nil ?_
        unfold PySem.passOn
        refine wpAny_bind (wpAny_field atE dE f1 ?_)
        rw [if_neg (by simp : ¬ ((Value.ref T == Value.none) = true))]
        first
          | exact wpAny_bind (wpAny_pure (wpAny_bind thrown))
          | exact wpAny_bind thrown
      | @cons x n kc ki kts st sts np hp hs2 ks2 nd at_ loc nm su more ih =>
        rintro ⟨b, isB, yes, no⟩
        refine wpAny_handleBy_cons (codeAny_handlers_test ?_) (by intro z; cases z)
        have lookT : PySem.W.Looks (model X.prog X.w) g (typeOf (.ref a)) cls := fun _ _ _ _ keep q => wpAny_typeOf_ref (keep _ _ atA) (by rw [isZ.1]; exact q)
        have lookM := PySem.W.exm_one (M := model X.prog X.w) JL.kIn lookT isB
        have named : ∀ {Q E : Value → Shared → Prop}, Q kc { s1 with heap := g } → wpAny (model X.prog X.w) (X.A.mark (some (.ref a))) (eval (.Name x np) X.env) Q E { s1 with heap := g } := fun {Q E} q => by
          obtain ⟨gl, nodbg, m1 | ⟨m1, m2, m3⟩⟩ := nm
          · exact ld_glob (X := X.suite a ((a, oe) :: (X.pn ++ pins))) JS gl m1 q nodbg
          · exact ld_blt (X := X.suite a ((a, oe) :: (X.pn ++ pins))) JS gl m1 m2 q m3 nodbg
        refine named (lookM.here ?_)
        cases b with
        | false =>
          show wpAny _ X.A (handleBy (.ref a) X.env hs2) _ _ _
          exact ih (no rfl)
        | true =>
          refine codeAny_handlers_suite_as (HandSPX.lands_againZ fly fun g2 fly2 up2 => ?_)
          have J2 : Inv X pins σ1 H1 { s1 with heap := g2 } := J.landed ground fly2.1 (upAll.trans up2) sameOs bare
          obtain ⟨oe2, fs2, at2, isZ2, dat2⟩ := fly2.there
          refine store_ok (X := X.suite a ((a, oe2) :: (X.pn ++ pins))) (v := .ref a) (J2.suite at2 dat2 free outL outF) nd at_ (.inl loc) rfl (fun s5 J5 => ?_) (.inr loc)
          have ends : ∀ {σ6 : St} {H6 : Hp} {s6 : Shared} {Q : Shared → Prop}, Inv (X.suite a ((a, oe2) :: (X.pn ++ pins))) [] σ6 H6 s6 → (∀ s7, Inv X pins (σ6.set ki none) H6 s7 → Q s7) →
              wpAny (model X.prog X.w) X.A (do bindName X.env n .none; unbindBehindTheSuite X.env n hp) (fun _ s7 => Q s7) X.xe s6 := fun J6 q => gone_ok (J6.unsuite good) nd at_ loc q
          refine wpAny_mono ((su a oe2 cls d (X.pn ++ pins) isZ2 ⟨_, dat2⟩).run [] s5 _ H1 _ J5 (yes rfl a free)) (fun f s6 left => ?_) (fun _ _ z => z.elim)
          cases f with
          | ret u => obtain ⟨v6, σ6, H6, J6, r6, q6⟩ := left; exact ends J6 fun s7 J7 => ⟨_, _, _, J7, r6, q6⟩
          | next => obtain ⟨σ6, H6, J6, q6⟩ := left; exact ends J6 fun s7 J7 => ⟨_, _, J7, q6⟩
          | brk => obtain ⟨σ6, H6, J6, q6⟩ := left; exact ends J6 fun s7 J7 => ⟨_, _, J7, q6⟩
          | cont => obtain ⟨σ6, H6, J6, q6⟩ := left; exact ends J6 fun s7 J7 => ⟨_, _, J7, q6⟩
    exact each cl wants
  · cases f with
    | ret u => obtain ⟨v, σ2, H2, J2, r2, q2⟩ := out; exact ⟨v, σ2, H2, J2.ofTry good, r2, q2⟩
    | next => obtain ⟨σ2, H2, J2, q2⟩ := out; exact wpAny_execs_nil ⟨σ2, H2, J2.ofTry good, q2⟩
    | brk => obtain ⟨σ2, H2, J2, q2⟩ := out; exact ⟨σ2, H2, J2.ofTry good, q2⟩
    | cont => obtain ⟨σ2, H2, J2, q2⟩ := out; exact ⟨σ2, H2, J2.ofTry good, q2⟩
end
theorem k_cl1 {K : PySem.W.Frag} {Wo : WX} {nx bk ct : L2.St → Hp → Prop} {rt : VK} {c : Value} {i : Nat} {ts : Addr → Value → Option Addr → TS} {r : List Clause} {cls : Value} {d : Option Addr} {σ : L2.St} {H : Hp} (e : PySem.W.exmOne K cls c = some true)
    (q : ∀ a, H a = none → ts a cls d ⟨fun σ H => nx (σ.set i none) H, rt, fun σ H => bk (σ.set i none) H, fun σ H => ct (σ.set i none) H⟩ (σ.set i (some (.ref a))) H) : wClauses K Wo ⟨nx, rt, bk, ct⟩ (⟨c, i, ts⟩ :: r) cls d σ H :=
  ⟨true, e, fun _ => q, fun z => nomatch z⟩
theorem k_cl2 {K : PySem.W.Frag} {Wo : WX} {D : Ends} {k : Clause} {r : List Clause} {cls : Value} {d : Option Addr} {σ : L2.St} {H : Hp} (e : PySem.W.exmOne K cls k.c = some false) (q : wClauses K Wo D r cls d σ H) : wClauses K Wo D (k :: r) cls d σ H :=
  ⟨false, e, fun z => (nomatch z), fun _ => q⟩
theorem w_isN {A : Prop} (q : A) : V.non = V.non ∧ A := ⟨rfl, q⟩
end L2.My

/-! W11: math.lcm of two, for over enumerate, comprehensions over tuples and zips with draws. -/
namespace L2.My
open PySem PySem.Spec PyProof.Rows
def rLcm : List V → Hp → VK → Prop := fun vs H Q => ∃ a b : Int, vs = [.int a, .int b] ∧ a.natAbs < 2 ^ 64 ∧ b.natAbs < 2 ^ 64 ∧ Q (.int ((a.natAbs.lcm b.natAbs : Nat) : Int)) H
theorem cr_lcm {X : Cx} : CallR X (.builtin "math.lcm") rLcm := by
  intro pins s σ H vs us Q I r h
  obtain ⟨a, b, rfl, ha, hb, q⟩ := h
  cases r with
  | cons ra r =>
    cases r with
    | cons rb r =>
      cases r
      obtain ⟨t, rfl⟩ := ra
      obtain ⟨u, rfl⟩ := rb
      exact PySem.W.mc_lcm ha hb fun _ => ⟨.int ((a.natAbs.lcm b.natAbs : Nat) : Int), H, I.tok _, ⟨_, rfl⟩, q⟩
theorem w_lcm {a b : Int} {H : Hp} {Q : VK} (ha : a.natAbs < 2 ^ 64) (hb : b.natAbs < 2 ^ 64) (q : Q (.int ((a.natAbs.lcm b.natAbs : Nat) : Int)) H) : rLcm [.int a, .int b] H Q := ⟨a, b, rfl, ha, hb, q⟩
section
variable {K : PySem.W.Frag} {σ : St} {H : Hp} {g : TG} {tb : TS} {D : Ends} {a b : Addr} {xs ys : List V} {ta : TA} {te : TE} {tt : TT} {ws : List Nat} {Q : VK}
def ForEn (K : PySem.W.Frag) (g : TG) (tb : TS) (D : Ends) (σ : St) (vs : List V) (H : Hp) : Prop := tFor (iEnum K fun _ H Q => Q vs H) g tb D σ H
theorem w_forEn (q : ta σ H fun vs H1 => ForEn K g tb D σ vs H1) : tFor (iEnum K ta) g tb D σ H := q
theorem k_forEn {nx bk ct : L2.St → Hp → Prop} {rt : VK} (Pv : Nat → St → Hp → Prop) (hx : SqL K H a xs) (h0 : Pv 0 σ H) (hl : ∀ i σ H, Pv i σ H → SqL K H a xs)
    (hs : ∀ i x σ H T H', xs[i]? = some x → Pv i σ H → H T = none → Same H H' → H' T = some (.tup [.int (i : Nat), x]) → g (.ref T) σ H' fun σ2 H2 => tb ⟨Pv (i + 1), rt, nx, Pv (i + 1)⟩ σ2 H2) (hd : ∀ σ H, Pv xs.length σ H → nx σ H) :
    ForEn K g tb ⟨nx, rt, bk, ct⟩ σ [.ref a] H := by
  refine ⟨a, xs, rfl, hx, fun i m σ H => Pv i σ H ∧ m + i = xs.length, ⟨xs.length, h0, rfl⟩, fun i m σ H ⟨q, em⟩ => ?_⟩
  have l1 := hl i σ H q
  rcases Nat.lt_or_ge i xs.length with h | h
  · right
    have ex : xs[i]? = some xs[i] := List.getElem?_eq_getElem h
    refine ⟨⟨xs, _, l1, ex⟩, Pv (i + 1), fun σ' H' q' => ⟨m - 1, by omega, q', by omega⟩, ?_⟩
    rintro x H' ⟨T, x', rfl, hT, rfl, h1⟩
    exact hs i x' σ H T _ (h1 xs l1) q hT (Same.new hT) upd_same
  · left
    obtain rfl : i = xs.length := by omega
    exact ⟨⟨xs, l1, Nat.le_refl _⟩, hd σ H q⟩
/-- a comprehension over a tuple, any -/
theorem k_lcT (Pv : Nat → Addr → Hp → Prop) (h : H a = some (.tup xs)) (h0 : ∀ D, H D = none → Pv 0 D (upd H D (.lst []))) (hl : ∀ i D H', Pv i D H' → H' a = some (.tup xs))
    (hs : ∀ i x D H, xs[i]? = some x → Pv i D H → g x (wipe σ ws) H fun σ2 H2 => wipe σ2 ws = wipe σ ws ∧ tt σ2 H2 fun b H3 =>
      if b = true then te σ2 H3 fun y H4 => ∃ acc, H4 D = some (.lst acc) ∧ acc.length < sizeLine ∧ Pv (i + 1) D (upd H4 D (.lst (acc ++ [y]))) else Pv (i + 1) D H3) (hd : ∀ D H, Pv xs.length D H → Q (.ref D) H) : CompT K g tt te ws σ (.ref a) H Q :=
  ⟨a, rfl, ⟨_, SqT.of h⟩, fun D hD => lc_tup (xs := xs) (fun i H => Pv i D H) (h0 D hD) (fun i H _ q => SqT.of (hl i D H q)) (fun i x H hx q => hs i x D H hx q) (fun H q => hd D H q)⟩
/-- .. over a zip of two tuples -/
def CompZT (K : PySem.W.Frag) (g : TG) (tt : TT) (te : TE) (ws : List Nat) (σ : St) (vs : List V) (H : Hp) (Q : VK) : Prop := tLc (RZ.iZipA K fun _ H Q => Q vs H) g tt te ws σ H Q
theorem w_lcZT (q : ta σ H fun vs H1 => CompZT K g tt te ws σ vs H1 Q) : tLc (RZ.iZipA K ta) g tt te ws σ H Q := q
theorem k_lcZT (Pv : Nat → Addr → Hp → Prop) (ha : H a = some (.tup xs)) (hb : H b = some (.tup ys)) (e : xs.length = ys.length) (h0 : ∀ D, H D = none → Pv 0 D (upd H D (.lst []))) (hl : ∀ i D H', Pv i D H' → H' a = some (.tup xs) ∧ H' b = some (.tup ys))
    (hs : ∀ i x y D H T H', xs[i]? = some x → ys[i]? = some y → Pv i D H → H T = none → Same H H' → H' T = some (.tup [x, y]) → g (.ref T) (wipe σ ws) H' fun σ2 H2 => wipe σ2 ws = wipe σ ws ∧ tt σ2 H2 fun b H3 =>
      if b = true then te σ2 H3 fun z H4 => ∃ acc, H4 D = some (.lst acc) ∧ acc.length < sizeLine ∧ Pv (i + 1) D (upd H4 D (.lst (acc ++ [z]))) else Pv (i + 1) D H3) (hd : ∀ D H, Pv xs.length D H → Q (.ref D) H) : CompZT K g tt te ws σ [.ref a, .ref b] H Q := by
  refine ⟨a, b, xs, ys, rfl, .inr ⟨SqT.of ha, SqT.of hb, fun D hD => ⟨fun i m H => Pv i D H ∧ m + i = xs.length, ⟨xs.length, h0 D hD, rfl⟩, fun i m H ⟨q, em⟩ => ?_⟩⟩⟩
  obtain ⟨l1, l2⟩ := hl i D H q
  rcases Nat.lt_or_ge i xs.length with h | h
  · right
    have ex : xs[i]? = some xs[i] := List.getElem?_eq_getElem h
    have ey : ys[i]? = some (ys[i]'(by omega)) := List.getElem?_eq_getElem (by omega)
    refine ⟨⟨xs, ys, _, _, SqT.of l1, SqT.of l2, ex, ey⟩, Pv (i + 1) D, fun H' q' => ⟨m - 1, by omega, q', by omega⟩, ?_⟩
    rintro x H' ⟨T, x', y', rfl, hT, rfl, h1, h2⟩
    exact hs i x' y' D H T _ (h1 xs (SqT.of l1)) (h2 ys (SqT.of l2)) q hT (Same.new hT) upd_same
  · left
    obtain rfl : i = xs.length := by omega
    exact ⟨⟨xs, ys, SqT.of l1, SqT.of l2, .inl (Nat.le_refl _)⟩, hd D H q⟩
end
theorem w_notB {b c : Bool} {H : Hp} {Q : VK} (q : Q (.bl (!decide (b = c))) H) : rNotB (.bl b) (.bl c) H Q := ⟨b, c, rfl, rfl, q⟩
end L2.My

/-! W12: == of two tuples whose items an own == compares, with either answer. -/
namespace L2.My
open PySem PySem.SeqAt
open AutoSeq1 (wpAny_loadPart')
open MeetsSeq MeetsSeq2 MeetsSeq3 SeqRoads2
section
variable {P : Program} {w : World} {A : Around} {R : Result → Shared → Prop}
theorem tup_eqB (p q : Addr) (as bs : Array Value) (n m : Nat) (da db : Option Addr) (sa sb : Array (Option Value)) (sz : as.size = bs.size) (e : Nat → Bool) (v : Bool) (ev : (List.range as.size).all e = v) (J : Nat → Shared → Prop)
    (go : ∀ i (h1 : i < as.size) (h2 : i < bs.size) t, J i t → wpAny (model P w) A.in1 (eqBool as[i] bs[i]) (fun r t' => r = e i ∧ J (i + 1) t') (fun er t' => R (.error er) t') t)
    (out : ∀ i t, J i t → R (.ok (.ret (.bool v))) t) {s : Shared} (lp : s.heap.get? p = some { cls := .type "tuple", dict := da, data := .seq as n, slots := sa }) (lq : s.heap.get? q = some { cls := .type "tuple", dict := db, data := .seq bs m, slots := sb }) (start : J 0 s) :
    wpAny (model P w) A.in1 (Builtin.«tuple.__eq__» ⟨[.ref p, .ref q], []⟩) (GQ.FinOf P w A R) (fun er t' => R (.error er) t') s := by
  have sub2 := AutoSeq1.sub_tuple_tuple
  have zl : (as.toList.zip bs.toList).length = as.size := by simp [sz]
  have keep := start
  obtain ⟨hp, gg, dd, tk, os⟩ := s
  wp_walk using wpAny_loadPart' lp, wpAny_loadPart' lq, wpAny_forIn_list _ (fun rest st t => st.1 = none ∧ ∃ i, rest = (as.toList.zip bs.toList).drop i ∧ i ≤ as.size ∧ ((List.range as.size).drop i).all e = v ∧ J i t) _
  case turn =>
    rintro ⟨y, x⟩ rest st t ⟨no, i, ez, le, al, hJ⟩
    have lt : i < (as.toList.zip bs.toList).length := by
      refine Nat.lt_of_not_le fun z => ?_
      rw [List.drop_of_length_le z] at ez
      cases ez
    have h1 : i < as.size := zl ▸ lt
    have h2 : i < bs.size := sz ▸ h1
    rw [List.drop_eq_getElem_cons lt] at ez
    injection ez with e1 e2
    obtain rfl : y = as[i] := by simpa using congrArg Prod.fst e1
    obtain rfl : x = bs[i] := by simpa using congrArg Prod.snd e1
    rw [show (List.range as.size).drop i = i :: (List.range as.size).drop (i + 1) by simp [List.drop_eq_getElem_cons, h1], List.all_cons] at al
    refine wpAny_bind (wpAny_mono (go i h1 h2 t hJ) (fun r t2 z => ?_) fun _ _ z => z)
    obtain ⟨rfl, J2⟩ := z
    cases eb : e i with
    | true =>
      rw [eb, Bool.true_and] at al
      wp_walk
      exact ⟨rfl, i + 1, e2, h1, al, J2⟩
    | false =>
      have o := out _ _ J2
      rw [eb, Bool.false_and] at al
      subst al
      wp_walk
      exact o
  case fin =>
    rintro ⟨z1, z2⟩ t ⟨no, i, ez, le, al, hJ⟩
    simp only at no
    subst no
    have ge : as.size ≤ i := Nat.le_of_not_lt fun z => by
      rw [List.drop_eq_getElem_cons (by rw [zl]; exact z)] at ez
      cases ez
    rw [List.drop_of_length_le (by simpa using ge)] at al
    have o := out _ _ hJ
    rw [← al] at o
    wp_walk
    simpa [Builtin.Tuple.tupleCompareSizes, sz] using o
  case h => exact ⟨rfl, 0, rfl, Nat.zero_le _, by simpa using ev, keep⟩
end
open PySem.Spec PyProof.Rows
/-- what == says of two things, told -/
abbrev EqvB := V → V → Hp → Bool → Prop
def RcB (X : Cx) (n : Nat) (D : EqvB) : Prop :=
  ∀ (A : Around) (pins : List (Addr × Obj)) (s : Shared) (σ : L2.St) (H : Hp) (x y : V) (u v : Value) (b : Bool), Sub X n A → Inv X pins σ H s → RelV x u → RelV y v → D x y H b →
    wpAny (model X.prog X.w) A (richCompare .Eq u v) (fun r t => r = .bool b ∧ ∃ H', Inv X pins σ H' t ∧ Ext H H') X.xe s
def EqB (X : Cx) (n : Nat) (D : EqvB) : Prop :=
  ∀ (A : Around) (pins : List (Addr × Obj)) (s : Shared) (σ : L2.St) (H : Hp) (x y : V) (u v : Value) (b : Bool), Sub X n A → Inv X pins σ H s → RelV x u → RelV y v → D x y H b →
    wpAny (model X.prog X.w) A (eqBool u v) (fun r t => r = b ∧ ∃ H', Inv X pins σ H' t ∧ Ext H H') X.xe s
/-- instances of the class C: what its own == promises -/
def DInB (C : Addr) (R : Addr → Addr → Hp → Bool → Prop) : EqvB := fun x y H b => ∃ p q dx dy fs gs, x = .ref p ∧ y = .ref q ∧ H p = some (.ins C dx fs) ∧ H q = some (.ins C dy gs) ∧ R p q H b
section
variable {X : Cx} {n : Nat} {D : EqvB}
theorem rcB_ins {CX : CXT} {C f : Addr} {fd : FuncData} {ps : List Str} {R : Addr → Addr → Hp → Bool → Prop} {sp : Sp} {E : XK} (F : FnOk X.prog X.w X.K X.mg X.base CX n f fd ps sp)
    (keeps : ∀ p q H b, R p q H b → sp [.ref p, .ref q] H (fun z H' => z = .bl b ∧ Ext H H') E)
    (at_ : PySem.W.findIn X.K (.ref C) "__eq__" = some (some (.ref f))) (fn : PySem.W.isFn X.K (.ref f) = true) (bi : Binds X.K fd ps []) (px : Passes CX X E) : RcB X n (DInB C R) := by
  intro A pins s σ H x y u v b sub I rx ry ⟨p, q, dx, dy, fs, gs, ex, ey, hp, hq, hR⟩
  subst ex ey
  cases rx
  cases ry
  obtain ⟨m1, J, _⟩ := ins_get I.hok hp
  obtain ⟨m2, J', _⟩ := ins_get I.hok hq
  obtain ⟨od, J, _⟩ := J.look
  obtain ⟨od', J', _⟩ := J'.look
  obtain ⟨mm, hF⟩ := I.fr
  have want := keeps p q H b hR
  have lens := F.len _ _ _ _ want
  have env : Env0 X.prog X.w X.K X.mg X.base A X.stack s H := ⟨by rw [sub.fr]; exact I.env0.frames, I.env0.mod, I.env0.bs, I.env0.bsz, I.env0.funs, I.env0.frf, I.env0.hok, I.env0.bare⟩
  refine PySem.W.cmp_K (op := .Eq) (tb := .ref C) sub.room.units0 hF I.ok.mod.kin J J'.type (by simp [PySem.W.notFirst]) at_ fn ?_
  refine wpAny_call (codeAny_mono (F.run A X.stack s H ⟨[.ref p, .ref q], []⟩ [.ref p, .ref q] [.ref p, .ref q] _ E sub.room env (by simpa using bi s [.ref p, .ref q] I.kIn (by simpa using lens)) (.cons rfl (.cons rfl .nil)) want) fun r t hr => ?_)
  cases r with
  | error er => exact px pins σ H s er t I hr
  | ok fl =>
    cases fl with
    | ret z =>
      obtain ⟨z', H', I', rz, ez, ext⟩ := I.after hr
      subst ez
      cases rz
      exact ⟨rfl, H', I', ext⟩
    | next => exact hr.elim
    | brk => exact hr.elim
    | cont => exact hr.elim
theorem RcB.eqB (h : RcB X n D) (refs : ∀ x y H b, D x y H b → ∃ p q, x = .ref p ∧ y = .ref q) (self : ∀ p H b, D (.ref p) (.ref p) H b → b = true) : EqB X n D := by
  intro A pins s σ H x y u v b sub I rx ry d
  obtain ⟨p, q, ex, ey⟩ := refs _ _ _ _ d
  subst ex ey
  cases rx
  cases ry
  by_cases pq : p = q
  · subst pq
    rw [self _ _ _ d]
    exact SeqAt.EqAt.same (A := A) (s := s) (.ref p) X.prog X.w X.xe _ ⟨rfl, H, I, Ext.rfl'⟩
  · refine GQ.eqBool_refG pq (wpAny_mono (h A pins s σ H (.ref p) (.ref q) _ _ b sub I rfl rfl d) (fun r t z => ?_) fun _ _ z => z)
    exact ⟨b, z.1, rfl, z.2⟩
/-- tuples of two such items each -/
def DTwo (K : PySem.W.Frag) (D : EqvB) : EqvB := fun x y H b => ∃ p q x0 x1 y0 y1 b0 b1, x = .ref p ∧ y = .ref q ∧ SqT K H p [x0, x1] ∧ SqT K H q [y0, y1] ∧ D x0 y0 H b0 ∧ D x1 y1 H b1 ∧ b = (b0 && b1)
theorem rcB_two (mon : ∀ x y H H' b, Ext H H' → D x y H b → D x y H' b) (h : EqB X n D) : RcB X (n + 1) (DTwo X.K D) := by
  intro A pins s σ H x y u v b sub I rx ry ⟨p, q, x0, x1, y0, y1, b0, b1, ex, ey, hp, hq, d0, d1, eb⟩
  subst ex ey
  cases rx
  cases ry
  obtain ⟨its, r1, pl, -⟩ := I.tuple hp
  obtain ⟨its', r2, pl', -⟩ := I.tuple hq
  cases r1 with
  | cons ra r1 =>
    cases r1 with
    | cons rb r1 =>
      cases r1
      cases r2 with
      | cons rc r2 =>
        cases r2 with
        | cons rd r2 =>
          cases r2
          obtain ⟨⟨c1, e1, f1, g1⟩, ho, hc, k1, hd⟩ := id pl
          obtain ⟨⟨c2, e2, f2, g2⟩, ho2, hc2, k2, hd2⟩ := id pl'
          simp only at hc hd hc2 hd2
          subst hc hd hc2 hd2
          refine wpAny_richCompare_same_room (op := .Eq) ⟨_, ho, rfl⟩ ⟨_, ho2, rfl⟩ F.slot_tuple_eq (GQ.call_here F.slot_tuple_eq ⟨_, ho, rfl⟩ F.entry_tuple_eq (F.args_tuple_eq_2 _ _) ?_) sub.room.units0
          refine tup_eqB (R := wants (fun z t => z ≠ .notImplemented ∧ (z = .bool b ∧ ∃ H', Inv X pins σ H' t ∧ Ext H H')) X.xe) p q _ _ _ _ _ _ _ _ (by simp) (fun i => if i = 0 then b0 else b1) b ?_ (fun _ t => ∃ H', Inv X pins σ H' t ∧ Ext H H') ?_ ?_ ho ho2 ⟨H, I, Ext.rfl'⟩
          · rw [eb]
            show ((List.range 2).all _) = _
            simp [List.range_succ]
          · rintro i h1 h2 t ⟨H1, I1, x1'⟩
            have hi : i = 0 ∨ i = 1 := by have : i < 2 := h1; omega
            rcases hi with rfl | rfl
            · refine wpAny_mono (h A.in1 pins t σ H1 x0 y0 _ _ b0 sub.in1 I1 ra rc (mon _ _ _ _ _ x1' d0)) (fun r t' z => ?_) fun _ _ z => z
              obtain ⟨z1, H2, I2, x2⟩ := z
              exact ⟨z1, H2, I2, x1'.trans x2⟩
            · refine wpAny_mono (h A.in1 pins t σ H1 x1 y1 _ _ b1 sub.in1 I1 rb rd (mon _ _ _ _ _ x1' d1)) (fun r t' z => ?_) fun _ _ z => z
              obtain ⟨z1, H2, I2, x2⟩ := z
              exact ⟨z1, H2, I2, x1'.trans x2⟩
          · exact fun i t z => ⟨fun y => (nomatch y), rfl, z⟩
/-- x == y -/
def rEqB (D : EqvB) : R2 := fun x y H Q => ∃ b, D x y H b ∧ ∀ H', Ext H H' → Q (.bl b) H'
theorem op_eqB (h : RcB X n D) (hr : Room n X.A) : OpR X (compareOp .Eq) (rEqB D) := by
  intro pins s σ H x y v u Q I rx ry ⟨b, d, q⟩
  show wpAny (model X.prog X.w) X.A (richCompare .Eq v u) (EP X pins σ Q) X.xe s
  refine wpAny_mono (h X.A pins s σ H x y v u b ⟨hr, rfl⟩ I rx ry d) (fun r t z => ?_) fun _ _ z => z
  obtain ⟨z1, H', I', e⟩ := z
  subst z1
  exact ⟨.bl b, H', I', rfl, q H' e⟩
end
end L2.My

/-! W13: == of tuples of two instances by their own ==, of tuples with the same things in them. -/
namespace L2.My
open PySem PySem.Spec PyProof.Rows
section
variable {X : Cx} {n j k : Nat}
theorem RcB.mono' {D : EqvB} (h : RcB X n D) (l : n ≤ j) : RcB X j D := fun A pins s σ H x y u v b sb => h A pins s σ H x y u v b (sb.mono l)
theorem op_eqTwo {C : Addr} {ps : List Str} {sp : Sp} {E : XK} {R : Addr → Addr → Hp → Bool → Prop} (h : HasM X.prog X.w X.K X.mg X.base C "__eq__" k ps sp) (hr : Room j X.A) (hx : Passes (L2.CX X.prog X.w) X E)
    (keeps : ∀ p q H b, R p q H b → sp [.ref p, .ref q] H (fun z H' => z = .bl b ∧ Ext H H') E) (mon : ∀ p q H H' b, Ext H H' → R p q H b → R p q H' b) (self : ∀ p H b, R p p H b → b = true) (hj : k + 1 ≤ j := by decide) :
    OpR X (compareOp .Eq) (rEqB (DTwo X.K (DInB C R))) := by
  obtain ⟨f, fd, Fo, hm, hb⟩ := h
  have r1 : RcB X k (DInB C R) := rcB_ins Fo keeps hm.at_ hm.fn hb hx
  have r2 : EqB X k (DInB C R) := r1.eqB (fun x y H b d => by obtain ⟨p, q, _, _, _, _, e1, e2, _⟩ := d; exact ⟨p, q, e1, e2⟩) (fun p H b d => by
    obtain ⟨p', q', _, _, _, _, e1, e2, _, _, r⟩ := d
    cases e1
    cases e2
    exact self _ _ _ r)
  refine op_eqB (rcB_two (fun x y H H' b e d => ?_) r2) (hr.mono hj)
  obtain ⟨p, q, dx, dy, fs, gs, e1, e2, h1, h2, r⟩ := d
  exact ⟨p, q, dx, dy, fs, gs, e1, e2, e _ _ h1, e _ _ h2, mon _ _ _ _ _ e r⟩
/-- flat and equal, or the same object -/
def DSame : Eqv := fun x y H => DFlat x y H ∨ ∃ a, x = .ref a ∧ y = .ref a
theorem mon_same : Mon DSame := fun _ _ _ _ _ d => d
theorem eqG_same : EqG X 0 DSame := fun A pins s σ H x y u v sb I rx ry d => by
  rcases d with d | ⟨a, e1, e2⟩
  · exact eqG_flat A pins s σ H x y u v sb I rx ry d
  · subst e1 e2
    cases rx
    cases ry
    exact SeqAt.EqAt.same (A := A) (s := s) (.ref a) X.prog X.w X.xe _ ⟨rfl, H, I, Ext.rfl'⟩
theorem op_eqSame (hr : Room 1 X.A) : OpR X (compareOp .Eq) (rEqG (DTup X.K DSame)) := op_eqG (rcG_tup mon_same eqG_same) hr
/-- (text, thing) == (text, thing) -/
theorem w_eqSame2 {K : PySem.W.Frag} {p q : Addr} {s : Str} {v : V} {H : Hp} {Q : VK} (h1 : H p = some (.tup [.str s, v])) (h2 : H q = some (.tup [.str s, v])) (hv : (∃ a, v = .ref a) ∨ v = .non ∨ ∃ k, v = .int k) (q' : ∀ H', Ext H H' → Q (.bl true) H') : rEqG (DTup K DSame) (.ref p) (.ref q) H Q := by
  refine ⟨⟨p, q, _, _, rfl, rfl, SqT.of h1, SqT.of h2, .cons (.inl ⟨rfl, rfl, by simp [eqV]⟩) (.cons ?_ .nil)⟩, q'⟩
  rcases hv with ⟨a, rfl⟩ | rfl | ⟨k, rfl⟩
  · exact .inr ⟨a, rfl, rfl⟩
  · exact .inl ⟨rfl, rfl, rfl⟩
  · exact .inl ⟨rfl, rfl, by simp [eqV]⟩
end
end L2.My

/-! W14: the signs of t + r * the square root of 2, by whole numbers p, q with p * p = 2 * q * q + 1 far enough out: t * q + r * p has the same sign. -/
namespace L2.My
/-- the sign of t + r * the square root of 2 -/
def sg2 (t r : Int) : Int :=
  if t = 0 ∧ r = 0 then 0 else if 0 ≤ t ∧ 0 ≤ r then 1 else if t ≤ 0 ∧ r ≤ 0 then -1 else if t * t > 2 * r * r then (if 0 < t then 1 else -1) else if 0 < r then 1 else -1
structure Pell (p q : Int) : Prop where
  e : p * p = 2 * (q * q) + 1
  p : 0 < p
  q : 0 < q
theorem sq_le {x y : Int} (hx : 0 ≤ x) (h : x ≤ y) : x * x ≤ y * y := Int.mul_le_mul h h hx (by omega)
theorem sq_lt_of {x y : Int} (hy : 0 ≤ y) (h : x * x < y * y) : x < y := by
  refine Int.not_le.mp fun z => ?_
  have := sq_le hy z
  omega
theorem Pell.next {p q : Int} (h : Pell p q) : Pell (3 * p + 4 * q) (2 * p + 3 * q) := by
  obtain ⟨e, hp, hq⟩ := h
  exact ⟨by grind, by omega, by omega⟩
theorem pell_far (n : Nat) : ∃ p q, Pell p q ∧ (n : Int) < q := by
  induction n with
  | zero => exact ⟨3, 2, ⟨by decide, by decide, by decide⟩, by decide⟩
  | succ n ih =>
    obtain ⟨p, q, h, l⟩ := ih
    have := h.p
    exact ⟨_, _, h.next, by omega⟩
theorem Pell.lo {p q : Int} (h : Pell p q) : 7 * q < 5 * p := by
  have := h.e
  have := h.p
  have := h.q
  refine sq_lt_of (by omega) ?_
  have h2 : 0 < q * q := Int.mul_pos h.q h.q
  have e1 : 7 * q * (7 * q) = 49 * (q * q) := by grind
  have e2 : 5 * p * (5 * p) = 25 * (p * p) := by grind
  omega
theorem Pell.hi {p q : Int} (h : Pell p q) : 2 * p ≤ 3 * q := by
  have := h.e
  have := h.p
  have := h.q
  refine Int.not_lt.mp fun z => ?_
  have h2 := sq_le (x := 3 * q + 1) (y := 2 * p) (by omega) (by omega)
  have e1 : (3 * q + 1) * (3 * q + 1) = 9 * (q * q) + 6 * q + 1 := by grind
  have e2 : 2 * p * (2 * p) = 4 * (p * p) := by grind
  have h3 : 0 < q * q := Int.mul_pos h.q h.q
  have h4 : 1 * q ≤ q * q := Int.mul_le_mul_of_nonneg_right (by omega) (by omega)
  omega
/-- the signs are told by the whole number -/
theorem sg2_pell {t r p q : Int} (h : Pell p q) (hr : (r.natAbs : Int) < q) : (0 < t * q + r * p → sg2 t r = 1) ∧ (t * q + r * p < 0 → sg2 t r = -1) ∧ (t * q + r * p = 0 → t = 0 ∧ r = 0) := by
  obtain ⟨e, hp, hq⟩ := h
  have r2 : r * r < q * q := by
    have : (r.natAbs : Int) * r.natAbs = r * r := by
      rw [← Int.natCast_mul, Int.natAbs_mul_self]
    have l := sq_le (x := (r.natAbs : Int)) (y := q - 1) (by omega) (by omega)
    have e1 : (q - 1) * (q - 1) = q * q - 2 * q + 1 := by grind
    omega
  have r0 : 0 ≤ r * r := by
    rcases Int.le_total 0 r with h | h
    · exact Int.mul_nonneg h h
    · exact Int.mul_nonneg_of_nonpos_of_nonpos h h
  have key : (t * q) * (t * q) - (r * p) * (r * p) = (t * t - 2 * (r * r)) * (q * q) - r * r := by
    have e2 : (r * p) * (r * p) = r * r * (2 * (q * q) + 1) := by rw [← e]; grind
    rw [e2]
    grind
  have qq : 0 < q * q := Int.mul_pos hq hq
  unfold sg2
  by_cases c0 : t = 0 ∧ r = 0
  · obtain ⟨rfl, rfl⟩ := c0
    simp
  rw [if_neg c0]
  by_cases c1 : 0 ≤ t ∧ 0 ≤ r
  · rw [if_pos c1]
    have a1 : 0 ≤ t * q := Int.mul_nonneg c1.1 (by omega)
    have a2 : 0 ≤ r * p := Int.mul_nonneg c1.2 (by omega)
    have a3 : 0 < t * q + r * p := by
      rcases (show 0 < t ∨ 0 < r by omega) with z | z
      · have := Int.mul_pos z hq
        omega
      · have := Int.mul_pos z hp
        omega
    exact ⟨fun _ => rfl, fun z => by omega, fun z => by omega⟩
  rw [if_neg c1]
  by_cases c2 : t ≤ 0 ∧ r ≤ 0
  · rw [if_pos c2]
    have a1 : 0 ≤ -t * q := Int.mul_nonneg (by omega) (by omega)
    have a2 : 0 ≤ -r * p := Int.mul_nonneg (by omega) (by omega)
    have a3 : 0 < -t * q + -r * p := by
      rcases (show 0 < -t ∨ 0 < -r by omega) with z | z
      · have := Int.mul_pos z hq
        omega
      · have := Int.mul_pos z hp
        omega
    rw [Int.neg_mul] at a1 a3
    rw [Int.neg_mul] at a2 a3
    exact ⟨fun z => by omega, fun _ => rfl, fun z => by omega⟩
  rw [if_neg c2]
  have a5 : 2 * r * r = 2 * (r * r) := Int.mul_assoc _ _ _
  by_cases c3 : t * t > 2 * r * r
  · rw [if_pos c3]
    have b1 : q * q ≤ (t * t - 2 * (r * r)) * (q * q) := by
      have := Int.mul_le_mul_of_nonneg_right (a := 1) (b := t * t - 2 * (r * r)) (c := q * q) (by omega) (by omega)
      omega
    by_cases c4 : 0 < t
    · rw [if_pos c4]
      have p1 : 0 < t * q := Int.mul_pos c4 hq
      have b2 : -(r * p) < t * q := sq_lt_of (by omega) (by rw [Int.neg_mul_neg]; omega)
      exact ⟨fun _ => rfl, fun z => by omega, fun z => by omega⟩
    · rw [if_neg c4]
      have p1 : 0 < -t * q := Int.mul_pos (by
        refine Int.not_le.mp fun z => ?_
        have : t = 0 := by omega
        subst this
        omega) hq
      have b2 : r * p < -t * q := sq_lt_of (by omega) (by rw [Int.neg_mul, Int.neg_mul_neg]; omega)
      rw [Int.neg_mul] at b2
      exact ⟨fun z => by omega, fun _ => rfl, fun z => by omega⟩
  · rw [if_neg c3]
    have d1 : t * t < 2 * (r * r) ∨ t * t = 2 * (r * r) := by omega
    have rn : r ≠ 0 := by
      intro z
      subst z
      simp only [Int.mul_zero] at d1
      rcases Int.lt_or_gt_of_ne (show t ≠ 0 from fun y => c0 ⟨y, rfl⟩) with z | z
      · have := Int.mul_pos_of_neg_of_neg z z
        omega
      · have := Int.mul_pos z z
        omega
    have b1 : (t * t - 2 * (r * r)) * (q * q) ≤ 0 := Int.mul_nonpos_of_nonpos_of_nonneg (by omega) (by omega)
    have rr : 0 < r * r := by
      rcases Int.lt_or_gt_of_ne rn with z | z
      · exact Int.mul_pos_of_neg_of_neg z z
      · exact Int.mul_pos z z
    by_cases c4 : 0 < r
    · rw [if_pos c4]
      have p1 : 0 < r * p := Int.mul_pos c4 hp
      have b2 : -(t * q) < r * p := sq_lt_of (by omega) (by rw [Int.neg_mul_neg]; omega)
      exact ⟨fun _ => rfl, fun z => by omega, fun z => by omega⟩
    · rw [if_neg c4]
      have p1 : 0 < -r * p := Int.mul_pos (by omega) hp
      have b2 : t * q < -r * p := sq_lt_of (by omega) (by rw [Int.neg_mul, Int.neg_mul_neg]; omega)
      rw [Int.neg_mul] at b2
      exact ⟨fun z => by omega, fun _ => rfl, fun z => by omega⟩
theorem sg2_pos {t r p q : Int} (h : Pell p q) (hr : (r.natAbs : Int) < q) : 0 < sg2 t r ↔ 0 < t * q + r * p := by
  obtain ⟨a, b, c⟩ := sg2_pell (t := t) h hr
  constructor
  · intro z
    rcases (show 0 < t * q + r * p ∨ t * q + r * p < 0 ∨ t * q + r * p = 0 by omega) with y | y | y
    · exact y
    · rw [b y] at z
      omega
    · obtain ⟨rfl, rfl⟩ := c y
      simp [sg2] at z
  · intro z
    rw [a z]
    decide
theorem nat_sqr2 : ∀ m n : Nat, m * m = 2 * (n * n) → n = 0 := by
  intro m
  induction m using Nat.strongRecOn with
  | ind m ih =>
    intro n h
    rcases Nat.eq_zero_or_pos n with h0 | h0
    · exact h0
    have hn : n < m := by
      rcases Nat.lt_or_ge n m with q | q
      · exact q
      · have := Nat.mul_le_mul q q
        have : 0 < n * n := Nat.mul_pos h0 h0
        omega
    have he : m % 2 = 0 := by
      rcases Nat.mod_two_eq_zero_or_one m with q | q
      · exact q
      · have : m * m % 2 = 1 := by rw [Nat.mul_mod, q]
        omega
    obtain ⟨k, rfl⟩ : ∃ k, m = 2 * k := ⟨m / 2, by omega⟩
    have h2 : n * n = 2 * (k * k) := by
      have : 2 * k * (2 * k) = 4 * (k * k) := by grind
      omega
    have hk := ih n hn k h2
    subst hk
    simp at h2
    rcases Nat.mul_eq_zero.mp h2 with q | q <;> exact q
/-- the square root of 2 is no fraction -/
theorem sqr2 {t r : Int} (h : t * t - 2 * r * r = 0) : t = 0 ∧ r = 0 := by
  have e : t.natAbs * t.natAbs = 2 * (r.natAbs * r.natAbs) := by
    have h1 : ((t.natAbs * t.natAbs : Nat) : Int) = t * t := Int.natAbs_mul_self
    have h2 : ((r.natAbs * r.natAbs : Nat) : Int) = r * r := Int.natAbs_mul_self
    have h3 : 2 * r * r = 2 * (r * r) := Int.mul_assoc ..
    omega
  have hr := nat_sqr2 _ _ e
  rw [hr] at e
  simp at e
  have h0 : t.natAbs = 0 := by rcases Nat.mul_eq_zero.mp e with q | q <;> exact q
  exact ⟨by omega, by omega⟩
/-! ### the window of a floor, told over the half of a common bottom -/
def wit (x y w o : Int) : Bool := decide (0 < sg2 (w - x) (o - y)) && decide (0 < sg2 (w + x) (o + y))
def winB (h a b c e : Int) : Bool := wit a b h h && (wit c e h h && (wit (a + c) (b + e) (2 * h) h && wit (a - c) (b - e) (2 * h) h))
/-- the window, linear -/
structure WinL (X Y U V : Int) : Prop where
  x1 : X < U + V
  x2 : -(U + V) < X
  y1 : Y < U + V
  y2 : -(U + V) < Y
  s1 : X + Y < 2 * U + V
  s2 : -(2 * U + V) < X + Y
  d1 : X - Y < 2 * U + V
  d2 : -(2 * U + V) < X - Y
theorem wit_pell {x y w o p q : Int} (P : Pell p q) (hr : (y.natAbs : Int) + o.natAbs < q) : wit x y w o = true ↔ x * q + y * p < w * q + o * p ∧ -(w * q + o * p) < x * q + y * p := by
  unfold wit
  rw [Bool.and_eq_true, decide_eq_true_eq, decide_eq_true_eq, sg2_pos P (by omega), sg2_pos P (by omega)]
  simp only [Int.sub_mul, Int.add_mul]
  constructor
  · intro h
    omega
  · intro h
    omega
theorem win_pell {h a b c e p q : Int} (P : Pell p q) (hr : (b.natAbs : Int) + e.natAbs + h.natAbs < q) : winB h a b c e = true ↔ WinL (a * q + b * p) (c * q + e * p) (h * q) (h * p) := by
  unfold winB
  rw [Bool.and_eq_true, Bool.and_eq_true, Bool.and_eq_true, wit_pell P (by omega), wit_pell P (by omega), wit_pell P (by omega), wit_pell P (by omega)]
  simp only [Int.sub_mul, Int.add_mul, Int.mul_assoc]
  constructor
  · rintro ⟨⟨h1, h2⟩, ⟨h3, h4⟩, ⟨h5, h6⟩, h7, h8⟩
    exact ⟨by omega, by omega, by omega, by omega, by omega, by omega, by omega, by omega⟩
  · rintro ⟨h1, h2, h3, h4, h5, h6, h7, h8⟩
    omega
/-- from each point of the window one of four steps stays in it -/
theorem win_side {h a b c e : Int} (hh : 0 < h) (w : winB h a b c e = true) : winB h (a + 2 * h) b c e = true ∨ winB h (a - 2 * h) b c e = true ∨ winB h a b (c + 2 * h) e = true ∨ winB h a b (c - 2 * h) e = true := by
  obtain ⟨p, q, P, far⟩ := pell_far (b.natAbs + e.natAbs + h.natAbs)
  rw [win_pell P (by omega)] at w
  rw [win_pell P (by omega), win_pell P (by omega), win_pell P (by omega), win_pell P (by omega)]
  have lo := P.lo
  have hi := P.hi
  have u1 : 0 < h * q := Int.mul_pos hh P.q
  have u2 : 0 < h * (5 * p - 7 * q) := Int.mul_pos hh (by omega)
  rw [Int.mul_sub, ← Int.mul_assoc, ← Int.mul_assoc, Int.mul_comm h 5, Int.mul_comm h 7, Int.mul_assoc, Int.mul_assoc] at u2
  simp only [Int.sub_mul, Int.add_mul, Int.mul_assoc]
  obtain ⟨h1, h2, h3, h4, h5, h6, h7, h8⟩ := w
  by_cases k1 : c * q + e * p ≤ a * q + b * p
  · by_cases k2 : -(c * q + e * p) ≤ a * q + b * p
    · exact .inr (.inl ⟨by omega, by omega, by omega, by omega, by omega, by omega, by omega, by omega⟩)
    · exact .inr (.inr (.inl ⟨by omega, by omega, by omega, by omega, by omega, by omega, by omega, by omega⟩))
  · by_cases k2 : -(c * q + e * p) ≤ a * q + b * p
    · exact .inr (.inr (.inr ⟨by omega, by omega, by omega, by omega, by omega, by omega, by omega, by omega⟩))
    · exact .inl ⟨by omega, by omega, by omega, by omega, by omega, by omega, by omega, by omega⟩
/-! ### three directions one behind the other: one of them is a side -/
section
variable {X Y U V : Int}
theorem WinL.out (n : ¬ WinL X Y U V) : U + V ≤ X ∨ X ≤ -(U + V) ∨ U + V ≤ Y ∨ Y ≤ -(U + V) ∨ 2 * U + V ≤ X + Y ∨ X + Y ≤ -(2 * U + V) ∨ 2 * U + V ≤ X - Y ∨ X - Y ≤ -(2 * U + V) := by
  refine Classical.byContradiction fun h => n ?_
  exact ⟨by omega, by omega, by omega, by omega, by omega, by omega, by omega, by omega⟩
theorem WinL.out0 (w : WinL X Y U V) (u : 0 < U) (v : 0 < V) (n : ¬ WinL (X + 2 * U) Y U V) : U + V ≤ X + 2 * U ∨ 2 * U + V ≤ X + 2 * U + Y ∨ 2 * U + V ≤ X + 2 * U - Y := by
  obtain ⟨h1, h2, h3, h4, h5, h6, h7, h8⟩ := w
  have := WinL.out n
  omega
theorem WinL.out1 (w : WinL X Y U V) (u : 0 < U) (v : 0 < V) (n : ¬ WinL (X - V) (Y + V) U V) : X - V ≤ -(U + V) ∨ U + V ≤ Y + V ∨ X - Y - 2 * V ≤ -(2 * U + V) := by
  obtain ⟨h1, h2, h3, h4, h5, h6, h7, h8⟩ := w
  have := WinL.out n
  omega
theorem WinL.out2 (w : WinL X Y U V) (u : 0 < U) (v : 0 < V) (n : ¬ WinL X (Y - 2 * U) U V) : Y - 2 * U ≤ -(U + V) ∨ X + Y - 2 * U ≤ -(2 * U + V) ∨ 2 * U + V ≤ X - Y + 2 * U := by
  obtain ⟨h1, h2, h3, h4, h5, h6, h7, h8⟩ := w
  have := WinL.out n
  omega
theorem WinL.out3 (w : WinL X Y U V) (u : 0 < U) (v : 0 < V) (n : ¬ WinL (X + V) (Y + V) U V) : U + V ≤ X + V ∨ U + V ≤ Y + V ∨ 2 * U + V ≤ X + Y + 2 * V := by
  obtain ⟨h1, h2, h3, h4, h5, h6, h7, h8⟩ := w
  have := WinL.out n
  omega
theorem WinL.out4 (w : WinL X Y U V) (u : 0 < U) (v : 0 < V) (n : ¬ WinL (X - 2 * U) Y U V) : X - 2 * U ≤ -(U + V) ∨ X - 2 * U + Y ≤ -(2 * U + V) ∨ X - 2 * U - Y ≤ -(2 * U + V) := by
  obtain ⟨h1, h2, h3, h4, h5, h6, h7, h8⟩ := w
  have := WinL.out n
  omega
theorem WinL.out5 (w : WinL X Y U V) (u : 0 < U) (v : 0 < V) (n : ¬ WinL (X + V) (Y - V) U V) : U + V ≤ X + V ∨ Y - V ≤ -(U + V) ∨ 2 * U + V ≤ X - Y + 2 * V := by
  obtain ⟨h1, h2, h3, h4, h5, h6, h7, h8⟩ := w
  have := WinL.out n
  omega
theorem WinL.out6 (w : WinL X Y U V) (u : 0 < U) (v : 0 < V) (n : ¬ WinL X (Y + 2 * U) U V) : U + V ≤ Y + 2 * U ∨ 2 * U + V ≤ X + Y + 2 * U ∨ X - Y - 2 * U ≤ -(2 * U + V) := by
  obtain ⟨h1, h2, h3, h4, h5, h6, h7, h8⟩ := w
  have := WinL.out n
  omega
theorem WinL.out7 (w : WinL X Y U V) (u : 0 < U) (v : 0 < V) (n : ¬ WinL (X - V) (Y - V) U V) : X - V ≤ -(U + V) ∨ Y - V ≤ -(U + V) ∨ X + Y - 2 * V ≤ -(2 * U + V) := by
  obtain ⟨h1, h2, h3, h4, h5, h6, h7, h8⟩ := w
  have := WinL.out n
  omega
theorem WinL.gap0 (w : WinL X Y U V) (u : 0 < U) (lo : 7 * U < 5 * V) (hi : 2 * V ≤ 3 * U) : WinL (X + 2 * U) Y U V ∨ WinL (X - V) (Y + V) U V ∨ WinL X (Y - 2 * U) U V := by
  refine Classical.byContradiction fun h => ?_
  have a := w.out0 u (by omega) fun z => h (.inl z)
  have b := w.out1 u (by omega) fun z => h (.inr (.inl z))
  have c := w.out2 u (by omega) fun z => h (.inr (.inr z))
  obtain ⟨h1, h2, h3, h4, h5, h6, h7, h8⟩ := w
  omega
theorem WinL.gap1 (w : WinL X Y U V) (u : 0 < U) (lo : 7 * U < 5 * V) (hi : 2 * V ≤ 3 * U) : WinL (X - V) (Y + V) U V ∨ WinL X (Y - 2 * U) U V ∨ WinL (X + V) (Y + V) U V := by
  refine Classical.byContradiction fun h => ?_
  have a := w.out1 u (by omega) fun z => h (.inl z)
  have b := w.out2 u (by omega) fun z => h (.inr (.inl z))
  have c := w.out3 u (by omega) fun z => h (.inr (.inr z))
  obtain ⟨h1, h2, h3, h4, h5, h6, h7, h8⟩ := w
  omega
theorem WinL.gap2 (w : WinL X Y U V) (u : 0 < U) (lo : 7 * U < 5 * V) (hi : 2 * V ≤ 3 * U) : WinL X (Y - 2 * U) U V ∨ WinL (X + V) (Y + V) U V ∨ WinL (X - 2 * U) Y U V := by
  refine Classical.byContradiction fun h => ?_
  have a := w.out2 u (by omega) fun z => h (.inl z)
  have b := w.out3 u (by omega) fun z => h (.inr (.inl z))
  have c := w.out4 u (by omega) fun z => h (.inr (.inr z))
  obtain ⟨h1, h2, h3, h4, h5, h6, h7, h8⟩ := w
  omega
theorem WinL.gap3 (w : WinL X Y U V) (u : 0 < U) (lo : 7 * U < 5 * V) (hi : 2 * V ≤ 3 * U) : WinL (X + V) (Y + V) U V ∨ WinL (X - 2 * U) Y U V ∨ WinL (X + V) (Y - V) U V := by
  refine Classical.byContradiction fun h => ?_
  have a := w.out3 u (by omega) fun z => h (.inl z)
  have b := w.out4 u (by omega) fun z => h (.inr (.inl z))
  have c := w.out5 u (by omega) fun z => h (.inr (.inr z))
  obtain ⟨h1, h2, h3, h4, h5, h6, h7, h8⟩ := w
  omega
theorem WinL.gap4 (w : WinL X Y U V) (u : 0 < U) (lo : 7 * U < 5 * V) (hi : 2 * V ≤ 3 * U) : WinL (X - 2 * U) Y U V ∨ WinL (X + V) (Y - V) U V ∨ WinL X (Y + 2 * U) U V := by
  refine Classical.byContradiction fun h => ?_
  have a := w.out4 u (by omega) fun z => h (.inl z)
  have b := w.out5 u (by omega) fun z => h (.inr (.inl z))
  have c := w.out6 u (by omega) fun z => h (.inr (.inr z))
  obtain ⟨h1, h2, h3, h4, h5, h6, h7, h8⟩ := w
  omega
theorem WinL.gap5 (w : WinL X Y U V) (u : 0 < U) (lo : 7 * U < 5 * V) (hi : 2 * V ≤ 3 * U) : WinL (X + V) (Y - V) U V ∨ WinL X (Y + 2 * U) U V ∨ WinL (X - V) (Y - V) U V := by
  refine Classical.byContradiction fun h => ?_
  have a := w.out5 u (by omega) fun z => h (.inl z)
  have b := w.out6 u (by omega) fun z => h (.inr (.inl z))
  have c := w.out7 u (by omega) fun z => h (.inr (.inr z))
  obtain ⟨h1, h2, h3, h4, h5, h6, h7, h8⟩ := w
  omega
theorem WinL.gap6 (w : WinL X Y U V) (u : 0 < U) (lo : 7 * U < 5 * V) (hi : 2 * V ≤ 3 * U) : WinL X (Y + 2 * U) U V ∨ WinL (X - V) (Y - V) U V ∨ WinL (X + 2 * U) Y U V := by
  refine Classical.byContradiction fun h => ?_
  have a := w.out6 u (by omega) fun z => h (.inl z)
  have b := w.out7 u (by omega) fun z => h (.inr (.inl z))
  have c := w.out0 u (by omega) fun z => h (.inr (.inr z))
  obtain ⟨h1, h2, h3, h4, h5, h6, h7, h8⟩ := w
  omega
theorem WinL.gap7 (w : WinL X Y U V) (u : 0 < U) (lo : 7 * U < 5 * V) (hi : 2 * V ≤ 3 * U) : WinL (X - V) (Y - V) U V ∨ WinL (X + 2 * U) Y U V ∨ WinL (X - V) (Y + V) U V := by
  refine Classical.byContradiction fun h => ?_
  have a := w.out7 u (by omega) fun z => h (.inl z)
  have b := w.out0 u (by omega) fun z => h (.inr (.inl z))
  have c := w.out1 u (by omega) fun z => h (.inr (.inr z))
  obtain ⟨h1, h2, h3, h4, h5, h6, h7, h8⟩ := w
  omega
end
end L2.My

/-! W15: a op1 b op2 c op3 d. -/
namespace L2.My
open PySem PySem.Spec PyProof.Rows
section
variable {X : Cx} {a b c d : Expr} {ta tb tc td : TE} {pos : Pos}
/-- a op1 b op2 c op3 d -/
def tChain3 (r r' r'' : R2) (ta tb tc td : TE) : TE := fun σ H Q => ta σ H fun x H1 => tb σ H1 fun y H2 => r x y H2 fun z H3 => ∃ k, z = .bl k ∧
  (if k = true then tc σ H3 fun w' H4 => r' y w' H4 fun z2 H5 => ∃ k2, z2 = .bl k2 ∧ (if k2 = true then td σ H5 fun w'' H6 => r'' w' w'' H6 Q else Q (.bl false) H5) else Q (.bl false) H3)
theorem w_chain3 {r r' r'' : R2} {σ : L2.St} {H : Hp} {Q : VK} (q : ta σ H fun x H1 => tb σ H1 fun y H2 => r x y H2 fun z H3 => ∃ k, z = .bl k ∧
  (if k = true then tc σ H3 fun w' H4 => r' y w' H4 fun z2 H5 => ∃ k2, z2 = .bl k2 ∧ (if k2 = true then td σ H5 fun w'' H6 => r'' w' w'' H6 Q else Q (.bl false) H5) else Q (.bl false) H3)) : tChain3 r r' r'' ta tb tc td σ H Q := q
theorem pe_chain3 {op op' op'' : CmpOp} {r r' r'' : R2} (ho : OpR X (compareOp op) r) (ho' : OpR X (compareOp op') r') (ho'' : OpR X (compareOp op'') r'') (ha : PE X a ta) (hb : PE X b tb) (hc : PE X c tc) (hd : PE X d td)
    (hm : lastMarks [op, op', op''] [b, c, d] = false := by with_unfolding_all rfl) : PE X (.Compare a [op, op', op''] [b, c, d] pos) (tChain3 r r' r'' ta tb tc td) := by
  refine ⟨fun pins s σ H Q I h => ?_⟩
  refine Compare_chain (thn (ha.run pins s σ H _ I h) fun v s1 ⟨x, H1, I1, r1, q1⟩ => chain_link (thn (hb.run pins s1 σ H1 _ I1 q1) fun u s2 ⟨y, H2, I2, r2, q2⟩ =>
    thn (ho pins s2 σ H2 x y v u _ I2 r1 r2 q2) fun d s3 ⟨z, H3, I3, r3, k, e, q3⟩ => ?_)) hm
  subst e
  cases r3
  refine wpAny_truthy_bool ?_
  cases k with
  | false => exact ite_ff ⟨.bl false, H3, I3, rfl, q3⟩
  | true =>
    refine ite_tt (chain_link (thn (hc.run pins s3 σ H3 _ I3 q3) fun w1 s4 ⟨y2, H4, I4, r4, q4⟩ => thn (ho' pins s4 σ H4 y y2 u w1 _ I4 r2 r4 q4) fun d2 s5 ⟨z2, H5, I5, r5, k2, e2, q5⟩ => ?_))
    subst e2
    cases r5
    refine wpAny_truthy_bool ?_
    cases k2 with
    | false => exact ite_ff ⟨.bl false, H5, I5, rfl, q5⟩
    | true => exact ite_tt (chain_last (thn (hd.run pins s5 σ H5 _ I5 q5) fun w2 s6 ⟨y3, H6, I6, r6, q6⟩ => ho'' pins s6 σ H6 y2 y3 w1 w2 Q I6 r4 r6 q6))
end
/-! ### rules with the fragment told: a comprehension's context bears its own variables -/
theorem sl_tupZ {X : Cx} {K : PySem.W.Frag} (h : X.K = K) : SlR X (rSlA K) := by
  subst h
  exact sl_tupA
theorem op_catZ {X : Cx} {K : PySem.W.Frag} (h : X.K = K) : OpR X (binaryOp .Add) (rCatA K) := by
  subst h
  exact op_catA
theorem room65 {k : Nat} {A : Around} (r : Room k A) : A.units + 65 < cLine := by
  have := r.un
  omega
/-! ### walks over a list or a tuple -/
section
variable {X : Cx} {tg l : Expr} {w w' : TI} {tl : TE} {g : TG} {tb : TS} {D : Ends} {tt : TT} {te : TE} {ws : List Nat} {σ : L2.St} {H : Hp} {Q : VK}
def iOr (w w' : TI) : TI := fun σ H R => w σ H R ∨ w' σ H R
theorem PI.or (h : PI X tg l w) (h' : PI X tg l w') : PI X tg l (iOr w w') := ⟨fun pins s σ H R I q => q.elim (h.run pins s σ H R I) (h'.run pins s σ H R I)⟩
theorem pi_seq (hl : PE X l tl) : PI X tg l (iOr (iList X.K tl) (iTup X.K tl)) := PI.or (pi_list hl) (pi_tup hl)
theorem w_forOL (q : tFor w g tb D σ H) : tFor (iOr w w') g tb D σ H := .inl q
theorem w_forOT (q : tFor w' g tb D σ H) : tFor (iOr w w') g tb D σ H := .inr q
theorem w_lcOL (q : tLc w g tt te ws σ H Q) : tLc (iOr w w') g tt te ws σ H Q := .inl q
theorem w_lcOT (q : tLc w' g tt te ws σ H Q) : tLc (iOr w w') g tt te ws σ H Q := .inr q
end
end L2.My

/-! W16: fields in a comprehension. -/
namespace L2.My
open PySem PySem.Spec PyProof.Rows
section
variable {X : Cx} {e : Expr} {ta : TE} {pos : Pos} {f : Str} {K : PySem.W.Frag}
theorem pe_fldZ (h : X.K = K) (he : PE X e ta) (hb : attributeBase e f X.env (eval e X.env) = eval e X.env) : PE X (.Attribute e f pos) (tFld K ta f) := h ▸ pe_fld he hb
end
end L2.My

/-! W17: sorted of a list of data. -/
namespace L2.My
open PySem PySem.Spec PyProof.Rows
section
variable {X : Cx}
theorem each_rel {H : Hp} {pins : List (Addr × Obj)} {σ : St} {s : Shared} (I : Inv X pins σ H s) : ∀ {xs : List V} {ds : List PyData} {us : List Value}, Vals xs us → DpAll X.K H xs ds → PySem.W.EachIs (fun u (b : V × PyData) => RelV b.1 u ∧ ∃ as, Reads s.heap u b.2 as) us (xs.zip ds)
  | [], _, _, r, h => by
    cases h
    cases r
    exact .nil
  | x :: xs, _, _, r, h => by
    cases h with
    | cons hd ht =>
      cases r with
      | cons r1 rt => exact .cons ⟨r1, Dp.reads I _ _ _ hd r1⟩ (each_rel I rt ht)
theorem rel_each : ∀ {bs : List (V × PyData)} {us : List Value}, PySem.W.EachIs (fun u (b : V × PyData) => RelV b.1 u) us bs → Vals (bs.map Prod.fst) us
  | [], _, h => by
    cases h
    exact .nil
  | b :: bs, _, h => by
    cases h with
    | cons h1 ht => exact .cons h1 (rel_each ht)
theorem dp_len {K : PySem.W.Frag} {H : Hp} : ∀ {xs : List V} {ds : List PyData}, DpAll K H xs ds → xs.length = ds.length
  | [], _, h => by cases h; rfl
  | _ :: _, _, h => by
    cases h with
    | cons _ t => exact congrArg (· + 1) (dp_len t)
theorem zip_snd : ∀ {xs : List V} {ds : List PyData}, xs.length = ds.length → (xs.zip ds).map Prod.snd = ds
  | [], [], _ => rfl
  | x :: xs, d :: ds, h => by
    rw [List.zip_cons_cons, List.map_cons, zip_snd (Nat.succ.inj h)]
/-- the values xs, which read as ds, in order -/
def srtD (xs : List V) (ds : List PyData) : List (V × PyData) := (xs.zip ds).mergeSort (PySem.W.dataLe false Prod.snd)
def rSortedD (K : PySem.W.Frag) : List V → Hp → VK → Prop := fun vs H Q => ∃ a xs ds, vs = [.ref a] ∧ SqL K H a xs ∧ DpAll K H xs ds ∧ PySem.W.AllAlike ds ∧ PySem.W.Sortable ds ∧ (∀ d ∈ ds, d.depth ≤ 20) ∧
  ∀ p, H p = none → Q (.ref p) (upd H p (.lst ((srtD xs ds).map Prod.fst)))
theorem cr_sortedD (hu : X.A.units + 64 < cLine) : CallR X (.builtin "sorted") (rSortedD X.K) := by
  intro pins s σ H vs us Q I r h
  obtain ⟨a, xs, ds, rfl, hs, hd, al, so, hde, q⟩ := h
  obtain ⟨its, rv, hl, hz⟩ := I.list hs
  rw [Vals.ref1 r]
  have e := each_rel I rv hd
  have hzs := zip_snd (dp_len hd)
  have hlz : (xs.zip ds).length = xs.length := by rw [List.length_zip, ← dp_len hd, Nat.min_self]
  refine PySem.W.sorted_data (R := fun u (b : V × PyData) => RelV b.1 u) (bs := xs.zip ds) (enc := Prod.snd) hl.isList (e.mono fun _ _ h => h.1) (e.mono fun _ _ h => h.2) (by rw [hzs]; exact al) (by rw [hzs]; exact so) (by rw [hlz]; exact hz) (fun b hb => ?_) fun out ho hout => ?_
  · have : b.2 ∈ ds := by
      rw [← hzs]
      exact List.mem_map.mpr ⟨b, hb, rfl⟩
    have := hde _ this
    omega
  · obtain ⟨ep, he'⟩ := PyProof.Rows.sortedAll_at s.heap its out.toArray
    have hv := rel_each hout
    have hlen : ((srtD xs ds).map Prod.fst).length ≤ sizeLine := by
      rw [List.length_map]
      unfold srtD
      rw [List.length_mergeSort, hlz]
      exact hz
    exact ⟨.ref _, upd H (s.heap.objs.size + 1) (.lst ((srtD xs ds).map Prod.fst)), I.laid (t' := s.toks) (fun _ _ => PyProof.Rows.sortedAll_old) (Nat.le_succ _) ⟨hlen, out, ep, hv, he'⟩, rfl, q _ (I.hok.fresh (Nat.le_succ _))⟩
end
/-- the order of data: a value with what it reads as -/
theorem srtD_perm {xs : List V} {ds : List PyData} : (srtD xs ds).Perm (xs.zip ds) := List.mergeSort_perm _ _
end L2.My

/-! W18: a dict display of one pair, its key a tuple of ints and texts. -/
namespace L2.My
open PySem PySem.Spec PyProof.Rows
section
variable {X : Cx} {k v : Expr} {tk tv : TE} {pos : Pos}
def tDispT (tk tv : TE) : TE := fun σ H Q => ∀ p, H p = none → tk σ (upd H p (.dT [])) fun x H1 => tv σ H1 fun y H2 => H2 p = some (.dT []) ∧ ∃ (b : Addr) (kk : List L2.Key), x = .ref b ∧ H2 b = some (.tup (kk.map kV)) ∧ Q (.ref p) (upd H2 p (.dT [(kk, y)]))
theorem w_dispT {σ : L2.St} {H : Hp} {Q : VK} (q : ∀ p, H p = none → tk σ (upd H p (.dT [])) fun x H1 => tv σ H1 fun y H2 => H2 p = some (.dT []) ∧ ∃ (b : Addr) (kk : List L2.Key), x = .ref b ∧ H2 b = some (.tup (kk.map kV)) ∧ Q (.ref p) (upd H2 p (.dT [(kk, y)]))) : tDispT tk tv σ H Q := q
theorem pe_dispT (hu : X.A.units + 64 < cLine) (hk : PE X k tk) (hv : PE X v tv) : PE X (.Dict [some k] [v] pos) (tDispT tk tv) := by
  refine ⟨fun pins s σ H Q I q => ?_⟩
  have hn := I.hok.fresh (Nat.le_refl s.heap.objs.size)
  have I1 := I.laid (a := s.heap.objs.size) (o := .dT []) (h' := s.heap.push { cls := .type "dict", data := .dict #[] }) (t' := s.toks) (fun _ _ q => Heap.get?_push_of_some _ q) (Nat.le_refl _) (dt_empty s.heap I.big)
  have hl := pairTrees_length [some k] [v] X.env pos rfl rfl
  have hl1 : (pairTrees [some k] [v] X.env pos).length = 1 := hl
  rw [arm_eval_Dict, zip_pairTrees [some k] [v] X.env pos rfl rfl, dictDisplay_pairs _ (by intro e; rw [e] at hl1; cases hl1) (by omega)]
  refine wpAny_bind (wpAny_standAt (wpAny_bind (wpAny_subDictH (knd := tupleKind (mixKind X.prog X.w)) (show X.A.units < cLine by omega) (by omega) ?_)))
  refine pairTrees_cons_walk (thn (hk.run pins _ σ _ _ I1 (q _ hn)) fun u s1 ⟨x, H1, I1, rx, q1⟩ => thn (hv.run pins s1 σ H1 _ I1 q1) fun w2 s2 ⟨y, H2, I2, ry, e, b, kk, ex, eb, q2⟩ => pairTrees_nil_walk ?_)
  subst ex
  cases (show u = Value.ref b from rx)
  obtain ⟨z, hd, xs, rel, dd⟩ := dt_of I2.hok e
  cases rel
  refine ⟨[(kk, b, w2)], ⟨rfl, rfl, key_of I2.hok eb, trivial⟩, dd, fun h' tk' dd' hs => wpAny_pure ?_⟩
  obtain ⟨q', es, ep, hq, h2, h3, h4, _, h5⟩ := dd'
  have hz : [(kk, y)].length ≤ sizeLine := by
    rw [sizeLine_eq]
    exact Nat.le_of_ble_eq_true rfl
  have rel0 : KT H2 [] [] := .nil
  refine ⟨.ref s.heap.objs.size, upd H2 s.heap.objs.size (.dT [(kk, y)]), d_write I2 (by rw [e]; exact True.intro) hs ⟨q', hq⟩ ⟨hz, hd, _, (rel0.put kk eb ry).keeps fun c ys ec => ?_, q', es, ep, hq, h2, h3, h4, h5⟩, rfl, q2⟩
  rw [upd_ne (ne_of ec e (fun z => nomatch z))]
  exact ec
end
end L2.My

/-! W19: steps for dicts with tuple keys; lists sorted by data; few numbers below a bound. -/
namespace L2.My
open PySem PySem.Spec PyProof.Rows
def DninP (x y : V) (H : Hp) (Q : VK) : Prop := ∃ a o, x = .ref a ∧ DGet H a y o ∧ Q (.bl (!o.isSome)) H
theorem w_dnin {ty td : TE} {σ : L2.St} {H : Hp} {Q : VK} (q : ty σ H fun y H1 => td σ H1 fun x H2 => DninP x y H2 Q) : tDNotIn ty td σ H Q := q
theorem k_dninT {a b : Addr} {kvs : List (List L2.Key × V)} {k : List L2.Key} {H : Hp} {Q : VK} (h : H a = some (.dT kvs)) (hb : H b = some (.tup (k.map kV))) (q : Q (.bl (!(valV kvs k).isSome)) H) : DninP (.ref a) (.ref b) H Q := ⟨a, _, rfl, DGet.t h hb, q⟩
def DputP (x y v : V) (H : Hp) (N : Hp → Prop) : Prop := ∃ a H4, x = .ref a ∧ DPut H a y v H4 ∧ N H4
theorem w_dput {td ty tv : TE} {nx bk ct : L2.St → Hp → Prop} {rt : VK} {σ : L2.St} {H : Hp} (q : tv σ H fun v H1 => td σ H1 fun x H2 => ty σ H2 fun y H3 => DputP x y v H3 (nx σ)) : sDPut td ty tv ⟨nx, rt, bk, ct⟩ σ H := q
theorem k_dputT {a b : Addr} {kvs : List (List L2.Key × V)} {k : List L2.Key} {v : V} {H : Hp} {N : Hp → Prop} (h : H a = some (.dT kvs)) (hb : H b = some (.tup (k.map kV))) (hl : kvs.length < sizeLine) (q : N (upd H a (.dT (putK kvs k v)))) : DputP (.ref a) (.ref b) v H N := ⟨a, _, rfl, DPut.t h hb hl, q⟩
/-- all but tracked lists and dicts with tuple keys stays -/
def Kpt (H H' : Hp) : Prop := ∀ b o, (∀ xs, o ≠ .lst xs) → (∀ ks, o ≠ .dT ks) → H b = some o → H' b = some o
theorem Kpt.refl (H : Hp) : Kpt H H := fun _ _ _ _ h => h
theorem Kpt.trans {A B C : Hp} (h : Kpt A B) (k : Kpt B C) : Kpt A C := fun b o n m e => k b o n m (h b o n m e)
theorem Kpt.same {A B : Hp} (h : Same A B) : Kpt A B := fun b o _ _ e => h b o e
theorem Kpt.kps {A B : Hp} (h : Kps A B) : Kpt A B := fun b o n _ e => h b o n e
theorem Kpt.tup {A B : Hp} (h : Kpt A B) {a : Addr} {xs : List V} (e : A a = some (.tup xs)) : B a = some (.tup xs) := h _ _ (by intro xs z; cases z) (by intro xs z; cases z) e
theorem Kpt.updL {A : Hp} {p : Addr} {xs : List V} {o : HO} (h : A p = some (.lst xs)) : Kpt A (upd A p o) := fun b o' n _ e => by rw [upd_ne (fun z => by rw [z, h] at e; cases e; exact n _ rfl)]; exact e
theorem Kpt.updD {A : Hp} {p : Addr} {ks : List (List L2.Key × V)} {o : HO} (h : A p = some (.dT ks)) : Kpt A (upd A p o) := fun b o' _ m e => by rw [upd_ne (fun z => by rw [z, h] at e; cases e; exact m _ rfl)]; exact e
/-- unlike numbers below a bound are few -/
theorem nodup_lt : ∀ (n : Nat) (l : List Nat), l.Nodup → (∀ x ∈ l, x < n) → l.length ≤ n
  | 0, l, _, h => by
    cases l with
    | nil => exact Nat.le_refl _
    | cons x l => exact absurd (h x (by simp)) (by omega)
  | n + 1, l, d, h => by
    by_cases m : n ∈ l
    · have := nodup_lt n (l.erase n) (d.erase _) fun x hx => by
        have h1 := (d.mem_erase_iff).mp hx
        have := h x h1.2
        have h2 := h1.1
        omega
      rw [List.length_erase_of_mem m] at this
      omega
    · have := nodup_lt n l d fun x hx => by
        have h1 := h x hx
        have : x ≠ n := fun z => m (z ▸ hx)
        omega
      omega
/-- a row of unlike things that a number below a bound tells apart is short -/
theorem nodup_few {α : Type} {l : List α} {n : Nat} (f : α → Nat) (d : l.Nodup) (h : ∀ x ∈ l, f x < n) (inj : ∀ x ∈ l, ∀ y ∈ l, f x = f y → x = y) : l.length ≤ n := by
  have := nodup_lt n (l.map f) ?_ ?_
  · rwa [List.length_map] at this
  · exact (List.pairwise_map).mpr (d.imp_of_mem fun hx hy n z => n (inj _ hx _ hy z))
  · intro x hx
    obtain ⟨y, hy, rfl⟩ := List.mem_map.mp hx
    exact h y hy
end L2.My

/-! W20: t.index(x) of a tuple of ints. -/
namespace L2.My
open PySem PySem.Spec PyProof.Rows
theorem flat_intsW (ys : List Int) : (ys.map V.int).all flatV = true := by
  rw [List.all_map]
  exact List.all_eq_true.mpr fun _ _ => rfl
section
variable {X : Cx}
def rTupIx (K : PySem.W.Frag) : V → List V → Hp → VK → Prop := fun x xs H Q => ∃ (p : Addr) (ys : List Int) (z : Int) (j : Nat), x = .ref p ∧ xs = [.int z] ∧ SqT K H p (ys.map V.int) ∧ ys[j]? = some z ∧ (∀ m, m < j → ys[m]? ≠ some z) ∧ Q (.int (j : Nat)) H
theorem mt_tupIx : MtR X "tuple.index" (rTupIx X.K) := by
  intro pins s σ H x xs v us Q I rx rs h
  obtain ⟨p, ys, z, j, rfl, rfl, hq, hy, hno, q⟩ := h
  cases rx
  obtain ⟨u, rfl, t, rfl⟩ := vals1 rs
  obtain ⟨its, r, pl, hz⟩ := I.tuple hq
  obtain ⟨⟨cls, dd, dt, sl⟩, ho, hc, n, hd⟩ := pl
  simp only at hc hd
  subst hc
  subst hd
  have hl : its.toArray.size = ys.length := by rw [List.size_toArray, ← r.length, List.length_map]
  have hj : j < its.toArray.size := by rw [hl]; exact (List.getElem?_eq_some_iff.mp hy).1
  have at' : ∀ (m : Nat) (hm : m < its.toArray.size), ∃ y t', ys[m]? = some y ∧ its.toArray[m] = Value.int y t' := fun m hm => by
    have hm' : m < ys.length := by rw [← hl]; exact hm
    obtain ⟨w, hw, t', hw'⟩ := r.get (i := m) (x := .int ys[m]) (by simp [hm'])
    refine ⟨ys[m], t', List.getElem?_eq_getElem hm', ?_⟩
    have e := (List.getElem?_eq_some_iff.mp hw).2
    rw [← hw', ← e]
    simp
  refine call_meets PySem.F.slot_tuple_index ⟨_, ho, rfl⟩ PySem.F.entry_tuple_index (PySem.F.args_tuple_index_2 _ _) (TI.tuple_indexAt p its.toArray n dd sl (.int z t) (eqU (.int z)) j hj ?_ ?_)
    ⟨ho, fun w hw => mem_eqAt (x := .int z) ⟨t, rfl⟩ rfl r (flat_intsW ys) w (by simpa using hw), ⟨.int (j : Nat), H, I.tok _, ⟨_, rfl⟩, q⟩⟩
  · obtain ⟨y, t', h1, h2⟩ := at' j hj
    rw [hy] at h1
    cases h1
    rw [h2]
    show (z == z) = true
    exact beq_self_eq_true z
  · intro m hm hmj
    obtain ⟨y, t', h1, h2⟩ := at' m hm
    rw [h2]
    show (y == z) = false
    exact beq_eq_false_iff_ne.mpr fun e => hno m hmj (e ▸ h1)
end
end L2.My

/-! W21: the tiles about a corner close, and lie between sides one behind the other (the window's numbers, linear). -/
namespace L2.My
/-- the direction d among the eight, in the window's numbers -/
def gX (U V X : Int) (d : Nat) : Int := match d with
  | 0 => X + 2 * U | 1 => X - V | 2 => X | 3 => X + V | 4 => X - 2 * U | 5 => X + V | 6 => X | _ => X - V
def gY (U V Y : Int) (d : Nat) : Int := match d with
  | 0 => Y | 1 => Y + V | 2 => Y - 2 * U | 3 => Y + V | 4 => Y | 5 => Y - V | 6 => Y + 2 * U | _ => Y - V
/-- the corner, the next ones, and the one that comes by both -/
def clo1 (X Y U V : Int) (d e : Nat) : Prop := WinL X Y U V → WinL (gX U V X d) (gY U V Y d) U V → WinL (gX U V X e) (gY U V Y e) U V → WinL (gX U V (gX U V X d) e) (gY U V (gY U V Y d) e) U V
theorem clo_one {X Y U V : Int} (u : 0 < U) (lo : 7 * U < 5 * V) (hi : 2 * V ≤ 3 * U) : ∀ d, d < 8 → clo1 X Y U V d ((d + 1) % 8) := by
  intro d hd h0 h1 h2
  have cs : d = 0 ∨ d = 1 ∨ d = 2 ∨ d = 3 ∨ d = 4 ∨ d = 5 ∨ d = 6 ∨ d = 7 := by omega
  rcases cs with rfl | rfl | rfl | rfl | rfl | rfl | rfl | rfl
  all_goals
    obtain ⟨a1, a2, a3, a4, a5, a6, a7, a8⟩ := h0
    obtain ⟨b1, b2, b3, b4, b5, b6, b7, b8⟩ := h1
    obtain ⟨c1, c2, c3, c4, c5, c6, c7, c8⟩ := h2
    simp only [gX, gY, Nat.reduceAdd, Nat.reduceMod] at *
    constructor <;> omega
/-- not on the rim -/
structure Off (X Y U V : Int) : Prop where
  x1 : X ≠ U + V
  x2 : X ≠ -(U + V)
  y1 : Y ≠ U + V
  y2 : Y ≠ -(U + V)
  s1 : X + Y ≠ 2 * U + V
  s2 : X + Y ≠ -(2 * U + V)
  d1 : X - Y ≠ 2 * U + V
  d2 : X - Y ≠ -(2 * U + V)
theorem out_off {X Y U V : Int} (n : ¬ WinL X Y U V) (f : Off X Y U V) : U + V < X ∨ X < -(U + V) ∨ U + V < Y ∨ Y < -(U + V) ∨ 2 * U + V < X + Y ∨ X + Y < -(2 * U + V) ∨ 2 * U + V < X - Y ∨ X - Y < -(2 * U + V) := by
  obtain ⟨f1, f2, f3, f4, f5, f6, f7, f8⟩ := f
  have := WinL.out n
  omega
theorem clo_two {X Y U V : Int} (u : 0 < U) (lo : 7 * U < 5 * V) (hi : 2 * V ≤ 3 * U) : ∀ d, d < 8 → ¬ WinL (gX U V X ((d + 1) % 8)) (gY U V Y ((d + 1) % 8)) U V → Off (gX U V X ((d + 1) % 8)) (gY U V Y ((d + 1) % 8)) U V → clo1 X Y U V d ((d + 2) % 8) := by
  intro d hd n f h0 h1 h2
  have v : 0 < V := by omega
  have o := out_off n f
  clear n f
  have cs : d = 0 ∨ d = 1 ∨ d = 2 ∨ d = 3 ∨ d = 4 ∨ d = 5 ∨ d = 6 ∨ d = 7 := by omega
  rcases cs with rfl | rfl | rfl | rfl | rfl | rfl | rfl | rfl
  all_goals
    obtain ⟨a1, a2, a3, a4, a5, a6, a7, a8⟩ := h0
    obtain ⟨b1, b2, b3, b4, b5, b6, b7, b8⟩ := h1
    obtain ⟨c1, c2, c3, c4, c5, c6, c7, c8⟩ := h2
    simp only [gX, gY, Nat.reduceAdd, Nat.reduceMod] at *
    constructor <;> omega
theorem clo_three {X Y U V : Int} (u : 0 < U) (lo : 7 * U < 5 * V) (hi : 2 * V ≤ 3 * U) : ∀ d, d < 8 → ¬ WinL (gX U V X ((d + 1) % 8)) (gY U V Y ((d + 1) % 8)) U V → ¬ WinL (gX U V X ((d + 2) % 8)) (gY U V Y ((d + 2) % 8)) U V → Off (gX U V X ((d + 1) % 8)) (gY U V Y ((d + 1) % 8)) U V → Off (gX U V X ((d + 2) % 8)) (gY U V Y ((d + 2) % 8)) U V → clo1 X Y U V d ((d + 3) % 8) := by
  intro d hd n m f f2 h0 h1 h2
  have v : 0 < V := by omega
  have o := out_off n f
  have o2 := out_off m f2
  clear n m f f2
  have cs : d = 0 ∨ d = 1 ∨ d = 2 ∨ d = 3 ∨ d = 4 ∨ d = 5 ∨ d = 6 ∨ d = 7 := by omega
  rcases cs with rfl | rfl | rfl | rfl | rfl | rfl | rfl | rfl
  all_goals
    obtain ⟨a1, a2, a3, a4, a5, a6, a7, a8⟩ := h0
    obtain ⟨b1, b2, b3, b4, b5, b6, b7, b8⟩ := h1
    obtain ⟨c1, c2, c3, c4, c5, c6, c7, c8⟩ := h2
    simp only [gX, gY, Nat.reduceAdd, Nat.reduceMod] at *
    constructor <;> omega
/-- a tile of the floor: no side lies within it -/
def in4 (X Y U V : Int) (d e : Nat) : Prop := WinL X Y U V ∧ WinL (gX U V X d) (gY U V Y d) U V ∧ WinL (gX U V X e) (gY U V Y e) U V ∧ WinL (gX U V (gX U V X d) e) (gY U V (gY U V Y d) e) U V
theorem non_two {X Y U V : Int} (u : 0 < U) (lo : 7 * U < 5 * V) (hi : 2 * V ≤ 3 * U) : ∀ d, d < 8 → in4 X Y U V d ((d + 2) % 8) → ¬ WinL (gX U V X ((d + 1) % 8)) (gY U V Y ((d + 1) % 8)) U V := by
  intro d hd ⟨h0, h1, h2, h3⟩ n
  have v : 0 < V := by omega
  have cs : d = 0 ∨ d = 1 ∨ d = 2 ∨ d = 3 ∨ d = 4 ∨ d = 5 ∨ d = 6 ∨ d = 7 := by omega
  rcases cs with rfl | rfl | rfl | rfl | rfl | rfl | rfl | rfl
  all_goals
    obtain ⟨a1, a2, a3, a4, a5, a6, a7, a8⟩ := h0
    obtain ⟨b1, b2, b3, b4, b5, b6, b7, b8⟩ := h1
    obtain ⟨c1, c2, c3, c4, c5, c6, c7, c8⟩ := h2
    obtain ⟨e1, e2, e3, e4, e5, e6, e7, e8⟩ := h3
    obtain ⟨f1, f2, f3, f4, f5, f6, f7, f8⟩ := n
    simp only [gX, gY, Nat.reduceAdd, Nat.reduceMod] at *
    omega
theorem non_three {X Y U V : Int} (u : 0 < U) (lo : 7 * U < 5 * V) (hi : 2 * V ≤ 3 * U) : ∀ d, d < 8 → in4 X Y U V d ((d + 3) % 8) → ¬ WinL (gX U V X ((d + 1) % 8)) (gY U V Y ((d + 1) % 8)) U V ∧ ¬ WinL (gX U V X ((d + 2) % 8)) (gY U V Y ((d + 2) % 8)) U V := by
  intro d hd ⟨h0, h1, h2, h3⟩
  have v : 0 < V := by omega
  have cs : d = 0 ∨ d = 1 ∨ d = 2 ∨ d = 3 ∨ d = 4 ∨ d = 5 ∨ d = 6 ∨ d = 7 := by omega
  rcases cs with rfl | rfl | rfl | rfl | rfl | rfl | rfl | rfl
  all_goals
    obtain ⟨a1, a2, a3, a4, a5, a6, a7, a8⟩ := h0
    obtain ⟨b1, b2, b3, b4, b5, b6, b7, b8⟩ := h1
    obtain ⟨c1, c2, c3, c4, c5, c6, c7, c8⟩ := h2
    obtain ⟨e1, e2, e3, e4, e5, e6, e7, e8⟩ := h3
    constructor
    all_goals
      intro n
      obtain ⟨f1, f2, f3, f4, f5, f6, f7, f8⟩ := n
      simp only [gX, gY, Nat.reduceAdd, Nat.reduceMod] at *
      omega
end L2.My

/-! W22: a comprehension over a zip of two lists. -/
namespace L2.My
open PySem PySem.Spec PyProof.Rows
section
variable {K : PySem.W.Frag} {σ : L2.St} {H : Hp} {Q : VK} {a b : Addr} {xs ys : List V} {te : TE} {ws : List Nat} {g : TG} {tt : TT}
theorem k_lcZL (Pv : Nat → Addr → Hp → Prop) (ha : H a = some (.lst xs)) (hb : H b = some (.lst ys)) (e : xs.length = ys.length) (h0 : ∀ D, H D = none → Pv 0 D (upd H D (.lst []))) (hl : ∀ i D H', Pv i D H' → H' a = some (.lst xs) ∧ H' b = some (.lst ys))
    (hs : ∀ i x y D H T H', xs[i]? = some x → ys[i]? = some y → Pv i D H → H T = none → Same H H' → H' T = some (.tup [x, y]) → g (.ref T) (wipe σ ws) H' fun σ2 H2 => wipe σ2 ws = wipe σ ws ∧ tt σ2 H2 fun b H3 =>
      if b = true then te σ2 H3 fun z H4 => ∃ acc, H4 D = some (.lst acc) ∧ acc.length < sizeLine ∧ Pv (i + 1) D (upd H4 D (.lst (acc ++ [z]))) else Pv (i + 1) D H3) (hd : ∀ D H, Pv xs.length D H → Q (.ref D) H) : CompZT K g tt te ws σ [.ref a, .ref b] H Q := by
  refine ⟨a, b, xs, ys, rfl, .inl ⟨SqL.of ha, SqL.of hb, fun D hD => ⟨fun i m H => Pv i D H ∧ m + i = xs.length, ⟨xs.length, h0 D hD, rfl⟩, fun i m H ⟨q, em⟩ => ?_⟩⟩⟩
  obtain ⟨l1, l2⟩ := hl i D H q
  rcases Nat.lt_or_ge i xs.length with h | h
  · right
    have ex : xs[i]? = some xs[i] := List.getElem?_eq_getElem h
    have ey : ys[i]? = some (ys[i]'(by omega)) := List.getElem?_eq_getElem (by omega)
    refine ⟨⟨xs, ys, _, _, SqL.of l1, SqL.of l2, ex, ey⟩, Pv (i + 1) D, fun H' q' => ⟨m - 1, by omega, q', by omega⟩, ?_⟩
    rintro x H' ⟨T, x', y', rfl, hT, rfl, h1, h2⟩
    exact hs i x' y' D H T _ (h1 xs (SqL.of l1)) (h2 ys (SqL.of l2)) q hT (Same.new hT) upd_same
  · left
    obtain rfl : i = xs.length := by omega
    exact ⟨⟨xs, ys, SqL.of l1, SqL.of l2, .inl (Nat.le_refl _)⟩, hd D H q⟩
end
end L2.My

/-! W23: != of two lists, or two tuples, with the same things in them. -/
namespace L2.My
open PySem PySem.Spec PyProof.Rows
theorem eqV_refl {v : V} (h : flatV v = true) : eqV v v = true := by
  cases v with
  | non => rfl
  | bl b => cases b <;> rfl
  | int i => exact beq_self_eq_true i
  | str z => exact beq_self_eq_true z
  | _ => cases h
section
variable {X : Cx}
theorem same_items {A : Around} {s : Shared} {xs : List V} {us ws : List Value} (r : Vals xs us) (r2 : Vals xs ws) (hx : ∀ v ∈ xs, flatV v = true ∨ ∃ p, v = .ref p) (j : Nat) (h1 : j < us.toArray.size) (h2 : j < ws.toArray.size) : SeqAt.EqAt A s us.toArray[j] ws.toArray[j] true := by
  have l1 : j < us.length := by simpa using h1
  have hj : j < xs.length := by rw [r.length]; exact l1
  obtain ⟨u, hu, ru⟩ := r.get (i := j) (List.getElem?_eq_getElem hj)
  obtain ⟨w, hw, rw'⟩ := r2.get (i := j) (List.getElem?_eq_getElem hj)
  have e1 : us.toArray[j] = u := by simpa using (List.getElem?_eq_some_iff.mp hu).2
  have e2 : ws.toArray[j] = w := by simpa using (List.getElem?_eq_some_iff.mp hw).2
  rw [e1, e2]
  rcases hx _ (List.getElem_mem hj) with f | ⟨p, e⟩
  · have := eqAt_V (A := A) (s := s) ru rw' f f
    rwa [eqV_refl f] at this
  · rw [e] at ru rw'
    cases ru
    cases rw'
    exact SeqAt.EqAt.same _
/-- two lists, or two tuples, of the same things -/
def rNeSame (K : PySem.W.Frag) : R2 := fun x y H Q => ∃ a b xs, x = .ref a ∧ y = .ref b ∧ (SqL K H a xs ∧ SqL K H b xs ∨ SqT K H a xs ∧ SqT K H b xs) ∧ (∀ v ∈ xs, flatV v = true ∨ ∃ p, v = .ref p) ∧ Q (.bl false) H
theorem op_neSame (hu : X.A.units + 64 < cLine) : OpR X (compareOp .NotEq) (rNeSame X.K) := by
  intro pins s σ H x y v u Q I rx ry h
  obtain ⟨a, b, xs, rfl, rfl, hab, hx, q⟩ := h
  cases rx
  cases ry
  rcases hab with ⟨ha, hb⟩ | ⟨ha, hb⟩
  · obtain ⟨its, r, pl, hz⟩ := I.list ha
    obtain ⟨its2, r2, pl2, hz2⟩ := I.list hb
    have l1 := r.length
    have l2 := r2.length
    have hsz : its.toArray.size = its2.toArray.size := by rw [List.size_toArray, List.size_toArray]; omega
    refine SeqAt.RcNeAt.lists (e := fun _ => true) pl.isList pl2.isList hsz (by omega) (fun j h1 h2 => same_items r r2 hx j h1 h2) _ _ _ _ ⟨.bl _, H, I, rfl, ?_⟩
    rw [show (!(List.range its.toArray.size).all fun _ => true) = false by simp]
    exact q
  · obtain ⟨its, r, pl, hz⟩ := I.tuple ha
    obtain ⟨its2, r2, pl2, hz2⟩ := I.tuple hb
    have l1 := r.length
    have l2 := r2.length
    have hsz : its.toArray.size = its2.toArray.size := by rw [List.size_toArray, List.size_toArray]; omega
    refine SeqAt.RcNeAt.tuples (e := fun _ => true) pl pl2 (by omega) (fun j h1 h2 => same_items r r2 hx j h1 h2) _ _ _ _ ⟨.bl _, H, I, rfl, ?_⟩
    rw [hsz]
    simp only [beq_self_eq_true, Bool.and_true]
    rw [show (!(List.range (min its2.toArray.size its2.toArray.size)).all fun _ => true) = false by simp]
    exact q
end
theorem w_repL {H : Hp} {Q : VK} {l : Addr} {k : Int} {xs : List V} (h : H l = some (.lst xs)) (k0 : 0 ≤ k) (k9 : k ≤ 1000) (hl : xs.length * k.toNat ≤ 1000) (q : ∀ p H2, H p = none → Same H H2 → H2 p = some (.lst (List.replicate k.toNat xs).flatten) → Q (.ref p) H2) : rRep (.ref l) (.int k) H Q :=
  ⟨l, k, xs, rfl, rfl, h, by omega, by omega, Nat.le_trans hl (by decide), fun p hp => q p _ hp (Same.new hp) upd_same⟩
end L2.My

/-! W24: tuples whose object is told (no dict of its own): t.index(x); steps over what reads as a tuple. -/
namespace L2.My
open PySem PySem.Spec PyProof.Rows
/-- a tuple without a dict of its own -/
def FzT (H : Hp) (a : Addr) (xs : List V) : Prop := ∃ ob : Obj, ob.dict = none ∧ H a = some (.frz ob (.tup xs))
theorem FzT.same {H H' : Hp} {a : Addr} {xs : List V} (h : FzT H a xs) (s : Same H H') : FzT H' a xs := by
  obtain ⟨ob, d, e⟩ := h
  exact ⟨ob, d, s _ _ e⟩
theorem FzT.kpt {H H' : Hp} {a : Addr} {xs : List V} (h : FzT H a xs) (s : Kpt H H') : FzT H' a xs := by
  obtain ⟨ob, d, e⟩ := h
  exact ⟨ob, d, s _ _ (by intro xs z; cases z) (by intro xs z; cases z) e⟩
theorem FzT.sq {K : PySem.W.Frag} {H : Hp} {a : Addr} {xs : List V} (h : FzT H a xs) : SqT K H a xs := by
  obtain ⟨ob, d, e⟩ := h
  exact .inl (.inr ⟨ob, e⟩)
section
variable {X : Cx}
def rTupOfF (K : PySem.W.Frag) : List V → Hp → VK → Prop := fun vs H Q => ∃ p ys, vs = [.ref p] ∧ SqL K H p ys ∧ ∀ l H', H l = none → Same H H' → FzT H' l ys → Q (.ref l) H'
theorem cn_tupleF : CallR X (.type "tuple") (rTupOfF X.K) := by
  intro pins s σ H xs us Q I r h
  obtain ⟨p, ys, rfl, hq, q⟩ := h
  obtain ⟨u, rfl, rx⟩ := vals1 r
  cases rx
  obtain ⟨its, r', pl, hz⟩ := I.list hq
  have hlen := r'.length
  refine call_tuple_list pl.isList (fun h' kp => ?_) (by simp only [List.size_toArray] <;> omega)
  have I1 : Inv X pins σ H { s with heap := h' } := I.kept (t' := s.toks) kp
  have I2 : Inv X pins σ (upd H h'.objs.size (.frz { cls := .type "tuple", data := .seq its.toArray } (.tup ys))) { s with heap := h'.push { cls := .type "tuple", data := .seq its.toArray } } :=
    I1.laid (t' := s.toks) (fun b o e => Heap.get?_push_of_some _ e) (Nat.le_refl _) ⟨Heap.get?_push_size _ rfl, hz, its, r', IsTup.new _ _⟩
  have hn := I1.hok.fresh (Nat.le_refl _)
  exact ⟨.ref h'.objs.size, _, I2, rfl, q _ _ hn (Same.new hn) ⟨_, rfl, upd_same⟩⟩
variable {o e : Expr} {es : List Expr} {to : TE} {t : TA} {name : Str} {apos cpos : Pos} {id : String} {r : V → List V → Hp → VK → Prop}
def TMp (x : V) (H : Hp) (N : Prop) : Prop := ∃ a xs, x = .ref a ∧ FzT H a xs ∧ N
def tTM (r : V → List V → Hp → VK → Prop) (to : TE) (t : TA) : TE := fun σ H Q => to σ H fun x H1 => TMp x H1 (t σ H1 fun xs H2 => r x xs H2 Q)
theorem w_tm {σ : L2.St} {H : Hp} {Q : VK} (q : to σ H fun x H1 => TMp x H1 (t σ H1 fun xs H2 => r x xs H2 Q)) : tTM r to t σ H Q := q
theorem k_tm {a : Addr} {xs : List V} {H : Hp} {N : Prop} (h : FzT H a xs) (q : N) : TMp (.ref a) H N := ⟨a, xs, rfl, h, q⟩
theorem pe_tm (pa : PlainAttrs "tuple") (slot : Slot "tuple" name id) (hty : typeOf (.builtin id) = pure (.type "method_descriptor")) (hm : MtR X id r) (ho : PE X o to) (ha : PA X (e :: es) t)
    (hbase : attributeBase o name X.env (eval o X.env) = eval o X.env := by rfl)
    (hfew : ((backTo cpos (starEach (e :: es) X.env)).all (fun x => !x.1) && (backToKw cpos (keywordEach [] X.env)).all (fun x => x.1.isSome)
      && decide ((e :: es).length + ([] : List Keyword).length + (if ([] : List Keyword).isEmpty then 0 else 1) < 30)) = true := by rfl)
    (hline : (apos.endLine == cpos.line) = true := by rfl) (hs : starEach (e :: es) X.env = (false, eval e X.env) :: starEach es X.env := by rfl) (hplain : (backTo cpos (starEach es X.env)).any (·.1) = false := by rfl) :
    PE X (.Call (.Attribute o name apos) (e :: es) [] cpos) (tTM r to t) := by
  refine ⟨fun pins s σ H Q I h => ?_⟩
  refine wpAny_Call_method_late hbase hfew hline rfl (thn (ho.run pins s σ H _ I h) fun v s1 ⟨x, H1, I1, r1, q0⟩ => ?_)
  obtain ⟨a, xs, ex, ⟨ob, hd, hf⟩, q1⟩ := q0
  subst ex
  cases (show v = Value.ref a from r1)
  obtain ⟨hg, hz, its, rv, ⟨o', ho', hc', _⟩⟩ := I1.hok a _ hf
  have h1 : s1.TypeIs (.ref a) "tuple" := ⟨o', ho', hc'⟩
  have h2 : ∀ b, Value.ref a = .ref b → ∃ ob, s1.heap.get? b = some ob ∧ ob.dict = none := fun b eb => by
    cases eb
    exact ⟨ob, hg, hd⟩
  refine ⟨"tuple", id, pa, slot, hty, h1, h2, ?_⟩
  have hA := ha.run cpos pins s1 σ H1 _ I1 q1
  rw [hs] at hA ⊢
  refine Calls.callWith_builtin (by show (false || (backTo cpos (starEach es X.env)).any (·.1)) = false; rw [hplain] <;> rfl) (Calls.evalArgs_plain ?_)
  exact thn hA fun us s2 ⟨vs, H2, I2, r2, q2⟩ => hm pins s2 σ H2 (.ref a) vs (.ref a) us Q I2 rfl r2 q2
end
/-! steps over SqT -/
section
variable {K : PySem.W.Frag} {σ : L2.St} {H : Hp} {Q : VK} {a b : Addr} {xs ys : List V} {te : TE} {ws : List Nat} {g : TG} {tt : TT} {tb : TS}
theorem w_ixS {i : Int} {v : V} (h : SqT K H a xs) (e : atI xs i = some v) (q : Q v H) : rIx K (.ref a) (.int i) H Q := .inr (.inl ⟨a, xs, i, v, rfl, rfl, h, e, q⟩)
theorem k_forS {nx bk ct : L2.St → Hp → Prop} {rt : VK} (Pv : Nat → L2.St → Hp → Prop) (h : SqT K H a xs) (h0 : Pv 0 σ H) (hl : ∀ i σ H, Pv i σ H → SqT K H a xs)
    (hs : ∀ i x σ H, xs[i]? = some x → Pv i σ H → g x σ H fun σ2 H2 => tb ⟨Pv (i + 1), rt, nx, Pv (i + 1)⟩ σ2 H2) (hd : ∀ σ H, Pv xs.length σ H → nx σ H) : ForT K g tb ⟨nx, rt, bk, ct⟩ σ (.ref a) H :=
  ⟨a, rfl, ⟨_, h⟩, for_tup (xs := xs) Pv h0 (fun i σ H _ q => hl i σ H q) hs hd⟩
/-- a slice that is not the whole -/
theorem k_slTS {lo hi : Option Int} (h : SqT K H a xs) (n : ¬ (HT.sIx xs.length 0 lo = 0 ∧ HT.sIx xs.length xs.length hi = xs.length)) (q : ∀ p H2, H p = none → Same H H2 → H2 p = some (.tup (cutV xs lo hi)) → Q (.ref p) H2) : SlP (rSlA K) (.ref a) lo hi H Q :=
  ⟨a, xs, rfl, h, fun z => absurd z n, fun _ p hp => q p _ hp (Same.new hp) upd_same⟩
theorem k_lcZS (Pv : Nat → Addr → Hp → Prop) (ha : SqT K H a xs) (hb : SqT K H b ys) (e : xs.length = ys.length) (h0 : ∀ D, H D = none → Pv 0 D (upd H D (.lst []))) (hl : ∀ i D H', Pv i D H' → SqT K H' a xs ∧ SqT K H' b ys)
    (hs : ∀ i x y D H T H', xs[i]? = some x → ys[i]? = some y → Pv i D H → H T = none → Same H H' → H' T = some (.tup [x, y]) → g (.ref T) (wipe σ ws) H' fun σ2 H2 => wipe σ2 ws = wipe σ ws ∧ tt σ2 H2 fun b H3 =>
      if b = true then te σ2 H3 fun z H4 => ∃ acc, H4 D = some (.lst acc) ∧ acc.length < sizeLine ∧ Pv (i + 1) D (upd H4 D (.lst (acc ++ [z]))) else Pv (i + 1) D H3) (hd : ∀ D H, Pv xs.length D H → Q (.ref D) H) : CompZT K g tt te ws σ [.ref a, .ref b] H Q := by
  refine ⟨a, b, xs, ys, rfl, .inr ⟨ha, hb, fun D hD => ⟨fun i m H => Pv i D H ∧ m + i = xs.length, ⟨xs.length, h0 D hD, rfl⟩, fun i m H ⟨q, em⟩ => ?_⟩⟩⟩
  obtain ⟨l1, l2⟩ := hl i D H q
  rcases Nat.lt_or_ge i xs.length with h | h
  · right
    have ex : xs[i]? = some xs[i] := List.getElem?_eq_getElem h
    have ey : ys[i]? = some (ys[i]'(by omega)) := List.getElem?_eq_getElem (by omega)
    refine ⟨⟨xs, ys, _, _, l1, l2, ex, ey⟩, Pv (i + 1) D, fun H' q' => ⟨m - 1, by omega, q', by omega⟩, ?_⟩
    rintro x H' ⟨T, x', y', rfl, hT, rfl, h1, h2⟩
    exact hs i x' y' D H T _ (h1 xs l1) (h2 ys l2) q hT (Same.new hT) upd_same
  · left
    obtain rfl : i = xs.length := by omega
    exact ⟨⟨xs, ys, l1, l2, .inl (Nat.le_refl _)⟩, hd D H q⟩
end
end L2.My

/-! W26: for over enumerate of a tuple. -/
namespace L2.My
open PySem PySem.Spec PyProof.Rows
/-- enumerate(v): two new cells -/
theorem enum_new1 {v : Value} {o : Obj} {Hh : Heap → Prop} (B : Begins v o Hh) : Meets (Builtin.«enumerate.__new__» ⟨[.type "enumerate", v], []⟩) (fun _ R s => Hh s.heap ∧
    R (.ok (.ret (.ref (s.heap.push o).objs.size))) { s with heap := (s.heap.push o).push { cls := .type "enumerate", data := .fields #[.none, .bool false, .ref s.heap.objs.size, rawInt 0, .none, .none] } }) := .of_wp fun prog w A R s h => by
  obtain ⟨hp, g, d, tk, os⟩ := s
  obtain ⟨h0, h⟩ := h
  have su := sub_enumerate
  have it1 : ∀ {A' : Around} {E : Value → Shared → Prop} {Q : Value → Shared → Prop}, Q (.ref hp.objs.size) ⟨hp.push o, g, d, tk, os⟩ → wpAny (model prog w) A' (pyIter v) Q E ⟨hp, g, d, tk, os⟩ := fun z => B.iter prog w _ _ ⟨hp, g, d, tk, os⟩ _ h0 z
  wp_walk using it1
  refine wpAny_stack_any (fun st => wpAny_pure ?_)
  split
  · rename_i c _ _ _ _ _
    cases (c == Value.type "enumerate") <;> (wp_walk using it1; exact ⟨_, rfl, h⟩)
  · wp_walk using it1; exact ⟨_, rfl, h⟩
section
variable {prog : Program} {w : World} {A : Around} {E : Value → Shared → Prop} {s : Shared}
theorem enum_begin1 {v : Value} {o : Obj} {Hh : Heap → Prop} {Q : Value → Shared → Prop} (B : Begins v o Hh) (h1 : Hh s.heap)
    (h : ∀ h', IsEnum h' (s.heap.objs.size + 1) s.heap.objs.size 0 .none → h'.get? s.heap.objs.size = some o → (∀ b o, s.heap.get? b = some o → h'.get? b = some o) → Q (.ref (s.heap.objs.size + 1)) { s with heap := h' }) : wpAny (model prog w) A (call (.type "enumerate") [v]) Q E s := by
  refine callType_new F.called_enumerate (by decide) (F.typeCall_enumerate_1 _) (F.newCall_enumerate_1 _) (fun obj => F.args_object_init_2 obj _) F.entry_enumerate_new (enum_new1 B) ⟨h1, ?_⟩
  have sz : (s.heap.push o).objs.size = s.heap.objs.size + 1 := Heap.size_push ..
  show _ ∧ _
  have q1 := Heap.get?_push_size (s.heap.push o) (o := { cls := .type "enumerate", data := .fields #[.none, .bool false, .ref s.heap.objs.size, rawInt 0, .none, .none] }) rfl
  rw [sz] at q1 ⊢
  exact ⟨⟨_, q1, rfl⟩, h _ q1 (Heap.get?_push_of_some _ (Heap.get?_push_size _ B.free)) fun b o x => Heap.get?_push_of_some _ (Heap.get?_push_of_some _ x)⟩
end
/-- the tuple at a, each item in a new pair -/
def IteT (K : PySem.W.Frag) (a : Addr) : It :=
  ⟨fun i H => ∃ (xs : List V) (x : V), SqT K H a xs ∧ xs[i]? = some x, fun i H v H' => ∃ T x, v = .ref T ∧ H T = none ∧ H' = upd H T (.tup [.int (i : Nat), x]) ∧ ∀ xs, SqT K H a xs → xs[i]? = some x, fun i H => ∃ xs : List V, SqT K H a xs ∧ xs.length = i⟩
theorem turn_enumT {P : Program} {w : World} {K : PySem.W.Frag} {elts : List Expr} {kk : Nat} {tpos : Pos} (a e it : Addr) (n1 : a ≠ it) (n2 : e ≠ a) (hne : e ≠ it) :
    Turn P w K (.Tuple elts kk tpos) (IteT K a) [e, it] e (fun i h => (∃ old, IsEnum h e it ((i : Nat) : Int) old) ∧ h.IsTupleIter it a i) where
  mem := by simp
  obj := fun i h st b hb => by
    obtain ⟨⟨old, he⟩, ⟨o, ho, hc, hd⟩⟩ := st
    rcases List.mem_cons.mp hb with z | z
    · exact z ▸ ⟨_, he, fun v q => nomatch q⟩
    · exact List.mem_singleton.mp z ▸ ⟨o, ho, fun v q => by rw [hd] at q; cases q⟩
  keep := fun i h h' st k => ⟨st.1.imp fun _ he => k e (by simp) _ he, st.2.at fun o q => k it (by simp) o q⟩
  item := by
    rintro X rfl rfl rfl hc i pins s σ H E I hf ⟨⟨old, he⟩, hit⟩ ⟨xs, x, hq, hx⟩
    obtain ⟨its, rv, p, hz⟩ := I.tuple hq
    obtain ⟨u, hu, ru⟩ := rv.get hx
    have l1 : e < s.heap.objs.size := Heap.lt_size he
    have l2 : it < s.heap.objs.size := by obtain ⟨_, q, _⟩ := hit; exact Heap.lt_size q
    have li : i < its.toArray.size := by rw [List.size_toArray]; exact (List.getElem?_eq_some_iff.mp hu).1
    refine wpAny_pyNext_enum_itemD (Draws.tuple (show X.A.in1.handled = none from I.ok.hd hc) it a n1 its.toArray) he ⟨hit, p⟩ li hne (by simp [hne, n2]) fun x' h' tk hP ho st' hT hsz hk => ?_
    obtain rfl : x' = u := Option.some.inj (hP.symm.trans (by simpa using hu))
    refine ⟨_, rfl, wpAny_letOwnedTupleGo_enum (s := { s with heap := h', toks := tk + 1 }) ho fun h2 he2 sb => ?_⟩
    have f2 : h2.get? s.heap.objs.size = some { cls := .type "tuple", data := .seq #[.int i tk, x'] } := (sb.2 _ (Nat.ne_of_gt l1)).trans hT
    have nw : ObjOk X.prog X.w (upd H s.heap.objs.size (.tup [.int (i : Nat), x])) h2 s.heap.objs.size (.tup [.int (i : Nat), x]) := ⟨by show 2 ≤ sizeLine; decide, [.int i tk, x'], .cons ⟨_, rfl⟩ (.cons ru .nil), ⟨_, f2, rfl, _, rfl⟩⟩
    have I1 : Inv X pins σ (upd H s.heap.objs.size (.tup [.int (i : Nat), x])) { s with heap := h2, toks := tk + 1 } :=
      I.turnedNew (ch := [e, it]) (fun b ob hb q => (sb.2 b (fun z => hb (z ▸ List.mem_cons_self ..))).trans (hk b ob (fun z => hb (z ▸ List.mem_cons_self ..)) (fun z => hb (z ▸ List.mem_cons_of_mem _ (List.mem_singleton.mpr rfl))) q)) hf (Nat.le_refl _) nw
    refine ⟨.ref s.heap.objs.size, _, I1, rfl, ⟨_, x, rfl, I.hok.fresh (Nat.le_refl _), rfl, fun ys hy => I.tuple_inj hy hq ▸ hx⟩, ⟨⟨x', ?_⟩, st'.1.at fun o q => (sb.2 it (Ne.symm hne)).trans q⟩, fun b hb => ?_⟩
    · rw [show ((i + 1 : Nat) : Int) = (i : Int) + 1 from rfl]; exact he2
    · have lb : b < s.heap.objs.size := by
        rcases List.mem_cons.mp hb with z | z
        · exact z ▸ l1
        · exact List.mem_singleton.mp z ▸ l2
      exact (upd_ne (Nat.ne_of_lt lb)).trans (hf b hb).1
  done := by
    rintro X rfl rfl rfl hc i pins s σ H E I hf ⟨⟨old, he⟩, hit⟩ ⟨xs, hq, hx⟩
    obtain ⟨its, rv, p, hz⟩ := I.tuple hq
    obtain ⟨f0, f1, f2, f3, f4, f5⟩ := hf it (by simp)
    have li : i = its.toArray.size := by rw [List.size_toArray, ← rv.length]; exact hx.symm
    subst li
    exact wpAny_pyNext_enum_endD (Draws.tuple (show X.A.in1.handled = none from I.ok.hd hc) it a n1 its.toArray) he ⟨hit, p⟩ fun h' eb => ⟨rfl, I.turned (t' := s.toks) (fun b o hb q => eb b o hb q) f0 f1 f3 f4 f5⟩
  self := fun A i s Q E st h => let ⟨⟨_, he⟩, _⟩ := st; wpAny_pyIter_enum he h
def iEnumT (K : PySem.W.Frag) (ta : TA) : TI := fun σ H R => ta σ H fun vs H1 => ∃ a xs, vs = [.ref a] ∧ SqT K H1 a xs ∧ R (IteT K a) H1
theorem pi_enumT {X : Cx} {e : Expr} {ta : TA} {p pos tpos : Pos} {elts : List Expr} {kk : Nat} (hg : Gl X "enumerate") (hm : X.mg "enumerate" = none) (ha : PA X [e] ta) (hs : starEach [e] X.env = [(false, eval e X.env)] := by rfl) :
    PI X (.Tuple elts kk tpos) (.Call (.Name "enumerate" p) [e] [] pos) (iEnumT X.K ta) := ⟨fun pins s σ H R I h => by
  refine Call_ (ld_blt I hg hm boot_enumerate (PyProof.Rows.callWith_type1 (thn (ha.run pos pins s σ H _ I h) fun us s1 ⟨vs, H1, I1, r1, a, xs, ex, hq, q⟩ => ?_) hs rfl))
  subst ex
  obtain ⟨u, rfl, r⟩ := vals1 r1
  cases r
  obtain ⟨its, rv, p', hz⟩ := I1.tuple hq
  have la : a < s1.heap.objs.size := by obtain ⟨o, ho, _⟩ := id p'; exact Heap.lt_size ho
  refine enum_begin1 (begins_tuple a its.toArray) p' fun h' he hit hk => wpAny_pyIter_enum he ⟨s1.heap.objs.size + 1, [s1.heap.objs.size + 1, s1.heap.objs.size], _, _, H1, rfl, I1.kept (t' := s1.toks) hk, turn_enumT a (s1.heap.objs.size + 1) s1.heap.objs.size (Nat.ne_of_lt la) (Nat.ne_of_gt (Nat.lt_succ_of_lt la)) (Nat.succ_ne_self _), ⟨⟨.none, he⟩, ⟨_, hit, rfl, rfl⟩⟩, fun b hb => ?_, q⟩
  have hle : s1.heap.objs.size ≤ b := by
    rcases List.mem_cons.mp hb with z | z
    · exact z ▸ Nat.le_add_right _ _
    · exact List.mem_singleton.mp z ▸ Nat.le_refl _
  exact I1.fpOk hle (I1.hok.fresh hle)⟩
section
variable {K : PySem.W.Frag} {σ : L2.St} {H : Hp} {g : TG} {tb : TS} {D : Ends} {a : Addr} {xs : List V} {ta : TA}
def ForEnT (K : PySem.W.Frag) (g : TG) (tb : TS) (D : Ends) (σ : L2.St) (vs : List V) (H : Hp) : Prop := tFor (iEnumT K fun _ H Q => Q vs H) g tb D σ H
theorem w_forEnT (q : ta σ H fun vs H1 => ForEnT K g tb D σ vs H1) : tFor (iEnumT K ta) g tb D σ H := q
theorem k_forEnT {nx bk ct : L2.St → Hp → Prop} {rt : VK} (Pv : Nat → L2.St → Hp → Prop) (hx : SqT K H a xs) (h0 : Pv 0 σ H) (hl : ∀ i σ H, Pv i σ H → SqT K H a xs)
    (hs : ∀ i x σ H T H', xs[i]? = some x → Pv i σ H → H T = none → Same H H' → H' T = some (.tup [.int (i : Nat), x]) → g (.ref T) σ H' fun σ2 H2 => tb ⟨Pv (i + 1), rt, nx, Pv (i + 1)⟩ σ2 H2) (hd : ∀ σ H, Pv xs.length σ H → nx σ H) :
    ForEnT K g tb ⟨nx, rt, bk, ct⟩ σ [.ref a] H := by
  refine ⟨a, xs, rfl, hx, fun i m σ H => Pv i σ H ∧ m + i = xs.length, ⟨xs.length, h0, rfl⟩, fun i m σ H ⟨q, em⟩ => ?_⟩
  have l1 := hl i σ H q
  rcases Nat.lt_or_ge i xs.length with h | h
  · refine .inr ⟨⟨xs, _, l1, List.getElem?_eq_getElem h⟩, Pv (i + 1), fun σ' H' q' => ⟨m - 1, by omega, q', by omega⟩, ?_⟩
    rintro x H' ⟨T, x', rfl, hT, rfl, h1⟩
    exact hs i x' σ H T _ (h1 xs l1) q hT (Same.new hT) upd_same
  · obtain rfl : i = xs.length := by omega
    exact .inl ⟨⟨xs, l1, rfl⟩, hd σ H q⟩
/-- over a list or a tuple -/
theorem pi_enumS {X : Cx} {e : Expr} {p pos tpos : Pos} {elts : List Expr} {kk : Nat} (hg : Gl X "enumerate") (hm : X.mg "enumerate" = none) (ha : PA X [e] ta) (hs : starEach [e] X.env = [(false, eval e X.env)] := by rfl) :
    PI X (.Tuple elts kk tpos) (.Call (.Name "enumerate" p) [e] [] pos) (iOr (iEnum X.K ta) (iEnumT X.K ta)) := PI.or (pi_enum hg hm ha hs) (pi_enumT hg hm ha hs)
end
/-! a module's integer -/
theorem int_of {x : Option (Option Value)} {k : Int} (h : isIntV x k = true) : ∃ u, x = some (some u) ∧ RelV (.int k) u := by
  unfold isIntV at h
  split at h
  · obtain rfl := of_decide_eq_true h
    exact ⟨_, rfl, _, rfl⟩
  · cases h
end L2.My

local macro_rules | `(tactic| walk_at "side") => `(tactic| first | (exact Or.inl ⟨by omega, by omega⟩) | (exact Or.inr (Or.inl ⟨by omega, by omega⟩)) | (exact ⟨by decide, by decide⟩) | (show (0 : Int) < _; omega) | assumption | (exact ⟨by decide, by decide, by decide⟩))
local macro_rules | `(tactic| walk_at "st") => `(tactic| first | with_reducible exact L2.My.set0 | with_reducible exact L2.My.set1 | with_reducible exact L2.My.set2 | with_reducible exact L2.My.set3 | with_reducible exact L2.My.set4 | with_reducible exact L2.My.set5 | with_reducible exact L2.My.set6 | with_reducible exact L2.My.set7 | with_reducible exact L2.My.set8 | with_reducible exact L2.My.set9 | with_reducible exact L2.My.set10 | with_reducible exact L2.My.set11 | with_reducible exact L2.My.set12 | with_reducible exact L2.My.set13 | with_reducible exact L2.My.set14 | with_reducible exact L2.My.set15 | with_reducible exact L2.My.set16 | with_reducible exact L2.My.set17 | with_reducible exact L2.My.set18 | with_reducible exact L2.My.set19 | with_reducible exact L2.My.set20 | with_reducible exact L2.My.set21 | with_reducible exact L2.My.set22 | with_reducible exact L2.My.set23 | exact L2.My.set0 | exact L2.My.set1 | exact L2.My.set2 | exact L2.My.set3 | exact L2.My.set4 | exact L2.My.set5 | exact L2.My.set6 | exact L2.My.set7 | exact L2.My.set8 | exact L2.My.set9 | exact L2.My.set10 | exact L2.My.set11 | exact L2.My.set12 | exact L2.My.set13 | exact L2.My.set14 | exact L2.My.set15 | exact L2.My.set16 | exact L2.My.set17 | exact L2.My.set18 | exact L2.My.set19 | exact L2.My.set20 | exact L2.My.set21 | exact L2.My.set22 | exact L2.My.set23)
local macro_rules | `(tactic| walk_at "s") => `(tactic| first
  | with_reducible refine L2.My.w_seq ?_ | with_reducible refine L2.My.w_asg ?_ | with_reducible refine L2.My.w_op ?_ | with_reducible refine L2.My.w_ret ?_ | with_reducible refine L2.My.w_if ?_
  | ((with_reducible refine' L2.My.w_var ?hv ?_); (case hv => exact rfl)) | with_reducible refine L2.My.w_c ?_ | with_reducible refine L2.My.w_I0 ?_ | with_reducible refine L2.My.w_U ?_
  | ((with_reducible refine' L2.My.w_name ?hs ?_); (case hs => walk_at "st")) | with_reducible refine L2.My.w_next ?_ | with_reducible refine L2.My.w_drop ?_
  | with_reducible refine L2.My.w_test ?_ | with_reducible refine L2.My.w_B ?_ | with_reducible refine L2.My.w_bl ?_ | with_reducible refine L2.My.w_blV ?_ | with_reducible refine L2.My.w_and ?_ | with_reducible refine L2.My.w_or ?_ | with_reducible refine L2.My.w_not ?_
  | with_reducible refine L2.My.w_andV ?_ | with_reducible refine L2.My.w_orV ?_ | with_reducible refine L2.My.w_notV ?_ | with_reducible refine L2.My.w_un ?_
  | ((with_reducible refine' L2.My.w_T ?hc ?_); (case hc => exact rfl)) | ((with_reducible refine' L2.My.w_F ?hc ?_); (case hc => exact rfl))
  | with_reducible refine L2.My.w_cons ?_ | with_reducible refine L2.My.w_nil ?_ | with_reducible refine L2.My.w_call ?_ | with_reducible refine L2.My.w_cb ?_
  | with_reducible refine L2.My.w_tup ?_ | with_reducible refine L2.My.w_lst ?_ | with_reducible refine L2.My.w_fldE ?_ | with_reducible refine L2.My.w_mkO ?_ | with_reducible refine L2.My.w_int ?_ | with_reducible refine L2.My.w_intB ?_ | with_reducible refine L2.My.w_abs ?_ | with_reducible refine L2.My.w_yes ?_ | with_reducible refine L2.My.w_Tself ?_ | with_reducible refine L2.My.w_Fself ?_ | with_reducible refine L2.My.w_sl ?_ | with_reducible refine L2.My.w_dnew ?_ | with_reducible refine L2.My.w_isB ?_ | with_reducible refine L2.My.w_gsub ?_ | with_reducible refine L2.My.w_poN ?_ | with_reducible refine L2.My.w_poS ?_ | with_reducible refine L2.My.w_exI ?_
  | ((with_reducible refine' L2.My.w_I ?hc ?_); (case hc => walk_at "side"))
  | ((with_reducible refine' L2.My.w_ixL ?hh ?he ?_); (case hh => assumption); (case he => exact rfl)) | ((with_reducible refine' L2.My.w_ixT ?hh ?he ?_); (case hh => assumption); (case he => exact rfl))
  | with_reducible refine L2.My.w_xf ?_ | with_reducible refine L2.My.w_stoE ?_ | with_reducible refine L2.My.w_mkC ?_ | with_reducible refine L2.My.w_meth ?_
  | with_reducible refine L2.My.w_forT ?_ | with_reducible refine L2.My.w_forL ?_ | with_reducible refine L2.My.w_forR ?_ | with_reducible refine L2.My.w_forR2 ?_ | with_reducible refine L2.My.w_forZ ?_ | with_reducible refine L2.My.w_lcL ?_ | with_reducible refine L2.My.w_lcT ?_ | with_reducible refine L2.My.w_lcR ?_
  | with_reducible refine L2.My.w_ifx ?_ | with_reducible refine L2.My.w_truB ?_ | with_reducible refine L2.My.w_truI ?_
  | with_reducible refine L2.My.w_eq rfl ?_ | with_reducible refine L2.My.w_ne rfl ?_)
local macro_rules | `(tactic| walk_at "W") => `(tactic| repeat (walk_at "s"))

-- needs W9
namespace L2.My
open PySem PySem.Spec PyProof.Rows
def top (i : Nat) : Stmt := PySem.Challenge.pw_threetiles_k54_heaps_moved.main.body.getD i (.Pass ⟨0, 0, 0, 0⟩)
/-- where the classes stand -/
structure Zs where
  K : PySem.W.Frag
  c_FloorError : Addr
  c_BadCorner : Addr
  c_BadHeap : Addr

/-- what the top has left -/
structure Txt (Z : Zs) (mg : Str → Option Value) : Prop where
  n_all : mg "all" = none
  n_len : mg "len" = none
  n_isinstance : mg "isinstance" = none
  n_tuple : mg "tuple" = none
  n_zip : mg "zip" = none
  n_int : mg "int" = none
  n_range : mg "range" = none
  n_list : mg "list" = none
  n_abs : mg "abs" = none
  n_sorted : mg "sorted" = none
  n_enumerate : mg "enumerate" = none
  n_bool : mg "bool" = none
  g_FloorError : mg "FloorError" = some (.ref Z.c_FloorError)
  g_BadCorner : mg "BadCorner" = some (.ref Z.c_BadCorner)
  g_BadHeap : mg "BadHeap" = some (.ref Z.c_BadHeap)
  g_MOST_TILES : ∃ u, mg "MOST_TILES" = some u ∧ RelV (.int 40) u
  x_BadCorner : OexC Z.K Z.c_BadCorner
  xn_BadCorner : PySem.W.findIn Z.K (.ref Z.c_BadCorner) "corner" = some none
  xf_BadCorner : XfC Z.K Z.c_BadCorner
  xm_BadCorner : PySem.W.exmOne Z.K (.ref Z.c_BadCorner) (.ref Z.c_BadCorner) = some true
  x_BadHeap : OexC Z.K Z.c_BadHeap
  xn_BadHeap : PySem.W.findIn Z.K (.ref Z.c_BadHeap) "index" = some none
  xf_BadHeap : XfC Z.K Z.c_BadHeap
  xm_BadHeap : PySem.W.exmOne Z.K (.ref Z.c_BadHeap) (.ref Z.c_BadHeap) = some true
  xo_BadCorner_BadHeap : PySem.W.exmOne Z.K (.ref Z.c_BadCorner) (.ref Z.c_BadHeap) = some false
  xo_BadHeap_BadCorner : PySem.W.exmOne Z.K (.ref Z.c_BadHeap) (.ref Z.c_BadCorner) = some false
abbrev ThI (_Z : Zs) (H : Hp) (v : V) : Prop := Plain H v
theorem Plain.thI {Z : Zs} {H : Hp} {v : V} (h : Plain H v) : ThI Z H v := h
theorem thI_ty {Z : Zs} {mg : Str → Option Value} {H : Hp} {v : V} (h : ThI Z H v) (T : Txt Z mg) : ∃ t, TyX Z.K H v t ∧ PySem.W.kitOne Z.K t (.type "int") = some (isI v || isB v) ∧ PySem.W.kitOne Z.K t (.type "bool") = some (isB v) := by
  obtain ⟨t, a, b, c, _⟩ := h.ty
  exact ⟨t, a, b, c⟩
theorem thI_same {Z : Zs} {H H' : Hp} {v : V} (h : ThI Z H v) (s : Same H H') : ThI Z H' v := h.same s
variable {P : Program} {w : World} {mg : Str → Option Value} {base : Heap} {Z : Zs}
abbrev s_is_integral : Stmt := top 5
theorem sc_is_integral : FnScope ["thing"] ["thing"] (defScope s_is_integral) := ⟨rfl, rfl, rfl, by decide +kernel, rfl, by decide +kernel, by decide +kernel⟩

def sp_is_integral (Z : Zs) : Sp := fun vs H Q E =>
  ∃ v, vs = [v] ∧ ThI Z H v ∧ Q (.bl (isI v)) H
theorem ok_is_integral (T : Txt Z mg)  (D : AtF Z.K mg "is_integral" "is_integral" s_is_integral ["thing"]) : Has P w Z.K mg base "is_integral" 1 ["thing"] (sp_is_integral Z) := by
  refine D.ok sc_is_integral (fun vs H Q E h => ?_) (fun cdv A outer s H vs Q E hr h => ?_)
  · obtain ⟨v, rfl, _⟩ := h
    rfl
  · refine ⟨_, (pss_one (ps_ret (pe_and (pe_callB call_isi rfl T.n_isinstance (by decide +kernel) (pa_cons (pv 0) (pa_cons (pe_bltn (v := .ty "int") rfl T.n_int (by decide +kernel) rfl) pa_nil))) (pe_one (pe_not (pe_callB call_isi rfl T.n_isinstance (by decide +kernel) (pa_cons (pv 0) (pa_cons (pe_bltn (v := .ty "bool") rfl T.n_bool (by decide +kernel) rfl) pa_nil)))))))), ?_⟩
    try simp only [cxOf]
    obtain ⟨v, rfl, hv, q⟩ := h
    obtain ⟨t, ty, k1, k2⟩ := thI_ty hv T
    walk_at "W"
    refine w_isi ty k1 ?_
    walk_at "W"
    cases e : isI v || isB v
    · walk_at "W"
      have : isI v = false := by cases v <;> simp_all [isI, isB]
      rw [this] at q; exact q
    · walk_at "W"
      refine w_isi ty k2 ?_
      walk_at "W"
      have : (!isB v) = isI v := by cases v <;> simp_all [isI, isB]
      rw [this]; exact q
abbrev s_BadCorner_init : Stmt := inClass (top 2) 0
theorem sc_BadCorner_init : FnScope ["self", "corner"] ["self", "corner"] (defScope s_BadCorner_init) := ⟨rfl, rfl, rfl, by decide +kernel, rfl, by decide +kernel, by decide +kernel⟩

def sp_BadCorner_init (Z : Zs) : Sp := fun vs H Q E =>
  spX Z.c_BadCorner "corner" vs H Q E
theorem ok_BadCorner_init (T : Txt Z mg)  (D : AtX Z.K mg "BadCorner" Z.c_BadCorner "BadCorner.__init__" s_BadCorner_init ["self", "corner"]) : HasX P w Z.K mg base "BadCorner" Z.c_BadCorner 1 ["self", "corner"] (sp_BadCorner_init Z) := by
  refine D.ok sc_BadCorner_init (fun vs H Q E h => ?_) (fun cdv A outer s H vs Q E hr h => ?_)
  · obtain ⟨a, v, rfl, _⟩ := h
    rfl
  · refine ⟨_, (pss_one (ps_ost (pv 0) (pv 1))), ?_⟩
    try simp only [cxOf]
    obtain ⟨a, v, rfl, ha, q⟩ := h
    exact ⟨_, rfl, _, rfl, a, Z.c_BadCorner, rfl, T.x_BadCorner, T.xn_BadCorner, Or.inl ⟨ha, fun d hd hn => q d hd hn⟩⟩
abbrev s_BadHeap_init : Stmt := inClass (top 3) 0
theorem sc_BadHeap_init : FnScope ["self", "index"] ["self", "index"] (defScope s_BadHeap_init) := ⟨rfl, rfl, rfl, by decide +kernel, rfl, by decide +kernel, by decide +kernel⟩

def sp_BadHeap_init (Z : Zs) : Sp := fun vs H Q E =>
  spX Z.c_BadHeap "index" vs H Q E
theorem ok_BadHeap_init (T : Txt Z mg)  (D : AtX Z.K mg "BadHeap" Z.c_BadHeap "BadHeap.__init__" s_BadHeap_init ["self", "index"]) : HasX P w Z.K mg base "BadHeap" Z.c_BadHeap 1 ["self", "index"] (sp_BadHeap_init Z) := by
  refine D.ok sc_BadHeap_init (fun vs H Q E h => ?_) (fun cdv A outer s H vs Q E hr h => ?_)
  · obtain ⟨a, v, rfl, _⟩ := h
    rfl
  · refine ⟨_, (pss_one (ps_ost (pv 0) (pv 1))), ?_⟩
    try simp only [cxOf]
    obtain ⟨a, v, rfl, ha, q⟩ := h
    exact ⟨_, rfl, _, rfl, a, Z.c_BadHeap, rfl, T.x_BadHeap, T.xn_BadHeap, Or.inl ⟨ha, fun d hd hn => q d hd hn⟩⟩
local macro_rules | `(tactic| walk_at "bw") => `(tactic| first | assumption | exact L2.My.Bw.two | exact L2.My.Bw.zero | exact L2.My.Bw.one | ((refine' L2.My.Bw.mul ?hx ?hy); (case hx => walk_at "bw"); (case hy => walk_at "bw")) | ((refine' L2.My.Bw.add ?hx ?hy); (case hx => walk_at "bw"); (case hy => walk_at "bw")) | ((refine' L2.My.Bw.sub ?hx ?hy); (case hx => walk_at "bw"); (case hy => walk_at "bw")) | ((refine' L2.My.Bw.neg ?hx); (case hx => walk_at "bw")))
local macro_rules | `(tactic| walk_at "mul") => `(tactic| ((refine' L2.My.w_I (L2.My.bwm (m := ?m) (n := ?n) ?hx ?hy ?hm) ?_); (case hx => walk_at "bw"); (case hy => walk_at "bw"); (case hm => decide)))
/-- what two numbers make -/
structure F3 where
  t : Int → Int → Int → Int → Int → Int → Int
  r : Int → Int → Int → Int → Int → Int → Int
  b : Int → Int → Int → Int → Int → Int → Int
def plus : F3 := ⟨fun t _ b t' _ b' => t * b' + t' * b, fun _ r b _ r' b' => r * b' + r' * b, fun _ _ b _ _ b' => b * b'⟩
def minus : F3 := ⟨fun t _ b t' _ b' => t * b' - t' * b, fun _ r b _ r' b' => r * b' - r' * b, fun _ _ b _ _ b' => b * b'⟩
def times : F3 := ⟨fun t r _ t' r' _ => t * t' + 2 * r * r', fun t r _ t' r' _ => t * r' + r * t', fun _ _ b _ _ b' => b * b'⟩
/-- other minus one -/
def back (F : F3) : F3 := ⟨fun t r b t' r' b' => F.t t' r' b' t r b, fun t r b t' r' b' => F.r t' r' b' t r b, fun t r b t' r' b' => F.b t' r' b' t r b⟩
/-- three parts that are not too great -/
def B3 (t r b : Int) : Prop := Bw 1000 t ∧ Bw 1000 r ∧ Bw 1000 b
def T3 (H : Hp) (p : Addr) (t r b : Int) : Prop := H p = some (.tup [.int t, .int r, .int b])
def spTwo (F : F3) : Sp := fun vs H Q _ => ∃ p p' t r b t' r' b', vs = [.ref p, .ref p'] ∧ T3 H p t r b ∧ T3 H p' t' r' b' ∧ B3 t r b ∧ B3 t' r' b' ∧
  ∀ u H', H u = none → Same H H' → T3 H' u (F.t t r b t' r' b') (F.r t r b t' r' b') (F.b t r b t' r' b') → Q (.ref u) H'
-- needs W9
local macro_rules | `(tactic| walk_at "s") => `(tactic| first | with_reducible refine L2.My.w_chain ?_ | with_reducible refine L2.My.w_lcTT ?_ | with_reducible refine L2.My.w_forZT ?_ | with_reducible refine L2.My.w_bm ?_)
/-- four ints -/
structure C4 where
  a : Int
  b : Int
  c : Int
  d : Int
def C4.vs (c : C4) : List V := [.int c.a, .int c.b, .int c.c, .int c.d]
def CorAt (H : Hp) (v : V) (c : C4) : Prop := ∃ p, v = .ref p ∧ H p = some (.tup [.int c.a, .int c.b, .int c.c, .int c.d])
theorem CorAt.same {H H' : Hp} {v : V} {c : C4} (h : CorAt H v c) (s : Same H H') : CorAt H' v c := by
  obtain ⟨p, rfl, e⟩ := h
  exact ⟨p, rfl, s _ _ e⟩
theorem CorAt.kps {H H' : Hp} {v : V} {c : C4} (h : CorAt H v c) (s : Kps H H') : CorAt H' v c := by
  obtain ⟨p, rfl, e⟩ := h
  exact ⟨p, rfl, s.tup e⟩
def isCor (xs : List V) : Bool := decide (xs.length = 4) && xs.all isI
/-- a thing that is no corner -/
def BadCor (Z : Zs) (H : Hp) (v : V) : Prop := (Plain H v ∧ isTu H v = false) ∨ ∃ p xs, v = .ref p ∧ H p = some (.tup xs) ∧ xs.length ≤ 500 ∧ (∀ x ∈ xs, ThI Z H x) ∧ isCor xs = false
theorem isTu_same {H H' : Hp} {v : V} (h : Plain H v) (s : Same H H') : isTu H' v = isTu H v := by
  cases h with
  | lst a xs e => rw [isTu_lst e, isTu_lst (s _ _ e)]
  | tup a xs e => rw [isTu_tup e, isTu_tup (s _ _ e)]
  | dK a xs e => rw [isTu_dK e, isTu_dK (s _ _ e)]
  | _ => rfl
theorem BadCor.same {Z : Zs} {H H' : Hp} {v : V} (h : BadCor Z H v) (s : Same H H') : BadCor Z H' v := by
  rcases h with ⟨a, b⟩ | ⟨p, xs, rfl, e, l, x, c⟩
  · exact .inl ⟨a.same s, (isTu_same a s).trans b⟩
  · exact .inr ⟨p, xs, rfl, s _ _ e, l, fun y hy => thI_same (x y hy) s, c⟩
/-- an own error of the class C with o in its field f -/
def ErX (C : Addr) (f : Str) (o : V) (H : Hp) (E : XK) : Prop := ∀ d H', H d = none → Same H H' → H' d = some (.xd [(f, o)]) → E (.ref C) (some d) H'
theorem ErX.same {C : Addr} {f : Str} {o : V} {H H' : Hp} {E : XK} (h : ErX C f o H E) (s : Same H H') : ErX C f o H' E := fun d H2 hd s2 e => h d H2 (s.free hd) (s.trans s2) e
theorem dec_len {n k : Nat} : decide (V.int ((n : Nat) : Int) = V.int (k : Int)) = decide (n = k) := decide_eq_decide.mpr ⟨fun h => by injection h with h; omega, fun h => by rw [h]⟩
abbrev s_is_corner : Stmt := top 7
theorem sc_is_corner : FnScope ["thing", "part"] ["thing"] (defScope s_is_corner) := ⟨rfl, rfl, rfl, by decide +kernel, rfl, by decide +kernel, by decide +kernel⟩

def sp_is_corner (Z : Zs) : Sp := fun vs H Q E =>
  ∃ v, vs = [v] ∧ ((Plain H v ∧ isTu H v = false ∧ Q (.bl false) H) ∨ ∃ p xs, v = .ref p ∧ H p = some (.tup xs) ∧ xs.length ≤ 500 ∧ (∀ x ∈ xs, ThI Z H x) ∧ ∀ H', Same H H' → Q (.bl (isCor xs)) H')
theorem ok_is_corner (T : Txt Z mg) (h_is_integral : Has P w Z.K mg base "is_integral" 1 ["thing"] (sp_is_integral Z)) (D : AtF Z.K mg "is_corner" "is_corner" s_is_corner ["thing"]) : Has P w Z.K mg base "is_corner" 2 ["thing"] (sp_is_corner Z) := by
  refine D.ok sc_is_corner (fun vs H Q E h => ?_) (fun cdv A outer s H vs Q E hr h => ?_)
  · obtain ⟨v, rfl, _⟩ := h
    rfl
  · refine ⟨_, (pss_one (ps_ret (pe_and (pe_callB call_isi rfl T.n_isinstance (by decide +kernel) (pa_cons (pv 0) (pa_cons (pe_bltn (v := .ty "tuple") rfl T.n_tuple (by decide +kernel) rfl) pa_nil))) (pe_and (pe_cmpR op_eq (pe_callB cn_len rfl T.n_len (by decide +kernel) (pa_cons (pv 0) pa_nil)) pe_int (nomark _)) (pe_one (pe_callB (cr_all rfl) rfl T.n_all (by decide +kernel) (pa_cons (pe_lc (own := [("part", 1)]) (g := gName 1) rfl sc_is_corner.nd (pi_tup (pv 0)) (blkOk_by (N := ["thing", "part"]) (sc := (defScope s_is_corner)) (by decide +kernel)) (fun _ _ _ _ _ => pg_name (i := 1) sc_is_corner.nd rfl (Or.inl rfl)) (fun _ _ _ _ _ => pts_nil) (fun _ _ _ _ _ => (pe_h (E := fun _ => E0) h_is_integral hr pa0 (pa_cons (pv 1) pa_nil)))) pa_nil))))))), ?_⟩
    try simp only [cxOf]
    obtain ⟨v, rfl, ⟨pl, nt, q⟩ | ⟨p, xs, rfl, ha, hl, hx, q⟩⟩ := h
    · obtain ⟨t, ty, _, _, k⟩ := pl.ty (K := Z.K)
      rw [nt] at k
      walk_at "W"
      refine w_isi ty k ?_
      walk_at "W"
      exact q
    · obtain ⟨t, ty, _, _, k⟩ := (Plain.tup p xs ha).ty (K := Z.K)
      rw [isTu_tup ha] at k
      walk_at "W"
      refine w_isi ty k ?_
      walk_at "W"
      refine w_lenT (SqT.of ha) ?_
      walk_at "W"
      rw [show decide (V.int ((xs.length : Nat) : Int) = V.int 4) = decide (xs.length = 4) from dec_len (k := 4)]
      cases e : decide (xs.length = 4)
      · walk_at "W"
        have q1 := q H (Same.refl _)
        unfold isCor at q1
        rw [e] at q1
        exact q1
      · walk_at "W"
        refine k_lcFlags (f := isI) ha hl (fun _ => rfl) (fun x H' hxm s N k => ?_) (fun D H' hD s e2 => ?_)
        · walk_at "W"
          exact ⟨x, rfl, thI_same (hx x hxm) s, k⟩
        · walk_at "W"
          refine w_all (SqL.of e2) ?_
          have q1 := q H' s
          unfold isCor at q1
          rw [e] at q1
          rw [show (xs.map isI).all id = xs.all isI from by rw [List.all_map]; rfl]
          exact q1
abbrev s_check_corner : Stmt := top 8
theorem sc_check_corner : FnScope ["corner"] ["corner"] (defScope s_check_corner) := ⟨rfl, rfl, rfl, by decide +kernel, rfl, by decide +kernel, by decide +kernel⟩

def sp_check_corner (Z : Zs) : Sp := fun vs H Q E =>
  ∃ v, vs = [v] ∧ ((∃ c, CorAt H v c) ∧ (∀ H', Same H H' → Q .non H') ∨ BadCor Z H v ∧ ErX Z.c_BadCorner "corner" v H E)
theorem ok_check_corner (T : Txt Z mg) (h_is_corner : Has P w Z.K mg base "is_corner" 2 ["thing"] (sp_is_corner Z)) (h_BadCorner : HasX P w Z.K mg base "BadCorner" Z.c_BadCorner 1 ["self", "corner"] (sp_BadCorner_init Z)) (D : AtF Z.K mg "check_corner" "check_corner" s_check_corner ["corner"]) : Has P w Z.K mg base "check_corner" 3 ["corner"] (sp_check_corner Z) := by
  refine D.ok sc_check_corner (fun vs H Q E h => ?_) (fun cdv A outer s H vs Q E hr h => ?_)
  · obtain ⟨v, rfl, _⟩ := h
    rfl
  · refine ⟨_, (pss_one (ps_if (pt_not (pt_val (pe_h (E := ED E) h_is_corner hr (paW (takes_of rfl rfl rfl rfl)) (pa_cons (pv 0) pa_nil)))) (pss_one (ps_raise rfl (takes_of rfl rfl rfl rfl) (pm_h T.x_BadCorner h_BadCorner hr (pa_cons (pv 0) pa_nil)))) pss_nil)), ?_⟩
    try simp only [cxOf]
    obtain ⟨v, rfl, ⟨⟨c, p, rfl, hp⟩, q⟩ | ⟨b, er⟩⟩ := h
    · walk_at "W"
      refine ⟨_, rfl, .inr ⟨p, _, rfl, hp, by simp, fun x hx => ?_, fun H' s => ?_⟩⟩
      · simp only [List.mem_cons, List.not_mem_nil, or_false] at hx
        rcases hx with rfl | rfl | rfl | rfl <;> exact (Plain.int _).thI
      · walk_at "W"
        exact q H' s
    · walk_at "W"
      rcases b with ⟨pl, nt⟩ | ⟨p, xs, rfl, hp, hl, hx, ic⟩
      · refine ⟨_, rfl, .inl ⟨pl, nt, ?_⟩⟩
        walk_at "W"
        exact k_mkO fun d H2 hd s4 e4 => er d H2 hd s4 e4
      · refine ⟨_, rfl, .inr ⟨p, xs, rfl, hp, hl, hx, fun H' s => ?_⟩⟩
        rw [ic]
        walk_at "W"
        exact k_mkO fun d H2 hd s4 e4 => er d H2 (s.free hd) (s.trans s4) e4
def C4.plus (c : C4) (k s : Int) : C4 := if k = 0 then ⟨c.a + s, c.b, c.c, c.d⟩ else if k = 1 then ⟨c.a, c.b + s, c.c, c.d⟩ else if k = 2 then ⟨c.a, c.b, c.c + s, c.d⟩ else ⟨c.a, c.b, c.c, c.d + s⟩
def stepC (c : C4) (d m : Int) : C4 := c.plus (d % 4) (if d < 4 then m else -m)
theorem dir_cases {d : Int} (h0 : 0 ≤ d) (h7 : d ≤ 7) : d = 0 ∨ d = 1 ∨ d = 2 ∨ d = 3 ∨ d = 4 ∨ d = 5 ∨ d = 6 ∨ d = 7 := by omega
def turn1 (c : C4) : C4 := ⟨-c.d, c.a, c.b, c.c⟩
def turnC : Nat → C4 → C4
  | 0, c => c
  | n + 1, c => turn1 (turnC n c)
def mirC (c : C4) : C4 := ⟨c.a, -c.d, -c.c, -c.b⟩
def greC (c : C4) : C4 := ⟨c.a + c.b - c.d, c.b + c.a + c.c, c.c + c.b + c.d, c.d - c.a + c.c⟩
def lesC (c : C4) : C4 := ⟨c.b - c.d - c.a, c.a + c.c - c.b, c.b + c.d - c.c, c.c - c.a - c.d⟩
def spCor (Z : Zs) (f : C4 → C4) : Sp := fun vs H Q E => ∃ v, vs = [v] ∧ ((∃ c, CorAt H v c ∧ ∀ v' H', Same H H' → CorAt H' v' (f c) → Q v' H') ∨ BadCor Z H v ∧ ErX Z.c_BadCorner "corner" v H E)
-- needs W15
local macro_rules | `(tactic| walk_at "s") => `(tactic| first | with_reducible refine L2.My.w_chain3 ?_ | with_reducible refine L2.My.w_lcZT ?_ | with_reducible refine L2.My.w_forEn ?_)
theorem k_tup3n {K : PySem.W.Frag} {T : Addr} {x y z : V} {σ σ' : L2.St} {H : Hp} {i j k : Nat} {N : L2.St → Hp → Prop} {n : Nat} (hT : H T = some (.tup [x, y, z])) (hn : n = 3) (hσ : ((σ.set i (some x)).set j (some y)).set k (some z) = σ') (q : N σ' H) :
    gTup K n (gCons (gName i) (gCons (gName j) (gCons (gName k) gNil))) (.ref T) σ H N := by
  subst hσ
  exact ⟨T, [x, y, z], rfl, SqT.of hT, by rw [hn]; rfl, x, _, rfl, y, _, rfl, z, [], rfl, rfl, q⟩
/-- a tile -/
def TileAt (H : Hp) (v : V) (c : C4) (i j : Int) : Prop := ∃ p x, v = .ref p ∧ H p = some (.tup [x, .int i, .int j]) ∧ CorAt H x c
theorem TileAt.kps {H H' : Hp} {v : V} {c : C4} {i j : Int} (h : TileAt H v c i j) (s : Kps H H') : TileAt H' v c i j := by
  obtain ⟨p, x, rfl, e, h⟩ := h
  exact ⟨p, x, rfl, s.tup e, h.kps s⟩
/-- a thing that is no tile -/
def NoTile (Z : Zs) (H : Hp) (v : V) : Prop := (Plain H v ∧ isTu H v = false) ∨ (∃ p xs, v = .ref p ∧ H p = some (.tup xs) ∧ xs.length ≠ 3) ∨ ∃ p x y z, v = .ref p ∧ H p = some (.tup [x, y, z]) ∧
  (BadCor Z H x ∨ (∃ c, CorAt H x c) ∧ ThI Z H y ∧ (isI y = false ∨ ∃ i, y = .int i ∧ ThI Z H z ∧ (isI z = false ∨ ∃ j, z = .int j ∧ ¬ (0 ≤ i ∧ i < j ∧ j ≤ 3))))
abbrev s_is_tile : Stmt := top 10
theorem sc_is_tile : FnScope ["thing", "corner", "i", "j"] ["thing"] (defScope s_is_tile) := ⟨rfl, rfl, rfl, by decide +kernel, rfl, by decide +kernel, by decide +kernel⟩

def sp_is_tile (Z : Zs) : Sp := fun vs H Q E =>
  ∃ v, vs = [v] ∧ ((NoTile Z H v ∧ ∀ H', Same H H' → Q (.bl false) H') ∨ ∃ c i j, TileAt H v c i j ∧ 0 ≤ i ∧ i < j ∧ j ≤ 3 ∧ ∀ H', Same H H' → Q (.bl true) H')
theorem ok_is_tile (T : Txt Z mg) (h_is_integral : Has P w Z.K mg base "is_integral" 1 ["thing"] (sp_is_integral Z)) (h_is_corner : Has P w Z.K mg base "is_corner" 2 ["thing"] (sp_is_corner Z)) (D : AtF Z.K mg "is_tile" "is_tile" s_is_tile ["thing"]) : Has P w Z.K mg base "is_tile" 3 ["thing"] (sp_is_tile Z) := by
  refine D.ok sc_is_tile (fun vs H Q E h => ?_) (fun cdv A outer s H vs Q E hr h => ?_)
  · obtain ⟨v, rfl, _⟩ := h
    rfl
  · refine ⟨_, (pss_cons (ps_if (PW.pt (pw_or (pt_not (pt_val (pe_callB call_isi rfl T.n_isinstance (by decide +kernel) (pa_cons (pv 0) (pa_cons (pe_bltn (v := .ty "tuple") rfl T.n_tuple (by decide +kernel) rfl) pa_nil))))) (pw_or1 (pt_cmpR op_ne (pe_callB cn_len rfl T.n_len (by decide +kernel) (pa_cons (pv 0) pa_nil)) pe_int (nomark _))))) (pss_one (ps_ret pe_bl)) pss_nil)
      (pss_cons (ps_asg (pv 0) (pg_tup rfl (pgs_cons (pg_name (i := 1) sc_is_tile.nd rfl (Or.inl rfl)) (pgs_cons (pg_name (i := 2) sc_is_tile.nd rfl (Or.inl rfl)) (pgs_cons (pg_name (i := 3) sc_is_tile.nd rfl (Or.inl rfl)) pgs_nil)))))
      (pss_one (ps_ret (pe_and (pe_h (E := ED E) h_is_corner hr (paW (takes_of rfl rfl rfl rfl)) (pa_cons (pv 1) pa_nil)) (pe_and (pe_h (E := ED E) h_is_integral hr (paW (takes_of rfl rfl rfl rfl)) (pa_cons (pv 2) pa_nil)) (pe_and (pe_h (E := ED E) h_is_integral hr (paW (takes_of rfl rfl rfl rfl)) (pa_cons (pv 3) pa_nil)) (pe_one (pe_chain3 op_le op_lt op_le pe_int (pv 2) (pv 3) pe_int))))))))), ?_⟩
    try simp only [cxOf]
    obtain ⟨v, rfl, ⟨hn, q⟩ | ⟨c, i, j, ⟨p, x, rfl, hp, pc, rfl, hc⟩, i0, ij, j3, q⟩⟩ := h
    · rcases hn with ⟨pl, nt⟩ | ⟨p, xs, rfl, hp, ne⟩ | ⟨p, x, y, z, rfl, hp, hh⟩
      · obtain ⟨ty, hty, _, _, k⟩ := pl.ty (K := Z.K)
        rw [nt] at k
        walk_at "W"
        refine w_isi hty k ?_
        walk_at "W"
        exact q H (Same.refl _)
      · obtain ⟨ty, hty, _, _, k⟩ := (Plain.tup p _ hp).ty (K := Z.K)
        rw [isTu_tup hp] at k
        walk_at "W"
        refine w_isi hty k ?_
        walk_at "W"
        refine w_lenT (SqT.of hp) ?_
        walk_at "W"
        rw [show decide (V.int ((xs.length : Nat) : Int) = V.int 3) = false from (dec_len (k := 3)).trans (decide_eq_false ne)]
        walk_at "W"
        exact q H (Same.refl _)
      · obtain ⟨ty, hty, _, _, k⟩ := (Plain.tup p _ hp).ty (K := Z.K)
        rw [isTu_tup hp] at k
        walk_at "W"
        refine w_isi hty k ?_
        walk_at "W"
        refine w_lenT (SqT.of hp) ?_
        walk_at "W"
        refine k_tup3n hp rfl rfl ?_
        walk_at "W"
        rcases hh with (⟨pl, nt⟩ | ⟨px, xs, rfl, hx, hl, hth, nc⟩) | ⟨⟨c, pc, rfl, hc⟩, hy, hyz⟩
        · refine ⟨x, rfl, .inl ⟨pl, nt, ?_⟩⟩
          walk_at "W"
          exact q H (Same.refl _)
        · refine ⟨_, rfl, .inr ⟨px, xs, rfl, hx, hl, hth, fun H1 s1 => ?_⟩⟩
          rw [nc]
          walk_at "W"
          exact q _ s1
        · refine ⟨_, rfl, .inr ⟨pc, _, rfl, hc, by simp, fun x hx => ?_, fun H1 s1 => ?_⟩⟩
          · simp only [List.mem_cons, List.not_mem_nil, or_false] at hx
            rcases hx with rfl | rfl | rfl | rfl <;> exact (Plain.int _).thI
          rw [show isCor [V.int c.a, .int c.b, .int c.c, .int c.d] = true from rfl]
          walk_at "W"
          refine ⟨y, rfl, thI_same hy s1, ?_⟩
          rcases hyz with ny | ⟨i, rfl, hz, hzz⟩
          · rw [ny]
            walk_at "W"
            exact q _ s1
          · rw [show isI (V.int i) = true from rfl]
            walk_at "W"
            refine ⟨z, rfl, thI_same hz s1, ?_⟩
            rcases hzz with nz | ⟨j, rfl, nij⟩
            · rw [nz]
              walk_at "W"
              exact q _ s1
            · rw [show isI (V.int j) = true from rfl]
              walk_at "W"
              by_cases h0 : 0 ≤ i
              · rw [decide_eq_true h0]
                walk_at "W"
                by_cases h1 : i < j
                · rw [decide_eq_true h1]
                  walk_at "W"
                  rw [decide_eq_false (show ¬ j ≤ 3 by omega)]
                  exact q _ s1
                · rw [decide_eq_false h1]
                  walk_at "W"
                  exact q _ s1
              · rw [decide_eq_false h0]
                walk_at "W"
                exact q _ s1
    · obtain ⟨ty, hty, _, _, k⟩ := (Plain.tup p _ hp).ty (K := Z.K)
      rw [isTu_tup hp] at k
      walk_at "W"
      refine w_isi hty k ?_
      walk_at "W"
      refine w_lenT (SqT.of hp) ?_
      walk_at "W"
      refine k_tup3n hp rfl rfl ?_
      walk_at "W"
      refine ⟨_, rfl, .inr ⟨pc, _, rfl, hc, by simp, fun x hx => ?_, fun H1 s1 => ?_⟩⟩
      · simp only [List.mem_cons, List.not_mem_nil, or_false] at hx
        rcases hx with rfl | rfl | rfl | rfl <;> exact (Plain.int _).thI
      rw [show isCor [V.int c.a, .int c.b, .int c.c, .int c.d] = true from rfl]
      walk_at "W"
      refine ⟨_, rfl, (Plain.int _).thI, ?_⟩
      rw [show isI (V.int i) = true from rfl]
      walk_at "W"
      refine ⟨_, rfl, (Plain.int _).thI, ?_⟩
      rw [show isI (V.int j) = true from rfl]
      walk_at "W"
      rw [decide_eq_true i0]
      walk_at "W"
      rw [decide_eq_true ij]
      walk_at "W"
      rw [decide_eq_true j3]
      exact q _ s1
-- needs W26
local macro_rules | `(tactic| walk_at "s") => `(tactic| first | with_reducible refine L2.My.w_forEnT ?_)
/-! rows of tiles, as lists or as tuples -/
def LT (H : Hp) (a : Addr) (xs : List V) : Prop := H a = some (.lst xs) ∨ H a = some (.tup xs)
theorem LT.same {H H' : Hp} {a : Addr} {xs : List V} (h : LT H a xs) (s : Same H H') : LT H' a xs := h.imp (s _ _) (s _ _)
/-- no list and no tuple -/
def NoRow (H : Hp) (v : V) : Prop := v = .non ∨ (∃ b, v = .bl b) ∨ (∃ i, v = .int i) ∨ (∃ s, v = .str s) ∨ ∃ a kvs, v = .ref a ∧ H a = some (.dK kvs)
theorem NoRow.same {H H' : Hp} {v : V} (h : NoRow H v) (s : Same H H') : NoRow H' v := by
  rcases h with h | h | h | h | ⟨a, kvs, rfl, e⟩
  · exact .inl h
  · exact .inr (.inl h)
  · exact .inr (.inr (.inl h))
  · exact .inr (.inr (.inr (.inl h)))
  · exact .inr (.inr (.inr (.inr ⟨a, kvs, rfl, s _ _ e⟩)))
theorem NoRow.ty {K : PySem.W.Frag} {H : Hp} {v : V} (h : NoRow H v) : ∃ t, TyX K H v t ∧ PySem.W.kitAny K t [.type "list", .type "tuple"] = some false := by
  have kb : ∀ (a : String), kitB a "list" = some false → kitB a "tuple" = some false → PySem.W.kitAny K (.type a) [.type "list", .type "tuple"] = some false := fun a h1 h2 => kitAny_cons (kit_ty h1) (fun _ => kitAny_cons (kit_ty h2) (fun _ => kitAny_nil) (by simp)) (by simp)
  rcases h with rfl | ⟨b, rfl⟩ | ⟨i, rfl⟩ | ⟨s, rfl⟩ | ⟨a, kvs, rfl, e⟩
  · exact ⟨_, .base .non, kb "NoneType" (by decide +kernel) (by decide +kernel)⟩
  · exact ⟨_, .base (.bl b), kb "bool" (by decide +kernel) (by decide +kernel)⟩
  · exact ⟨_, .base (.int i), kb "int" (by decide +kernel) (by decide +kernel)⟩
  · exact ⟨_, .base (.str s), kb "str" (by decide +kernel) (by decide +kernel)⟩
  · exact ⟨_, .base (.dK e), kb "dict" (by decide +kernel) (by decide +kernel)⟩
theorem LT.ty {K : PySem.W.Frag} {H : Hp} {a : Addr} {xs : List V} (h : LT H a xs) : ∃ t, TyX K H (.ref a) t ∧ PySem.W.kitAny K t [.type "list", .type "tuple"] = some true := by
  rcases h with e | e
  · exact ⟨_, .base (.lst e), kitAny_cons (b := true) (kit_ty (by decide +kernel)) (by simp) (by simp)⟩
  · exact ⟨_, .base (.tup e), kitAny_cons (b := false) (kit_ty (by decide +kernel)) (fun _ => kitAny_cons (b := true) (kit_ty (by decide +kernel)) (by simp) (by simp)) (by simp)⟩
theorem w_isiLT {K : PySem.W.Frag} {H : Hp} {Q : VK} {v : V} {p : Addr} {t : Value} {b : Bool} (hp : H p = some (.tup [.ty "list", .ty "tuple"])) (ty : TyX K H v t) (k : PySem.W.kitAny K t [.type "list", .type "tuple"] = some b) (q : Q (.bl b) H) : rIsiT K [v, .ref p] H Q :=
  ⟨v, p, _, t, _, b, rfl, hp, .cons (.ty "list") (.cons (.ty "tuple") .nil), ty, k, q⟩
theorem LT.len {K : PySem.W.Frag} {H : Hp} {Q : VK} {a : Addr} {xs : List V} (h : LT H a xs) (q : Q (.int ((xs.length : Nat) : Int)) H) : rLen K [.ref a] H Q := by
  rcases h with e | e
  · exact w_lenL (SqL.of e) q
  · exact w_lenT (SqT.of e) q
def IsT (H : Hp) (v : V) : Prop := ∃ c i j, TileAt H v c i j ∧ 0 ≤ i ∧ i < j ∧ j ≤ 3
theorem IsT.same {H H' : Hp} {v : V} (h : IsT H v) (s : Same H H') : IsT H' v := by
  obtain ⟨c, i, j, t, r⟩ := h
  exact ⟨c, i, j, t.kps (Kps.same s), r⟩
theorem NoTile.sameR {Z : Zs} {H H' : Hp} {v : V} (h : NoTile Z H v) (s : Same H H') : NoTile Z H' v := by
  rcases h with ⟨pl, nt⟩ | ⟨p, xs, rfl, hp, ne⟩ | ⟨p, x, y, z, rfl, hp, hh⟩
  · exact .inl ⟨pl.same s, (isTu_same pl s).trans nt⟩
  · exact .inr (.inl ⟨p, xs, rfl, s _ _ hp, ne⟩)
  · refine .inr (.inr ⟨p, x, y, z, rfl, s _ _ hp, ?_⟩)
    rcases hh with b | ⟨⟨c, hc⟩, ty, hh⟩
    · exact .inl (b.same s)
    · refine .inr ⟨⟨c, hc.same s⟩, thI_same ty s, ?_⟩
      rcases hh with e | ⟨i, rfl, tz, e⟩
      · exact .inl e
      · exact .inr ⟨i, rfl, thI_same tz s, e⟩
/-- what is told of a wrong row -/
def RowBad (Z : Zs) (H : Hp) (v : V) (m n : Int) : Prop := NoRow H v ∧ n = -1 ∨ ∃ a xs, v = .ref a ∧ LT H a xs ∧ xs.length ≤ 1000 ∧ (m < xs.length ∧ n = -1 ∨ (xs.length : Int) ≤ m ∧ ∃ k x, n = (k : Nat) ∧ xs[k]? = some x ∧ NoTile Z H x ∧ ∀ i y, i < k → xs[i]? = some y → IsT H y)
def RowOk (H : Hp) (v : V) (m : Int) : Prop := ∃ a xs, v = .ref a ∧ LT H a xs ∧ (xs.length : Int) ≤ m ∧ ∀ y ∈ xs, IsT H y
theorem RowBad.same {Z : Zs} {H H' : Hp} {v : V} {m n : Int} (h : RowBad Z H v m n) (s : Same H H') : RowBad Z H' v m n := by
  rcases h with ⟨nr, e⟩ | ⟨a, xs, rfl, lt, l1, hh⟩
  · exact .inl ⟨nr.same s, e⟩
  · refine .inr ⟨a, xs, rfl, lt.same s, l1, ?_⟩
    rcases hh with e | ⟨hm, k, x, e, hx, no, ok⟩
    · exact .inl e
    · exact .inr ⟨hm, k, x, e, hx, no.sameR s, fun i y hi hy => (ok i y hi hy).same s⟩
theorem RowOk.same {H H' : Hp} {v : V} {m : Int} (h : RowOk H v m) (s : Same H H') : RowOk H' v m := by
  obtain ⟨a, xs, rfl, lt, hl, hh⟩ := h
  exact ⟨a, xs, rfl, lt.same s, hl, fun y hy => (hh y hy).same s⟩
theorem cutV_tail {xs : List V} {k : Nat} : cutV xs (some (k : Int)) none = xs.drop k := by
  unfold cutV
  rw [show HT.sIx xs.length 0 (some (k : Int)) = min k xs.length from HT.sIx_nat _ _ _]
  show List.take (xs.length - min k xs.length) (List.drop (min k xs.length) xs) = _
  rcases Nat.le_total k xs.length with h | h
  · rw [Nat.min_eq_left h, List.take_of_length_le (by rw [List.length_drop]; omega)]
  · rw [Nat.min_eq_right h, List.drop_of_length_le h, List.drop_length, List.take_nil]
theorem cutV_head {xs : List V} {k : Nat} : cutV xs none (some (k : Int)) = xs.take k := by
  unfold cutV
  rw [show HT.sIx xs.length xs.length (some (k : Int)) = min k xs.length from HT.sIx_nat _ _ _]
  show List.take (min k xs.length - 0) (List.drop 0 xs) = _
  rw [List.drop_zero, Nat.sub_zero]
  rcases Nat.le_total k xs.length with h | h
  · rw [Nat.min_eq_left h]
  · rw [Nat.min_eq_right h, List.take_length, List.take_of_length_le h]
/-- two corners summed -/
def addC (c d : C4) : C4 := ⟨c.a + d.a, c.b + d.b, c.c + d.c, c.d + d.d⟩
def sumV (c d : C4) : List V := [.int (c.a + d.a), .int (c.b + d.b), .int (c.c + d.c), .int (c.d + d.d)]
abbrev s_plus : Stmt := top 16
theorem sc_plus : FnScope ["one", "other", "part", "more"] ["one", "other"] (defScope s_plus) := ⟨rfl, rfl, rfl, by decide +kernel, rfl, by decide +kernel, by decide +kernel⟩

def sp_plus (Z : Zs) : Sp := fun vs H Q E =>
  ∃ p q c d, vs = [.ref p, .ref q] ∧ H p = some (.tup [.int (c : C4).a, .int c.b, .int c.c, .int c.d]) ∧ H q = some (.tup [.int (d : C4).a, .int d.b, .int d.c, .int d.d]) ∧ ∀ u H', Same H H' → H' u = some (.tup (sumV c d)) → Q (.ref u) H'
theorem ok_plus (T : Txt Z mg)  (D : AtF Z.K mg "plus" "plus" s_plus ["one", "other"]) : Has P w Z.K mg base "plus" 1 ["one", "other"] (sp_plus Z) := by
  refine D.ok sc_plus (fun vs H Q E h => ?_) (fun cdv A outer s H vs Q E hr h => ?_)
  · obtain ⟨p, q, c, d, rfl, _⟩ := h
    rfl
  · refine ⟨_, (pss_one (ps_ret (pe_callTy cn_tuple rfl T.n_tuple (by decide +kernel) (pa_cons (pe_lc (own := [("part", 2), ("more", 3)]) (g := gTup Z.K 2 (gCons (gName 2) (gCons (gName 3) gNil))) rfl sc_plus.nd (RZ.pi_zipA rfl T.n_zip (pa_cons (pv 0) (pa_cons (pv 1) pa_nil))) (blkOk_by (N := ["one", "other", "part", "more"]) (sc := (defScope s_plus)) (by decide +kernel)) (fun _ _ _ _ _ => pg_tup rfl (pgs_cons (pg_name (i := 2) sc_plus.nd rfl (Or.inl rfl)) (pgs_cons (pg_name (i := 3) sc_plus.nd rfl (Or.inl rfl)) pgs_nil))) (fun _ _ _ _ _ => pts_nil) (fun _ _ _ _ _ => (pe_op op_add (pv 2) (pv 3)))) pa_nil)))), ?_⟩
    try simp only [cxOf]
    obtain ⟨p, q, c, d, rfl, hp, hq, k⟩ := h
    walk_at "W"
    refine k_lcZT (xs := [V.int c.a, .int c.b, .int c.c, .int c.d]) (ys := [V.int d.a, .int d.b, .int d.c, .int d.d]) (fun i D H' => H D = none ∧ H' D = some (.lst ((sumV c d).take i)) ∧ Same H H') hp hq rfl (fun D hD => ⟨hD, upd_same, Same.new hD⟩) (fun i D H' h => ⟨h.2.2 _ _ hp, h.2.2 _ _ hq⟩) ?_ ?_
    · rintro i x y D H' TT H5 hx hy ⟨hD, e1, ss⟩ hT s5 eT
      obtain ⟨z, z', rfl, rfl, ez, hi⟩ : ∃ z z', x = V.int z ∧ y = V.int z' ∧ (sumV c d).take (i + 1) = (sumV c d).take i ++ [.int (z + z')] ∧ i < 4 := by
        rcases i with _ | _ | _ | _ | i
        · cases hx; cases hy; exact ⟨_, _, rfl, rfl, rfl, by decide⟩
        · cases hx; cases hy; exact ⟨_, _, rfl, rfl, rfl, by decide⟩
        · cases hx; cases hy; exact ⟨_, _, rfl, rfl, rfl, by decide⟩
        · cases hx; cases hy; exact ⟨_, _, rfl, rfl, rfl, by decide⟩
        · simp at hx
      refine k_tupl2 eT rfl rfl ⟨rfl, w_yes (w_T rfl ?_)⟩
      walk_at "W"
      refine ⟨_, s5 _ _ e1, sz_lt (by simp [sumV]; omega), hD, ?_, fun b o e => ?_⟩
      · rw [ez]
        exact upd_same
      · rw [upd_ne (ne_of_none e hD)]
        exact s5 _ _ (ss b o e)
    · rintro D H5 ⟨hD, e1, ss⟩
      refine w_tupL (xs := sumV c d) e1 fun u H6 hu s6 e6 => k u H6 (ss.trans s6) e6
/-- a tile's numbers -/
structure Tl where
  c : C4
  i : Int
  j : Int
def Tl.moved (d : C4) (t : Tl) : Tl := ⟨addC t.c d, t.i, t.j⟩
/-- a row of tiles -/
def Tls (H : Hp) (xs : List V) (ts : List Tl) : Prop := xs.length = ts.length ∧ ∀ (k : Nat) x t, xs[k]? = some x → ts[k]? = some t → TileAt H x t.c t.i t.j
theorem Tls.kps {H H' : Hp} {xs : List V} {ts : List Tl} (h : Tls H xs ts) (s : Kps H H') : Tls H' xs ts := ⟨h.1, fun k x t hx ht => (h.2 k x t hx ht).kps s⟩
theorem Tls.nil {H : Hp} : Tls H [] [] := ⟨rfl, fun k x t h => by simp at h⟩
theorem Tls.snoc {H : Hp} {xs : List V} {ts : List Tl} {x : V} {t : Tl} (h : Tls H xs ts) (k : TileAt H x t.c t.i t.j) : Tls H (xs ++ [x]) (ts ++ [t]) := by
  refine ⟨by simp [h.1], fun n y u hy hu => ?_⟩
  rcases Nat.lt_trichotomy n xs.length with l | l | l
  · rw [List.getElem?_append_left l] at hy
    rw [List.getElem?_append_left (by rw [← h.1]; exact l)] at hu
    exact h.2 n y u hy hu
  · rw [List.getElem?_append_right (by omega), l] at hy
    rw [List.getElem?_append_right (by rw [← h.1]; omega), ← h.1, l] at hu
    simp at hy hu
    subst hy hu
    exact k
  · rw [List.getElem?_eq_none (by simp; omega)] at hy
    cases hy
abbrev s_moved_tiles : Stmt := top 17
theorem sc_moved_tiles : FnScope ["heap", "v", "corner", "i", "j"] ["heap", "v"] (defScope s_moved_tiles) := ⟨rfl, rfl, rfl, by decide +kernel, rfl, by decide +kernel, by decide +kernel⟩

def sp_moved_tiles (Z : Zs) : Sp := fun vs H Q E =>
  ∃ a q d xs ts, vs = [.ref a, .ref q] ∧ (H a = some (.lst xs) ∨ H a = some (.tup xs)) ∧ H q = some (.tup [.int (d : C4).a, .int d.b, .int d.c, .int d.d]) ∧ Tls H xs ts ∧ xs.length ≤ 500 ∧ ∀ u ys H', Same H H' → H' u = some (.tup ys) → Tls H' ys (ts.map (Tl.moved d)) → Q (.ref u) H'
theorem ok_moved_tiles (T : Txt Z mg) (h_plus : Has P w Z.K mg base "plus" 1 ["one", "other"] (sp_plus Z)) (D : AtF Z.K mg "moved_tiles" "moved_tiles" s_moved_tiles ["heap", "v"]) : Has P w Z.K mg base "moved_tiles" 2 ["heap", "v"] (sp_moved_tiles Z) := by
  refine D.ok sc_moved_tiles (fun vs H Q E h => ?_) (fun cdv A outer s H vs Q E hr h => ?_)
  · obtain ⟨a, q, d, xs, ts, rfl, _⟩ := h
    rfl
  · refine ⟨_, (pss_one (ps_ret (pe_callTy cn_tuple rfl T.n_tuple (by decide +kernel) (pa_cons (pe_lc (own := [("corner", 2), ("i", 3), ("j", 4)]) (g := gTup Z.K 3 (gCons (gName 2) (gCons (gName 3) (gCons (gName 4) gNil)))) rfl sc_moved_tiles.nd (pi_seq (pv 0)) (blkOk_by (N := ["heap", "v", "corner", "i", "j"]) (sc := (defScope s_moved_tiles)) (by decide +kernel)) (fun _ _ _ _ _ => pg_tup rfl (pgs_cons (pg_name (i := 2) sc_moved_tiles.nd rfl (Or.inl rfl)) (pgs_cons (pg_name (i := 3) sc_moved_tiles.nd rfl (Or.inl rfl)) (pgs_cons (pg_name (i := 4) sc_moved_tiles.nd rfl (Or.inl rfl)) pgs_nil)))) (fun _ _ _ _ _ => pts_nil) (fun _ _ _ _ _ => (pe_tup (pa_cons (pe_h (E := fun _ => E0) h_plus hr pa0 (pa_cons (pv 2) (pa_cons (pv 1) pa_nil))) (pa_cons (pv 3) (pa_cons (pv 4) pa_nil)))))) pa_nil)))), ?_⟩
    try simp only [cxOf]
    obtain ⟨a, q, d, xs, ts, rfl, ha, hq, hts, hl, k⟩ := h
    have turn : ∀ {i : Nat} {x : V} {D : Addr} {H' : Hp} (hx : xs[i]? = some x) (hD : H D = none) {ms : List V} (e1 : H' D = some (.lst ms)) (e2 : Tls H' ms ((ts.take i).map (Tl.moved d))) (ss : Same H H'), ∃ p c pc j1 j2, x = .ref p ∧ H' p = some (.tup [.ref pc, .int j1, .int j2]) ∧ H' pc = some (.tup [.int (c : C4).a, .int c.b, .int c.c, .int c.d]) ∧ ts[i]? = some ⟨c, j1, j2⟩ := by
      intro i x D H' hx hD ms e1 e2 ss
      have li : i < ts.length := by rw [← hts.1]; exact (List.getElem?_eq_some_iff.mp hx).1
      obtain ⟨p, y, rfl, e, pc, rfl, ec⟩ := hts.2 i x _ hx (List.getElem?_eq_getElem li)
      exact ⟨p, _, pc, _, _, rfl, ss _ _ e, ss _ _ ec, List.getElem?_eq_getElem li⟩
    rcases ha with ha | ha
    · walk_at "W"
      refine w_lcOL ?_
      walk_at "W"
      refine k_lcL (xs := xs) (fun i D H' => H D = none ∧ (∃ ms, H' D = some (.lst ms) ∧ Tls H' ms ((ts.take i).map (Tl.moved d))) ∧ Same H H') (SqL.of ha) (fun D hD => ⟨hD, ⟨[], upd_same, Tls.nil⟩, Same.new hD⟩) (fun i D H' h => SqL.of (h.2.2 _ _ ha)) ?_ ?_
      · rintro i x D H' hx ⟨hD, ⟨ms, e1, e2⟩, ss⟩
        obtain ⟨p, c, pc, j1, j2, rfl, ep, ec, et⟩ := turn hx hD e1 e2 ss
        refine k_tup3n ep rfl rfl ⟨rfl, w_yes (w_T rfl ?_)⟩
        walk_at "W"
        refine ⟨pc, q, c, d, rfl, ec, ss _ _ hq, fun u H5 s5 eu => ?_⟩
        walk_at "W"
        refine k_tup rfl fun t H6 ht s6 e6 => ?_
        have S := s5.trans s6
        have kp : Kps H' (upd H6 D (.lst (ms ++ [.ref t]))) := fun b o n e => by
          rw [upd_ne (ne_of e e1 (n _))]
          exact S _ _ e
        have nt : t ≠ D := fun z => by rw [z, S _ _ e1] at e6; cases e6
        have nu : u ≠ D := fun z => by rw [z, s5 _ _ e1] at eu; cases eu
        refine ⟨ms, S _ _ e1, sz_lt (by have := e2.1; have := (List.getElem?_eq_some_iff.mp hx).1; simp at *; omega), hD, ⟨ms ++ [.ref t], upd_same, ?_⟩, fun b o e => ?_⟩
        · rw [List.take_add_one, et, List.map_append]
          exact (e2.kps kp).snoc ⟨t, _, rfl, by rw [upd_ne nt]; exact e6, u, rfl, by rw [upd_ne nu]; exact s6 _ _ eu⟩
        · rw [upd_ne (ne_of_none e hD)]
          exact S _ _ (ss b o e)
      · rintro D H5 ⟨hD, ⟨ms, e1, e2⟩, ss⟩
        rw [hts.1, List.take_length] at e2
        exact w_tupL e1 fun u H6 hu s6 e6 => k u ms H6 (ss.trans s6) e6 (e2.kps (Kps.same s6))
    · walk_at "W"
      refine w_lcOT ?_
      walk_at "W"
      refine k_lcT (xs := xs) (fun i D H' => H D = none ∧ (∃ ms, H' D = some (.lst ms) ∧ Tls H' ms ((ts.take i).map (Tl.moved d))) ∧ Same H H') ha (fun D hD => ⟨hD, ⟨[], upd_same, Tls.nil⟩, Same.new hD⟩) (fun i D H' h => h.2.2 _ _ ha) ?_ ?_
      · rintro i x D H' hx ⟨hD, ⟨ms, e1, e2⟩, ss⟩
        obtain ⟨p, c, pc, j1, j2, rfl, ep, ec, et⟩ := turn hx hD e1 e2 ss
        refine k_tup3n ep rfl rfl ⟨rfl, w_yes (w_T rfl ?_)⟩
        walk_at "W"
        refine ⟨pc, q, c, d, rfl, ec, ss _ _ hq, fun u H5 s5 eu => ?_⟩
        walk_at "W"
        refine k_tup rfl fun t H6 ht s6 e6 => ?_
        have S := s5.trans s6
        have kp : Kps H' (upd H6 D (.lst (ms ++ [.ref t]))) := fun b o n e => by
          rw [upd_ne (ne_of e e1 (n _))]
          exact S _ _ e
        have nt : t ≠ D := fun z => by rw [z, S _ _ e1] at e6; cases e6
        have nu : u ≠ D := fun z => by rw [z, s5 _ _ e1] at eu; cases eu
        refine ⟨ms, S _ _ e1, sz_lt (by have := e2.1; have := (List.getElem?_eq_some_iff.mp hx).1; simp at *; omega), hD, ⟨ms ++ [.ref t], upd_same, ?_⟩, fun b o e => ?_⟩
        · rw [List.take_add_one, et, List.map_append]
          exact (e2.kps kp).snoc ⟨t, _, rfl, by rw [upd_ne nt]; exact e6, u, rfl, by rw [upd_ne nu]; exact s6 _ _ eu⟩
        · rw [upd_ne (ne_of_none e hD)]
          exact S _ _ (ss b o e)
      · rintro D H5 ⟨hD, ⟨ms, e1, e2⟩, ss⟩
        rw [hts.1, List.take_length] at e2
        exact w_tupL e1 fun u H6 hu s6 e6 => k u ms H6 (ss.trans s6) e6 (e2.kps (Kps.same s6))
abbrev s__law_sign : Stmt := top 23
theorem sc__law_sign : FnScope ["p", "q"] ["p", "q"] (defScope s__law_sign) := ⟨rfl, rfl, rfl, by decide +kernel, rfl, by decide +kernel, by decide +kernel⟩

def sp__law_sign (Z : Zs) : Sp := fun vs H Q E =>
  ∃ p q : Int, vs = [.int p, .int q] ∧ Bw 1000 p ∧ Bw 1000 q ∧ Q (.int (sg2 p q)) H
theorem ok__law_sign (T : Txt Z mg)  (D : AtF Z.K mg "_law_sign" "_law_sign" s__law_sign ["p", "q"]) : Has P w Z.K mg base "_law_sign" 1 ["p", "q"] (sp__law_sign Z) := by
  refine D.ok sc__law_sign (fun vs H Q E h => ?_) (fun cdv A outer s H vs Q E hr h => ?_)
  · obtain ⟨p, q, rfl, _⟩ := h
    rfl
  · refine ⟨_, (C8.pss_cut (ps_if (PW.pt (pw_and (pt_cmpR op_ge (pv 0) pe_int (nomark _)) (pw_and1 (pt_cmpR op_ge (pv 1) pe_int (nomark _))))) (pss_one (ps_ret (pe_callTy cn_int rfl T.n_int (by decide +kernel) (pa_cons (pe_cmpR op_gt (pe_op op_add (pv 0) (pv 1)) pe_int (nomark _)) pa_nil)))) pss_nil)
      (C8.pss_cut (ps_if (PW.pt (pw_and (pt_cmpR op_le (pv 0) pe_int (nomark _)) (pw_and1 (pt_cmpR op_le (pv 1) pe_int (nomark _))))) (pss_one (ps_ret (pe_un un_neg pe_int))) pss_nil)
      (pss_cons (ps_if (pt_cmpR op_gt (pv 0) pe_int (nomark _)) (pss_one (ps_ret (pe_op op_sub pe_int (pe_op op_mulS pe_int (pe_callTy cn_int rfl T.n_int (by decide +kernel) (pa_cons (pe_cmpR op_lt (pe_op op_mulS (pv 0) (pv 0)) (pe_op op_mulS (pe_op op_mulS pe_int (pv 1)) (pv 1)) (nomark _)) pa_nil)))))) pss_nil)
      (pss_one (ps_ret (pe_op op_sub pe_int (pe_op op_mulS pe_int (pe_callTy cn_int rfl T.n_int (by decide +kernel) (pa_cons (pe_cmpR op_gt (pe_op op_mulS (pv 0) (pv 0)) (pe_op op_mulS (pe_op op_mulS pe_int (pv 1)) (pv 1)) (nomark _)) pa_nil))))))))), ?_⟩
    try simp only [cxOf]
    obtain ⟨t, r, rfl, bt, br, q⟩ := h
    have L : ∀ {k : Int}, sg2 t r = k → Q (.int k) H := fun e => e ▸ q
    have big : ¬ (t = 0 ∧ r = 0) → ¬ (0 ≤ t ∧ 0 ≤ r) → ¬ (t ≤ 0 ∧ r ≤ 0) → ∀ {k : Int}, (if t * t > 2 * r * r then (if 0 < t then 1 else -1) else if 0 < r then 1 else -1) = k → Q (.int k) H := fun n1 n2 n3 k e => L (by unfold sg2; rw [if_neg n1, if_neg n2, if_neg n3]; exact e)
    walk_at "W"
    refine w_cut (fun σ' H' => (σ' = [some (.int t), some (.int r)] ∧ H' = H) ∧ ¬ (0 ≤ t ∧ 0 ≤ r)) ?_ ?_
    · walk_at "W"
      refine w_ite (fun h1 => ?_) (fun h1 => ?_)
      · walk_at "W"
        refine w_ite (fun h2 => ?_) (fun h2 => ?_)
        · walk_at "W"
          by_cases h3 : 0 < t + r
          · rw [decide_eq_true h3]
            exact L (by unfold sg2; rw [if_neg (by omega), if_pos (by omega)]; rfl)
          · rw [decide_eq_false h3]
            exact L (by unfold sg2; rw [if_pos (by omega)]; rfl)
        · walk_at "W"
          exact ⟨⟨rfl, rfl⟩, by omega⟩
      · walk_at "W"
        exact ⟨⟨rfl, rfl⟩, by omega⟩
    rintro σ' H' ⟨⟨rfl, rfl⟩, n2⟩
    walk_at "W"
    refine w_cut (fun σ' H1 => (σ' = [some (.int t), some (.int r)] ∧ H1 = H') ∧ ¬ (t ≤ 0 ∧ r ≤ 0)) ?_ ?_
    · walk_at "W"
      refine w_ite (fun h1 => ?_) (fun h1 => ?_)
      · walk_at "W"
        refine w_ite (fun h2 => ?_) (fun h2 => ?_)
        · walk_at "W"
          exact L (by unfold sg2; rw [if_neg (by omega), if_neg (by omega), if_pos (by omega)])
        · walk_at "W"
          exact ⟨⟨rfl, rfl⟩, by omega⟩
      · walk_at "W"
        exact ⟨⟨rfl, rfl⟩, by omega⟩
    rintro σ' H1 ⟨⟨rfl, rfl⟩, n3⟩
    have go : ∀ {k : Int}, (if t * t > 2 * r * r then (if 0 < t then 1 else -1) else if 0 < r then 1 else -1) = k → Q (.int k) H1 := fun e => big (by omega) n2 n3 e
    have ne : t * t ≠ 2 * r * r := fun e => n2 (by have := sqr2 (t := t) (r := r) (by omega); omega)
    walk_at "W"
    refine w_ite (fun h0 => ?_) (fun h0 => ?_)
    · repeat (first | walk_at "s" | walk_at "mul")
      by_cases h1 : t * t < 2 * r * r
      · rw [decide_eq_true h1, if_pos rfl]
        repeat (first | walk_at "s" | walk_at "mul")
        exact go (by rw [if_neg (by omega), if_neg (by omega)]; rfl)
      · rw [decide_eq_false h1, if_neg (by decide)]
        repeat (first | walk_at "s" | walk_at "mul")
        exact go (by rw [if_pos (by omega), if_pos (by omega)]; rfl)
    · repeat (first | walk_at "s" | walk_at "mul")
      by_cases h1 : t * t > 2 * r * r
      · rw [decide_eq_true h1, if_pos rfl]
        repeat (first | walk_at "s" | walk_at "mul")
        exact go (by rw [if_pos (by omega), if_neg (by omega)]; rfl)
      · rw [decide_eq_false h1, if_neg (by decide)]
        repeat (first | walk_at "s" | walk_at "mul")
        exact go (by rw [if_neg (by omega), if_pos (by omega)]; rfl)
def subV (c d : C4) : List V := [.int (c.a - d.a), .int (c.b - d.b), .int (c.c - d.c), .int (c.d - d.d)]
def subC (c d : C4) : C4 := ⟨c.a - d.a, c.b - d.b, c.c - d.c, c.d - d.d⟩
def starH (h : Int) (c : C4) : C4 := ⟨2 * h * c.a, h * (c.d - c.b), -2 * h * c.c, h * (c.b + c.d)⟩
def winC (h : Int) (c : C4) : Bool := winB h c.a c.b c.c c.d
def Bw4 (n : Nat) (c : C4) : Prop := Bw n c.a ∧ Bw n c.b ∧ Bw n c.c ∧ Bw n c.d
abbrev s__law_sum : Stmt := top 25
theorem sc__law_sum : FnScope ["one", "other", "k"] ["one", "other"] (defScope s__law_sum) := ⟨rfl, rfl, rfl, by decide +kernel, rfl, by decide +kernel, by decide +kernel⟩

def sp__law_sum (Z : Zs) : Sp := fun vs H Q E =>
  ∃ p q c d, vs = [.ref p, .ref q] ∧ H p = some (.tup [.int (c : C4).a, .int c.b, .int c.c, .int c.d]) ∧ H q = some (.tup [.int (d : C4).a, .int d.b, .int d.c, .int d.d]) ∧ ∀ u H', Same H H' → H' u = some (.tup (sumV c d)) → Q (.ref u) H'
theorem ok__law_sum (T : Txt Z mg)  (D : AtF Z.K mg "_law_sum" "_law_sum" s__law_sum ["one", "other"]) : Has P w Z.K mg base "_law_sum" 1 ["one", "other"] (sp__law_sum Z) := by
  refine D.ok sc__law_sum (fun vs H Q E h => ?_) (fun cdv A outer s H vs Q E hr h => ?_)
  · obtain ⟨p, q, c, d, rfl, _⟩ := h
    rfl
  · refine ⟨_, (pss_one (ps_ret (pe_callTy cn_tuple rfl T.n_tuple (by decide +kernel) (pa_cons (pe_lc (own := [("k", 2)]) (g := gName 2) rfl sc__law_sum.nd (pi_range1 rfl T.n_range (pa_cons pe_int pa_nil)) (blkOk_by (N := ["one", "other", "k"]) (sc := (defScope s__law_sum)) (by decide +kernel)) (fun _ _ _ _ _ => pg_name (i := 2) sc__law_sum.nd rfl (Or.inl rfl)) (fun _ _ _ _ _ => pts_nil) (fun _ _ _ _ _ => (pe_op op_add (pe_ix (ix_seqZ (K := Z.K) rfl) (pv 0) (pv 2) (fun _ _ => rfl)) (pe_ix (ix_seqZ (K := Z.K) rfl) (pv 1) (pv 2) (fun _ _ => rfl))))) pa_nil)))), ?_⟩
    try simp only [cxOf]
    obtain ⟨p, q, c, d, rfl, hp, hq, k⟩ := h
    walk_at "W"
    refine k_lcR (n := 4) (fun i D H' => H D = none ∧ H' D = some (.lst ((sumV c d).take i)) ∧ Same H H') (by decide) (by decide) (fun D hD => ⟨hD, upd_same, Same.new hD⟩) ?_ ?_
    · rintro i D H' hi ⟨hD, e1, ss⟩
      have hp := ss _ _ hp
      have hq := ss _ _ hq
      refine ⟨rfl, w_yes (w_T rfl ?_)⟩
      have hi4 : i < 4 := hi
      have fin : ∀ {z : Int}, (sumV c d).take (i + 1) = (sumV c d).take i ++ [.int z] → ∃ acc, H' D = some (.lst acc) ∧ acc.length < sizeLine ∧ H D = none ∧ (upd H' D (.lst (acc ++ [.int z]))) D = some (.lst ((sumV c d).take (i + 1))) ∧ Same H (upd H' D (.lst (acc ++ [.int z]))) := fun {z} ez => by
        refine ⟨_, e1, sz_lt (by simp [sumV]; omega), hD, by rw [ez]; exact upd_same, fun b o e => ?_⟩
        rw [upd_ne (ne_of_none e hD)]
        exact ss b o e
      rcases (show i = 0 ∨ i = 1 ∨ i = 2 ∨ i = 3 by omega) with rfl | rfl | rfl | rfl <;> (walk_at "W"; exact fin rfl)
    · rintro D H5 ⟨hD, e1, ss⟩
      refine w_tupL (xs := sumV c d) e1 fun u H6 hu s6 e6 => k u H6 (ss.trans s6) e6
abbrev s__law_less : Stmt := top 26
theorem sc__law_less : FnScope ["one", "other", "k"] ["one", "other"] (defScope s__law_less) := ⟨rfl, rfl, rfl, by decide +kernel, rfl, by decide +kernel, by decide +kernel⟩

def sp__law_less (Z : Zs) : Sp := fun vs H Q E =>
  ∃ p q c d, vs = [.ref p, .ref q] ∧ H p = some (.tup [.int (c : C4).a, .int c.b, .int c.c, .int c.d]) ∧ H q = some (.tup [.int (d : C4).a, .int d.b, .int d.c, .int d.d]) ∧ ∀ u H', Same H H' → H' u = some (.tup (subV c d)) → Q (.ref u) H'
theorem ok__law_less (T : Txt Z mg)  (D : AtF Z.K mg "_law_less" "_law_less" s__law_less ["one", "other"]) : Has P w Z.K mg base "_law_less" 1 ["one", "other"] (sp__law_less Z) := by
  refine D.ok sc__law_less (fun vs H Q E h => ?_) (fun cdv A outer s H vs Q E hr h => ?_)
  · obtain ⟨p, q, c, d, rfl, _⟩ := h
    rfl
  · refine ⟨_, (pss_one (ps_ret (pe_callTy cn_tuple rfl T.n_tuple (by decide +kernel) (pa_cons (pe_lc (own := [("k", 2)]) (g := gName 2) rfl sc__law_less.nd (pi_range1 rfl T.n_range (pa_cons pe_int pa_nil)) (blkOk_by (N := ["one", "other", "k"]) (sc := (defScope s__law_less)) (by decide +kernel)) (fun _ _ _ _ _ => pg_name (i := 2) sc__law_less.nd rfl (Or.inl rfl)) (fun _ _ _ _ _ => pts_nil) (fun _ _ _ _ _ => (pe_op op_sub (pe_ix (ix_seqZ (K := Z.K) rfl) (pv 0) (pv 2) (fun _ _ => rfl)) (pe_ix (ix_seqZ (K := Z.K) rfl) (pv 1) (pv 2) (fun _ _ => rfl))))) pa_nil)))), ?_⟩
    try simp only [cxOf]
    obtain ⟨p, q, c, d, rfl, hp, hq, k⟩ := h
    walk_at "W"
    refine k_lcR (n := 4) (fun i D H' => H D = none ∧ H' D = some (.lst ((subV c d).take i)) ∧ Same H H') (by decide) (by decide) (fun D hD => ⟨hD, upd_same, Same.new hD⟩) ?_ ?_
    · rintro i D H' hi ⟨hD, e1, ss⟩
      have hp := ss _ _ hp
      have hq := ss _ _ hq
      refine ⟨rfl, w_yes (w_T rfl ?_)⟩
      have hi4 : i < 4 := hi
      have fin : ∀ {z : Int}, (subV c d).take (i + 1) = (subV c d).take i ++ [.int z] → ∃ acc, H' D = some (.lst acc) ∧ acc.length < sizeLine ∧ H D = none ∧ (upd H' D (.lst (acc ++ [.int z]))) D = some (.lst ((subV c d).take (i + 1))) ∧ Same H (upd H' D (.lst (acc ++ [.int z]))) := fun {z} ez => by
        refine ⟨_, e1, sz_lt (by simp [subV]; omega), hD, by rw [ez]; exact upd_same, fun b o e => ?_⟩
        rw [upd_ne (ne_of_none e hD)]
        exact ss b o e
      rcases (show i = 0 ∨ i = 1 ∨ i = 2 ∨ i = 3 by omega) with rfl | rfl | rfl | rfl <;> (walk_at "W"; exact fin rfl)
    · rintro D H5 ⟨hD, e1, ss⟩
      refine w_tupL (xs := subV c d) e1 fun u H6 hu s6 e6 => k u H6 (ss.trans s6) e6
abbrev s__law_star : Stmt := top 24
theorem sc__law_star : FnScope ["corner", "half", "a", "b", "c", "e", "pair"] ["corner", "half"] (defScope s__law_star) := ⟨rfl, rfl, rfl, by decide +kernel, rfl, by decide +kernel, by decide +kernel⟩

def sp__law_star (Z : Zs) : Sp := fun vs H Q E =>
  ∃ p h c, vs = [.ref p, .int h] ∧ H p = some (.tup [.int (c : C4).a, .int c.b, .int c.c, .int c.d]) ∧ Bw 100 h ∧ Bw4 400 c ∧ ∀ u H', Same H H' → H' u = some (.tup [.int (starH h c).a, .int (starH h c).b, .int (starH h c).c, .int (starH h c).d]) → Q (.ref u) H'
theorem ok__law_star (T : Txt Z mg)  (D : AtF Z.K mg "_law_star" "_law_star" s__law_star ["corner", "half"]) : Has P w Z.K mg base "_law_star" 1 ["corner", "half"] (sp__law_star Z) := by
  refine D.ok sc__law_star (fun vs H Q E h => ?_) (fun cdv A outer s H vs Q E hr h => ?_)
  · obtain ⟨p, h, c, rfl, _⟩ := h
    rfl
  · refine ⟨_, (pss_cons (ps_asg (pv 0) (pg_tup rfl (pgs_cons (pg_name (i := 2) sc__law_star.nd rfl (Or.inl rfl)) (pgs_cons (pg_name (i := 3) sc__law_star.nd rfl (Or.inl rfl)) (pgs_cons (pg_name (i := 4) sc__law_star.nd rfl (Or.inl rfl)) (pgs_cons (pg_name (i := 5) sc__law_star.nd rfl (Or.inl rfl)) pgs_nil))))))
      (pss_cons (ps_set (i := 6) sc__law_star.nd rfl (Or.inl rfl) (pe_tup (pa_cons (pe_op op_mulS (pe_op op_mulS pe_int (pv 1)) (pv 2)) (pa_cons (pe_op op_mulS (pv 1) (pe_op op_sub (pv 5) (pv 3))) pa_nil))))
      (pss_one (ps_ret (pe_op op_catA (pv 6) (pe_tup (pa_cons (pe_op op_mulS (pe_op op_mulS (pe_un un_neg pe_int) (pv 1)) (pv 4)) (pa_cons (pe_op op_mulS (pv 1) (pe_op op_add (pv 3) (pv 5))) pa_nil)))))))), ?_⟩
    try simp only [cxOf]
    obtain ⟨p, h, c, rfl, hp, wh, ⟨wa, wb, wc, wd⟩, k⟩ := h
    have wn2 : Bw 2 (-2 : Int) := Bw.two.neg
    walk_at "W"
    refine k_tup4 hp rfl rfl ?_
    repeat (first | walk_at "s" | walk_at "mul")
    refine k_tup rfl fun u H1 hu s1 e1 => ?_
    repeat (first | walk_at "s" | walk_at "mul")
    refine k_tup rfl fun u2 H2 hu2 s2 e2 => ?_
    refine w_catA (s2 _ _ e1) e2 rfl fun u3 H3 s3 e3 => ?_
    exact k u3 H3 (s1.trans (s2.trans s3)) e3
abbrev s__law_within : Stmt := top 27
theorem sc__law_within : FnScope ["p", "q", "wide", "odd"] ["p", "q", "wide", "odd"] (defScope s__law_within) := ⟨rfl, rfl, rfl, by decide +kernel, rfl, by decide +kernel, by decide +kernel⟩

def sp__law_within (Z : Zs) : Sp := fun vs H Q E =>
  ∃ p q w o : Int, vs = [.int p, .int q, .int w, .int o] ∧ Bw 900 p ∧ Bw 900 q ∧ Bw 900 w ∧ Bw 900 o ∧ Q (.bl (wit p q w o)) H
theorem ok__law_within (T : Txt Z mg) (h__law_sign : Has P w Z.K mg base "_law_sign" 1 ["p", "q"] (sp__law_sign Z)) (D : AtF Z.K mg "_law_within" "_law_within" s__law_within ["p", "q", "wide", "odd"]) : Has P w Z.K mg base "_law_within" 2 ["p", "q", "wide", "odd"] (sp__law_within Z) := by
  refine D.ok sc__law_within (fun vs H Q E h => ?_) (fun cdv A outer s H vs Q E hr h => ?_)
  · obtain ⟨p, q, w, o, rfl, _⟩ := h
    rfl
  · refine ⟨_, (pss_one (ps_ret (pe_and (pe_cmpR op_gt (pe_h (E := ED E) h__law_sign hr (paW (takes_of rfl rfl rfl rfl)) (pa_cons (pe_op op_sub (pv 2) (pv 0)) (pa_cons (pe_op op_sub (pv 3) (pv 1)) pa_nil))) pe_int (nomark _)) (pe_one (pe_cmpR op_gt (pe_h (E := ED E) h__law_sign hr (paW (takes_of rfl rfl rfl rfl)) (pa_cons (pe_op op_add (pv 2) (pv 0)) (pa_cons (pe_op op_add (pv 3) (pv 1)) pa_nil))) pe_int (nomark _)))))), ?_⟩
    try simp only [cxOf]
    obtain ⟨p, q, w, o, rfl, wp, wq, ww, wo, k⟩ := h
    unfold wit at k
    walk_at "W"
    refine ⟨_, _, rfl, (ww.sub wp).mono (by decide), (wo.sub wq).mono (by decide), ?_⟩
    walk_at "W"
    by_cases c : 0 < sg2 (w - p) (o - q)
    · rw [decide_eq_true c] at k
      rw [decide_eq_true c]
      walk_at "W"
      refine ⟨_, _, rfl, (ww.add wp).mono (by decide), (wo.add wq).mono (by decide), ?_⟩
      walk_at "W"
      exact k
    · rw [decide_eq_false c] at k
      rw [decide_eq_false c]
      walk_at "W"
      exact k
abbrev s__law_in_window : Stmt := top 28
theorem sc__law_in_window : FnScope ["point", "half", "a", "b", "c", "e"] ["point", "half"] (defScope s__law_in_window) := ⟨rfl, rfl, rfl, by decide +kernel, rfl, by decide +kernel, by decide +kernel⟩

def sp__law_in_window (Z : Zs) : Sp := fun vs H Q E =>
  ∃ p h c, vs = [.ref p, .int h] ∧ H p = some (.tup [.int (c : C4).a, .int c.b, .int c.c, .int c.d]) ∧ Bw 100 h ∧ Bw4 700 c ∧ Q (.bl (winC h c)) H
theorem ok__law_in_window (T : Txt Z mg) (h__law_within : Has P w Z.K mg base "_law_within" 2 ["p", "q", "wide", "odd"] (sp__law_within Z)) (D : AtF Z.K mg "_law_in_window" "_law_in_window" s__law_in_window ["point", "half"]) : Has P w Z.K mg base "_law_in_window" 3 ["point", "half"] (sp__law_in_window Z) := by
  refine D.ok sc__law_in_window (fun vs H Q E h => ?_) (fun cdv A outer s H vs Q E hr h => ?_)
  · obtain ⟨p, h, c, rfl, _⟩ := h
    rfl
  · refine ⟨_, (pss_cons (ps_asg (pv 0) (pg_tup rfl (pgs_cons (pg_name (i := 2) sc__law_in_window.nd rfl (Or.inl rfl)) (pgs_cons (pg_name (i := 3) sc__law_in_window.nd rfl (Or.inl rfl)) (pgs_cons (pg_name (i := 4) sc__law_in_window.nd rfl (Or.inl rfl)) (pgs_cons (pg_name (i := 5) sc__law_in_window.nd rfl (Or.inl rfl)) pgs_nil))))))
      (pss_cons (ps_if (pt_not (pt_val (pe_h (E := ED E) h__law_within hr (paW (takes_of rfl rfl rfl rfl)) (pa_cons (pv 2) (pa_cons (pv 3) (pa_cons (pv 1) (pa_cons (pv 1) pa_nil))))))) (pss_one (ps_ret pe_bl)) pss_nil)
      (pss_cons (ps_if (pt_not (pt_val (pe_h (E := ED E) h__law_within hr (paW (takes_of rfl rfl rfl rfl)) (pa_cons (pv 4) (pa_cons (pv 5) (pa_cons (pv 1) (pa_cons (pv 1) pa_nil))))))) (pss_one (ps_ret pe_bl)) pss_nil)
      (pss_cons (ps_if (pt_not (pt_val (pe_h (E := ED E) h__law_within hr (paW (takes_of rfl rfl rfl rfl)) (pa_cons (pe_op op_add (pv 2) (pv 4)) (pa_cons (pe_op op_add (pv 3) (pv 5)) (pa_cons (pe_op op_mulS pe_int (pv 1)) (pa_cons (pv 1) pa_nil))))))) (pss_one (ps_ret pe_bl)) pss_nil)
      (pss_one (ps_ret (pe_h (E := ED E) h__law_within hr (paW (takes_of rfl rfl rfl rfl)) (pa_cons (pe_op op_sub (pv 2) (pv 4)) (pa_cons (pe_op op_sub (pv 3) (pv 5)) (pa_cons (pe_op op_mulS pe_int (pv 1)) (pa_cons (pv 1) pa_nil))))))))))), ?_⟩
    try simp only [cxOf]
    obtain ⟨p, h, c, rfl, hp, wh, ⟨wa, wb, wc, wd⟩, k⟩ := h
    unfold winC winB at k
    have u9 : ∀ {z : Int}, Bw 700 z → Bw 900 z := fun h => h.mono (by decide)
    have h9 : Bw 900 h := wh.mono (by decide)
    have h92 : Bw 900 (2 * h) := (Bw.two.mul wh).mono (by decide)
    walk_at "W"
    refine k_tup4 hp rfl rfl ?_
    walk_at "W"
    refine ⟨_, _, _, _, rfl, u9 wa, u9 wb, h9, h9, ?_⟩
    cases e1 : wit c.a c.b h h
    · rw [e1] at k
      walk_at "W"
      exact k
    rw [e1] at k
    repeat (first | walk_at "s" | walk_at "mul")
    refine ⟨_, _, _, _, rfl, u9 wc, u9 wd, h9, h9, ?_⟩
    cases e2 : wit c.c c.d h h
    · rw [e2] at k
      walk_at "W"
      exact k
    rw [e2] at k
    repeat (first | walk_at "s" | walk_at "mul")
    refine ⟨_, _, _, _, rfl, (wa.add wc).mono (by decide), (wb.add wd).mono (by decide), h92, h9, ?_⟩
    cases e3 : wit (c.a + c.c) (c.b + c.d) (2 * h) h
    · rw [e3] at k
      walk_at "W"
      exact k
    rw [e3] at k
    repeat (first | walk_at "s" | walk_at "mul")
    exact ⟨_, _, _, _, rfl, (wa.sub wc).mono (by decide), (wb.sub wd).mono (by decide), h92, h9, k⟩
/-- the law's floor -/
def LFl (H : Hp) (f : Addr) (h : Int) (s : C4) : Prop := ∃ p, H f = some (.tup [.int h, .ref p]) ∧ H p = some (.tup [.int s.a, .int s.b, .int s.c, .int s.d])
theorem LFl.kps {H H' : Hp} {f : Addr} {h : Int} {s : C4} (k : LFl H f h s) (x : Kps H H') : LFl H' f h s := by
  obtain ⟨p, a, b⟩ := k
  exact ⟨p, x.tup a, x.tup b⟩
def hasL (h : Int) (s c : C4) : Bool := winC h (subC (starH h c) s)
theorem star_bw {n : Nat} {h : Int} {c : C4} (wh : Bw 100 h) (wc : Bw4 400 c) : Bw4 600 (starH h c) := by
  have wn2 : Bw 2 (-2 : Int) := Bw.two.neg
  obtain ⟨wa, wb, wc, wd⟩ := wc
  exact ⟨((Bw.two.mul wh).mul wa).mono (by decide), (wh.mul (wd.sub wb)).mono (by decide), ((wn2.mul wh).mul wc).mono (by decide), (wh.mul (wb.add wd)).mono (by decide)⟩
theorem sub_bw {c d : C4} (wc : Bw4 600 c) (wd : Bw4 600 d) : Bw4 700 (subC c d) := ⟨(wc.1.sub wd.1).mono (by decide), (wc.2.1.sub wd.2.1).mono (by decide), (wc.2.2.1.sub wd.2.2.1).mono (by decide), (wc.2.2.2.sub wd.2.2.2).mono (by decide)⟩
abbrev s__law_has : Stmt := top 29
theorem sc__law_has : FnScope ["floor", "corner"] ["floor", "corner"] (defScope s__law_has) := ⟨rfl, rfl, rfl, by decide +kernel, rfl, by decide +kernel, by decide +kernel⟩

def sp__law_has (Z : Zs) : Sp := fun vs H Q E =>
  ∃ f p h s c, vs = [.ref f, .ref p] ∧ LFl H f h s ∧ H p = some (.tup [.int (c : C4).a, .int c.b, .int c.c, .int c.d]) ∧ Bw 100 h ∧ Bw4 600 s ∧ Bw4 400 c ∧ ∀ H', Same H H' → Q (.bl (hasL h s c)) H'
theorem ok__law_has (T : Txt Z mg) (h__law_in_window : Has P w Z.K mg base "_law_in_window" 3 ["point", "half"] (sp__law_in_window Z)) (h__law_less : Has P w Z.K mg base "_law_less" 1 ["one", "other"] (sp__law_less Z)) (h__law_star : Has P w Z.K mg base "_law_star" 1 ["corner", "half"] (sp__law_star Z)) (D : AtF Z.K mg "_law_has" "_law_has" s__law_has ["floor", "corner"]) : Has P w Z.K mg base "_law_has" 4 ["floor", "corner"] (sp__law_has Z) := by
  refine D.ok sc__law_has (fun vs H Q E h => ?_) (fun cdv A outer s H vs Q E hr h => ?_)
  · obtain ⟨f, p, h, s, c, rfl, _⟩ := h
    rfl
  · refine ⟨_, (pss_one (ps_ret (pe_h (E := ED E) h__law_in_window hr (paW (takes_of rfl rfl rfl rfl)) (pa_cons (pe_h (E := ED E) h__law_less hr (paW (takes_of rfl rfl rfl rfl)) (pa_cons (pe_h (E := ED E) h__law_star hr (paW (takes_of rfl rfl rfl rfl)) (pa_cons (pv 1) (pa_cons (pe_ix ix_seq (pv 0) pe_int (fun _ _ => rfl)) pa_nil))) (pa_cons (pe_ix ix_seq (pv 0) pe_int (fun _ _ => rfl)) pa_nil))) (pa_cons (pe_ix ix_seq (pv 0) pe_int (fun _ _ => rfl)) pa_nil))))), ?_⟩
    try simp only [cxOf]
    obtain ⟨f, p, h, s, c, rfl, ⟨ps, hf, hs⟩, hp, wh, ws, wc, k⟩ := h
    walk_at "W"
    refine ⟨p, h, c, rfl, hp, wh, wc, fun u H1 s1 e1 => ?_⟩
    have hf1 := s1 _ _ hf
    walk_at "W"
    refine ⟨u, ps, starH h c, s, rfl, e1, s1 _ _ hs, fun u2 H2 s2 e2 => ?_⟩
    have hf2 := s2 _ _ hf1
    walk_at "W"
    exact ⟨u2, h, subC (starH h c) s, rfl, e2, wh, sub_bw (star_bw (n := 0) wh wc) ws, k H2 (s1.trans s2)⟩
abbrev s__law_next : Stmt := top 30
theorem sc__law_next : FnScope ["corner", "direction", "made"] ["corner", "direction"] (defScope s__law_next) := ⟨rfl, rfl, rfl, by decide +kernel, rfl, by decide +kernel, by decide +kernel⟩

def sp__law_next (Z : Zs) : Sp := fun vs H Q E =>
  ∃ p c d, vs = [.ref p, .int d] ∧ H p = some (.tup [.int (c : C4).a, .int c.b, .int c.c, .int c.d]) ∧ 0 ≤ d ∧ d ≤ 7 ∧ ∀ u H', Same H H' → H' u = some (.tup [.int (stepC c d 1).a, .int (stepC c d 1).b, .int (stepC c d 1).c, .int (stepC c d 1).d]) → Q (.ref u) H'
theorem ok__law_next (T : Txt Z mg)  (D : AtF Z.K mg "_law_next" "_law_next" s__law_next ["corner", "direction"]) : Has P w Z.K mg base "_law_next" 1 ["corner", "direction"] (sp__law_next Z) := by
  refine D.ok sc__law_next (fun vs H Q E h => ?_) (fun cdv A outer s H vs Q E hr h => ?_)
  · obtain ⟨p, c, d, rfl, _⟩ := h
    rfl
  · refine ⟨_, (pss_cons (ps_set (i := 2) sc__law_next.nd rfl (Or.inl rfl) (pe_callTy cn_list rfl T.n_list (by decide +kernel) (pa_cons (pv 0) pa_nil)))
      (pss_cons (ps_asg (pe_op op_sub (pe_op op_add (pe_ix ix_seq (pv 2) (pe_op op_mod (pe_callTy cn_int rfl T.n_int (by decide +kernel) (pa_cons (pv 1) pa_nil)) pe_int) (fun _ _ => rfl)) pe_int) (pe_op op_mulS pe_int (pe_op op_fdivW (pv 1) pe_int))) (pg_sub (pv 2) (pe_op op_mod (pe_callTy cn_int rfl T.n_int (by decide +kernel) (pa_cons (pv 1) pa_nil)) pe_int) set_list))
      (pss_one (ps_ret (pe_callTy cn_tuple rfl T.n_tuple (by decide +kernel) (pa_cons (pv 2) pa_nil)))))), ?_⟩
    try simp only [cxOf]
    obtain ⟨p, c, d, rfl, hp, h0, h7, q⟩ := h
    walk_at "W"
    refine w_listT (SqT.of hp) fun l H1 hl s1 e1 => ?_
    have fin : ∀ {x y z u : Int} {H2 : Hp}, SameX l H1 H2 → H2 l = some (.lst [.int x, .int y, .int z, .int u]) → (⟨x, y, z, u⟩ : C4) = stepC c d 1 → rTupOf Z.K [.ref l] H2 Q := fun {x y z u H2} s2 e2 e => by
      refine w_tupL e2 fun t H3 ht s3 e3 => ?_
      have S : Same H H3 := fun b o eb => s3 _ _ (s2 b o (ne_of_none eb hl) (s1 _ _ eb))
      refine q _ H3 S ?_
      rw [← e]
      exact e3
    walk_at "W"
    rcases dir_cases h0 h7 with rfl | rfl | rfl | rfl | rfl | rfl | rfl | rfl
    all_goals
      walk_at "W"
      refine w_setL e1 rfl fun H2 s2 e2 => ?_
      walk_at "W"
      exact fin s2 e2 (by simp [stepC, C4.plus, Int.sub_eq_add_neg] <;> omega)
theorem step_bw4 {n : Nat} {c : C4} {d : Int} (h0 : 0 ≤ d) (h7 : d ≤ 7) (w : Bw4 n c) : Bw4 (n + 1) (stepC c d 1) := by
  obtain ⟨wa, wb, wc, wd⟩ := w
  have up : ∀ {z : Int}, Bw n z → Bw (n + 1) z := fun h => h.mono (by omega)
  have u1 : ∀ {z : Int}, Bw n z → Bw (n + 1) (z + 1) := fun {z} h => by
    unfold Bw at *
    rw [Nat.pow_succ]
    have : 0 < 2 ^ n := Nat.pow_pos (by decide)
    omega
  have u2 : ∀ {z : Int}, Bw n z → Bw (n + 1) (z + -1) := fun {z} h => by
    unfold Bw at *
    rw [Nat.pow_succ]
    have : 0 < 2 ^ n := Nat.pow_pos (by decide)
    omega
  rcases dir_cases h0 h7 with rfl | rfl | rfl | rfl | rfl | rfl | rfl | rfl
  · exact ⟨u1 wa, up wb, up wc, up wd⟩
  · exact ⟨up wa, u1 wb, up wc, up wd⟩
  · exact ⟨up wa, up wb, u1 wc, up wd⟩
  · exact ⟨up wa, up wb, up wc, u1 wd⟩
  · exact ⟨u2 wa, up wb, up wc, up wd⟩
  · exact ⟨up wa, u2 wb, up wc, up wd⟩
  · exact ⟨up wa, up wb, u2 wc, up wd⟩
  · exact ⟨up wa, up wb, up wc, u2 wd⟩
/-- the sides among the first n directions -/
def sidesN (h : Int) (s c : C4) (n : Nat) : List Int := ((List.range n).map Int.ofNat).filter fun d => hasL h s (stepC c d 1)
theorem sidesN_succ {h : Int} {s c : C4} {n : Nat} : sidesN h s c (n + 1) = sidesN h s c n ++ if hasL h s (stepC c n 1) then [(n : Int)] else [] := by
  unfold sidesN
  rw [List.range_succ, List.map_append, List.filter_append]
  simp only [List.map_cons, List.map_nil, List.filter_cons, List.filter_nil]
  rfl
theorem sidesN_len {h : Int} {s c : C4} {n : Nat} : (sidesN h s c n).length ≤ n := by
  unfold sidesN
  refine Nat.le_trans (List.length_filter_le _ _) (by simp)
abbrev s__law_sides : Stmt := top 31
theorem sc__law_sides : FnScope ["floor", "corner", "d"] ["floor", "corner"] (defScope s__law_sides) := ⟨rfl, rfl, rfl, by decide +kernel, rfl, by decide +kernel, by decide +kernel⟩

def sp__law_sides (Z : Zs) : Sp := fun vs H Q E =>
  ∃ f p h s c, vs = [.ref f, .ref p] ∧ LFl H f h s ∧ H p = some (.tup [.int (c : C4).a, .int c.b, .int c.c, .int c.d]) ∧ Bw 100 h ∧ Bw4 600 s ∧ Bw4 390 c ∧ ∀ u H', H u = none → Same H H' → H' u = some (.lst ((sidesN h s c 8).map V.int)) → Q (.ref u) H'
theorem ok__law_sides (T : Txt Z mg) (h__law_has : Has P w Z.K mg base "_law_has" 4 ["floor", "corner"] (sp__law_has Z)) (h__law_next : Has P w Z.K mg base "_law_next" 1 ["corner", "direction"] (sp__law_next Z)) (D : AtF Z.K mg "_law_sides" "_law_sides" s__law_sides ["floor", "corner"]) : Has P w Z.K mg base "_law_sides" 5 ["floor", "corner"] (sp__law_sides Z) := by
  refine D.ok sc__law_sides (fun vs H Q E h => ?_) (fun cdv A outer s H vs Q E hr h => ?_)
  · obtain ⟨f, p, h, s, c, rfl, _⟩ := h
    rfl
  · refine ⟨_, (pss_one (ps_ret (pe_lc (own := [("d", 2)]) (g := gName 2) rfl sc__law_sides.nd (pi_range1 rfl T.n_range (pa_cons pe_int pa_nil)) (blkOk_by (N := ["floor", "corner", "d"]) (sc := (defScope s__law_sides)) (by decide +kernel)) (fun _ _ _ _ _ => pg_name (i := 2) sc__law_sides.nd rfl (Or.inl rfl)) (fun _ _ _ _ _ => (pts_one (pt_val (pe_h (E := fun _ => E0) h__law_has hr pa0 (pa_cons (pv 0) (pa_cons (pe_h (E := fun _ => E0) h__law_next hr pa0 (pa_cons (pv 1) (pa_cons (pv 2) pa_nil))) pa_nil)))))) (fun _ _ _ _ _ => (pv 2))))), ?_⟩
    try simp only [cxOf]
    obtain ⟨f, p, h, s, c, rfl, hf, hp, wh, ws, wc, k⟩ := h
    walk_at "W"
    refine k_lcR (n := 8) (fun i D H' => H D = none ∧ H' D = some (.lst ((sidesN h s c i).map V.int)) ∧ Same H H') (by decide) (by decide) (fun D hD => ⟨hD, upd_same, Same.new hD⟩) ?_ ?_
    · rintro i D H' hi ⟨hD, e1, ss⟩
      have hi8 : i < 8 := hi
      have hp := ss _ _ hp
      have hf := hf.kps (Kps.same ss)
      refine ⟨rfl, ?_⟩
      walk_at "W"
      refine ⟨p, c, _, rfl, hp, by omega, by omega, fun u H5 s5 e5 => ?_⟩
      walk_at "W"
      refine ⟨f, u, h, s, _, rfl, hf.kps (Kps.same s5), e5, wh, ws, ?_, fun H6 s6 => ?_⟩
      · have w := step_bw4 (d := 0 + (i : Int)) (by omega) (by omega) wc
        exact ⟨w.1.mono (by decide), w.2.1.mono (by decide), w.2.2.1.mono (by decide), w.2.2.2.mono (by decide)⟩
      have S := s5.trans s6
      cases e : hasL h s (stepC c (0 + (i : Int)) 1)
      · walk_at "W"
        refine ⟨hD, ?_, ss.trans S⟩
        rw [Int.zero_add] at e
        rw [sidesN_succ, e, if_neg (by decide), List.append_nil]
        exact S _ _ e1
      · walk_at "W"
        refine ⟨_, S _ _ e1, sz_lt (by have := sidesN_len (h := h) (s := s) (c := c) (n := i); simp; omega), hD, ?_, fun b o eb => ?_⟩
        · rw [Int.zero_add] at e
          rw [sidesN_succ, e, if_pos rfl, List.map_append, upd_same, Int.zero_add]
          rfl
        · rw [upd_ne (ne_of_none eb hD)]
          exact S _ _ (ss b o eb)
    · rintro D H5 ⟨hD, e1, ss⟩
      exact k D H5 hD ss e1
/-- the law's pool at p, with its cells at l -/
def PlA (H : Hp) (p l : Addr) : Prop := ∃ (a b : Int) (ms : List Int), H p = some (.lst [.int a, .int b, .ref l]) ∧ H l = some (.lst (ms.map V.int)) ∧ l ≠ p ∧ ms.length ≤ 63
/-- all but the two stay -/
def SameXX (p l : Addr) (H H' : Hp) : Prop := ∀ b o, b ≠ p → b ≠ l → H b = some o → H' b = some o
theorem SameXX.refl {p l : Addr} {H : Hp} : SameXX p l H H := fun _ _ _ _ e => e
theorem SameXX.trans {p l : Addr} {A B C : Hp} (h : SameXX p l A B) (k : SameXX p l B C) : SameXX p l A C := fun b o n m e => k b o n m (h b o n m e)
theorem SameXX.of {p l : Addr} {A B : Hp} (h : Same A B) : SameXX p l A B := fun b o _ _ e => h b o e
theorem PlA.same {H H' : Hp} {p l : Addr} (h : PlA H p l) (s : Same H H') : PlA H' p l := by
  obtain ⟨a, b, ms, h1, h2, h3, h4⟩ := h
  exact ⟨a, b, ms, s _ _ h1, s _ _ h2, h3, h4⟩
theorem PlA.ne {H : Hp} {p l x : Addr} {o : HO} (h : PlA H p l) (e : H x = some o) (n : ∀ ys, o ≠ .lst ys) : x ≠ p ∧ x ≠ l := by
  obtain ⟨a, b, ms, h1, h2, h3, h4⟩ := h
  constructor
  · intro z
    rw [z, h1] at e
    cases e
    exact n _ rfl
  · intro z
    rw [z, h2] at e
    cases e
    exact n _ rfl
theorem PlA.new {H : Hp} {p l x : Addr} (h : PlA H p l) (e : H x = none) : x ≠ p ∧ x ≠ l := by
  obtain ⟨a, b, ms, h1, h2, h3, h4⟩ := h
  exact ⟨fun z => (by rw [z, h1] at e; cases e), fun z => (by rw [z, h2] at e; cases e)⟩
theorem PlA.kps {H H' : Hp} {p l : Addr} (h : PlA H p l) (s : SameXX p l H H') : Kps H H' := fun b o n e => s b o (h.ne e n).1 (h.ne e n).2 e
abbrev s__law_draw : Stmt := top 21
theorem sc__law_draw : FnScope ["pool", "many", "cells", "digit", "mixed"] ["pool", "many"] (defScope s__law_draw) := ⟨rfl, rfl, rfl, by decide +kernel, rfl, by decide +kernel, by decide +kernel⟩

def sp__law_draw (Z : Zs) : Sp := fun vs H Q E =>
  ∃ p l many, vs = [.ref p, .int many] ∧ PlA H p l ∧ 0 < many ∧ Bd many ∧ ∀ n H', 0 ≤ n → n < many → SameXX p l H H' → PlA H' p l → Q (.int n) H'
theorem ok__law_draw (T : Txt Z mg)  (D : AtF Z.K mg "_law_draw" "_law_draw" s__law_draw ["pool", "many"]) : Has P w Z.K mg base "_law_draw" 1 ["pool", "many"] (sp__law_draw Z) := by
  refine D.ok sc__law_draw (fun vs H Q E h => ?_) (fun cdv A outer s H vs Q E hr h => ?_)
  · obtain ⟨p, l, many, rfl, _⟩ := h
    rfl
  · refine ⟨_, (pss_cons (ps_set (i := 2) sc__law_draw.nd rfl (Or.inl rfl) (pe_ix ix_seq (pv 0) pe_int (fun _ _ => rfl)))
      (C8.pss_cut (ps_if (pt_cmpR op_gt (pe_callB cn_len rfl T.n_len (by decide +kernel) (pa_cons (pv 2) pa_nil)) pe_int (nomark _)) (pss_cons (ps_set (i := 3) sc__law_draw.nd rfl (Or.inl rfl) (pe_op op_mod (pe_callTy cn_int rfl T.n_int (by decide +kernel) (pa_cons (pe_ix ix_seq (pv 2) pe_int (fun _ _ => rfl)) pa_nil)) (pv 1)))
      (pss_cons (ps_asg (pe_op op_fdivW (pe_callTy cn_int rfl T.n_int (by decide +kernel) (pa_cons (pe_ix ix_seq (pv 2) pe_int (fun _ _ => rfl)) pa_nil)) (pv 1)) (pg_sub (pv 2) pe_int set_list))
      (pss_cons (ps_if (pt_cmpR op_eq (pe_ix ix_seq (pv 2) pe_int (fun _ _ => rfl)) pe_int (nomark _)) (pss_one (ps_expr (pe_bm PySem.F.plainAttrs_list PySem.F.slot_list_pop PySem.F.type_list_pop mt_popAt (pv 2) (pa_cons pe_int pa_nil)))) pss_nil)
      (pss_one (ps_ret (pv 3)))))) pss_nil)
      (pss_cons (ps_asg (pe_op op_add (pe_ix ix_seq (pv 0) pe_int (fun _ _ => rfl)) pe_int) (pg_sub (pv 0) pe_int set_list))
      (pss_cons (ps_set (i := 4) sc__law_draw.nd rfl (Or.inl rfl) (pe_op op_mod (pe_callTy cn_int rfl T.n_int (by decide +kernel) (pa_cons (pe_op op_mulS (pe_op op_add (pe_ix ix_seq (pv 0) pe_int (fun _ _ => rfl)) (pe_op op_mulS pe_int (pe_ix ix_seq (pv 0) pe_int (fun _ _ => rfl)))) pe_int) pa_nil)) pe_int))
      (pss_cons (ps_set (i := 4) sc__law_draw.nd rfl (Or.inl rfl) (pe_op op_mod (pe_callTy cn_int rfl T.n_int (by decide +kernel) (pa_cons (pe_op op_mulS (pv 4) (pe_op op_add (pe_op op_fdivW (pv 4) pe_int) pe_int)) pa_nil)) pe_int))
      (pss_cons (ps_set (i := 4) sc__law_draw.nd rfl (Or.inl rfl) (pe_op op_mod (pe_callTy cn_int rfl T.n_int (by decide +kernel) (pa_cons (pe_op op_mulS (pv 4) (pe_op op_add (pe_op op_fdivW (pv 4) pe_int) pe_int)) pa_nil)) pe_int))
      (pss_one (ps_ret (pe_op op_mod (pe_callTy cn_int rfl T.n_int (by decide +kernel) (pa_cons (pe_op op_fdivW (pv 4) pe_int) pa_nil)) (pv 1)))))))))), ?_⟩
    try simp only [cxOf]
    obtain ⟨p, l, many, rfl, ⟨a, b, ms, hp, hl, nl, lm⟩, hm, hmb, q⟩ := h
    have hdw : ∀ x : Int, CDivW x many := fun x => wide_div hm hmb (by decide) (by decide)
    walk_at "W"
    refine w_cut (fun σ' H' => H' = H ∧ ms = [] ∧ ∃ x, σ' = [some (.ref p), some (.int many), some (.ref l), x, none]) ?_ ?_
    · walk_at "W"
      refine w_lenL (SqL.of hl) ?_
      walk_at "W"
      refine w_ite (fun hg => ?_) (fun hg => ?_)
      · have lpos : 0 < ms.length := by simpa using hg
        obtain ⟨z, hz⟩ := atI_ints (ns := ms) (k := 0) (by decide) (by omega)
        have ix0 : ∀ (n : Nat), 0 < n → ixN n 0 = some 0 := fun n hn => by simp [ixN, hn]
        walk_at "W"
        refine w_ixL hl hz ?_
        walk_at "W"
        refine w_ixL hl hz ?_
        walk_at "W"
        refine w_I (hdw _) ?_
        walk_at "W"
        refine w_setL hl (ix0 _ (by simpa using lpos)) fun H1 s1 e1 => ?_
        rw [← List.map_set] at e1
        have hp1 := s1 _ _ (Ne.symm nl) hp
        have l1 : (ms.set 0 (z / many)).length ≤ 63 := by rw [List.length_set]; exact lm
        have l0 : 0 < (ms.set 0 (z / many)).length := by rw [List.length_set]; exact lpos
        have S1 : SameXX p l H H1 := fun b o _ n e => s1 b o n e
        have dig : ∀ {H' : Hp}, SameXX p l H H' → PlA H' p l → Q (.int (z % many)) H' := fun S P => q _ _ (Int.emod_nonneg _ (by omega)) (Int.emod_lt_of_pos _ hm) S P
        generalize ms.set 0 (z / many) = ks at *
        obtain ⟨z2, hz2⟩ := atI_ints (ns := ks) (k := 0) (by decide) (by omega)
        walk_at "W"
        refine w_ixL e1 hz2 ?_
        walk_at "W"
        refine w_ite (fun hg => ?_) (fun hg => ?_)
        · walk_at "W"
          refine k_bm e1 ?_
          walk_at "W"
          have l0' : 0 < (ks.map V.int).length := by simpa using l0
          refine ⟨l, _, 0, 0, .int (ks[0]'l0), rfl, rfl, e1, by decide, by decide, by simp [seqIndex?]; rintro rfl; simp at l0, by simp [l0], ?_⟩
          rw [show (ks.map V.int).eraseIdx 0 = (ks.eraseIdx 0).map V.int by cases ks <;> rfl]
          walk_at "W"
          refine dig (fun b o n m e => by rw [upd_ne m]; exact S1 b o n m e) ⟨a, b, ks.eraseIdx 0, by rw [upd_ne (Ne.symm nl)]; exact hp1, upd_same, nl, by have := List.length_eraseIdx_le ks 0; omega⟩
        · walk_at "W"
          exact dig S1 ⟨a, b, ks, hp1, e1, nl, l1⟩
      · walk_at "W"
        refine ⟨rfl, ?_, _, rfl⟩
        cases ms with
        | nil => rfl
        | cons z rest => simp at hg
    rintro σ' H1 ⟨rfl, rfl, x, rfl⟩
    walk_at "W"
    refine w_setL hp rfl fun H2 s2 e2 => ?_
    have hl2 := s2 _ _ nl hl
    walk_at "W"
    exact q _ _ (Int.emod_nonneg _ (by omega)) (Int.emod_lt_of_pos _ hm) (fun b o n _ e => s2 b o n e) ⟨a, b + 1, [], e2, hl2, nl, by simp⟩
theorem cut63 (ns : List Int) : ∃ ms : List Int, cutV (ns.map V.int) none (some 63) = ms.map V.int ∧ ms.length ≤ 63 := by
  unfold cutV
  refine ⟨((ns.drop (HT.sIx (ns.map V.int).length 0 none)).take (HT.sIx (ns.map V.int).length (ns.map V.int).length (some 63) - HT.sIx (ns.map V.int).length 0 none)), by rw [List.map_take, List.map_drop], ?_⟩
  rw [List.length_take]
  have : HT.sIx (ns.map V.int).length (ns.map V.int).length (some 63) ≤ 63 := by
    simp [HT.sIx]
    omega
  omega
abbrev s__law_pool : Stmt := top 20
theorem sc__law_pool : FnScope ["script", "seed", "cell"] ["script"] (defScope s__law_pool) := ⟨rfl, rfl, rfl, by decide +kernel, rfl, by decide +kernel, by decide +kernel⟩

def sp__law_pool (Z : Zs) : Sp := fun vs H Q E =>
  ∃ (a : Addr) (ns : List Int), vs = [.ref a] ∧ SqL Z.K H a (ns.map V.int) ∧ ∀ p l H', Same H H' → PlA H' p l → Q (.ref p) H'
theorem ok__law_pool (T : Txt Z mg)  (D : AtF Z.K mg "_law_pool" "_law_pool" s__law_pool ["script"]) : Has P w Z.K mg base "_law_pool" 1 ["script"] (sp__law_pool Z) := by
  refine D.ok sc__law_pool (fun vs H Q E h => ?_) (fun cdv A outer s H vs Q E hr h => ?_)
  · obtain ⟨a, ns, rfl, _⟩ := h
    rfl
  · refine ⟨_, (pss_cons (ps_set (i := 1) sc__law_pool.nd rfl (Or.inl rfl) (pe_op op_add (pe_callB cn_len rfl T.n_len (by decide +kernel) (pa_cons (pv 0) pa_nil)) pe_int))
      (pss_cons (ps_for (passes_of rfl) rfl (pi_list (pe_slice sl_list (pv 0) po_none (po_some pe_int))) (pg_name (i := 2) sc__law_pool.nd rfl (Or.inl rfl)) (pss_one (ps_set (i := 1) sc__law_pool.nd rfl (Or.inl rfl) (pe_op op_mod (pe_callTy cn_int rfl T.n_int (by decide +kernel) (pa_cons (pe_op op_add (pe_op op_add (pe_op op_mulS (pv 1) pe_int) (pe_op op_mod (pe_callTy cn_int rfl T.n_int (by decide +kernel) (pa_cons (pv 2) pa_nil)) pe_int)) pe_int) pa_nil)) pe_int))))
      (pss_one (ps_ret (pe_lst (pa_cons (pv 1) (pa_cons pe_int (pa_cons (pe_lc (own := [("cell", 2)]) (g := gName 2) rfl sc__law_pool.nd (pi_list (pe_slice sl_list (pv 0) po_none (po_some pe_int))) (blkOk_by (N := ["script", "seed", "cell"]) (sc := (defScope s__law_pool)) (by decide +kernel)) (fun _ _ _ _ _ => pg_name (i := 2) sc__law_pool.nd rfl (Or.inl rfl)) (fun _ _ _ _ _ => (pts_one (pt_cmpR op_ge (pe_callB cn_abs rfl T.n_abs (by decide +kernel) (pa_cons (pv 2) pa_nil)) (pe_op op_pow pe_int pe_int) (nomark _)))) (fun _ _ _ _ _ => (pe_callB cn_abs rfl T.n_abs (by decide +kernel) (pa_cons (pv 2) pa_nil)))) pa_nil)))))))), ?_⟩
    try simp only [cxOf]
    obtain ⟨a, ns, rfl, hs, q⟩ := h
    obtain ⟨ms, em, lm⟩ := cut63 ns
    have e18 : (10 : Int) ^ Int.toNat 18 = 1000000000000000000 := by decide
    walk_at "W"
    refine w_lenL hs ?_
    walk_at "W"
    refine k_slL hs fun l1 H1 hl1 s1 e1 => ?_
    rw [em] at e1
    refine k_forL (xs := ms.map V.int) (fun i σ' H' => Same H1 H' ∧ ∃ (z : Int) (x : Option V), σ' = [some (.ref a), some (.int z), x]) (SqL.of e1) ⟨Same.refl _, _, none, rfl⟩ (fun i σ H h => SqL.of (h.1 _ _ e1)) ?_ ?_
    · rintro i x σ' H' hx ⟨ss, z, y, rfl⟩
      obtain ⟨c, rfl⟩ : ∃ c, x = V.int c := by
        have := List.mem_of_getElem? hx
        simp only [List.mem_map] at this
        obtain ⟨c, _, e⟩ := this
        exact ⟨c, e.symm⟩
      walk_at "W"
      exact ⟨ss, _, _, rfl⟩
    · rintro σ' H' ⟨ss, z, y, rfl⟩
      have S1 := s1.trans ss
      walk_at "W"
      refine k_slL (hs.ext S1) fun l2 H2 hl2 s2 e2 => ?_
      rw [em] at e2
      refine k_lcL (xs := ms.map V.int) (fun i D H' => H2 D = none ∧ (∃ ks : List Int, H' D = some (.lst (ks.map V.int)) ∧ ks.length ≤ i) ∧ Same H2 H') (SqL.of e2) (fun D hD => ⟨hD, ⟨[], upd_same, Nat.le_refl _⟩, Same.new hD⟩) (fun i D H' h => SqL.of (h.2.2 _ _ e2)) ?_ ?_
      · rintro i x D H3 hx ⟨hD, ⟨ks, ek, lk⟩, s3⟩
        have hi : i < ms.length := by simpa using (List.getElem?_eq_some_iff.mp hx).1
        obtain ⟨c, rfl⟩ : ∃ c, x = V.int c := by
          have := List.mem_of_getElem? hx
          simp only [List.mem_map] at this
          obtain ⟨c, _, e⟩ := this
          exact ⟨c, e.symm⟩
        refine ⟨rfl, ?_⟩
        walk_at "W"
        rw [e18]
        refine w_ite (fun hg => ?_) (fun hg => ?_)
        · walk_at "W"
          refine ⟨_, ek, sz_lt (by simp; omega), hD, ⟨ks ++ [(c.natAbs : Int)], by rw [List.map_append]; exact upd_same, by simp; omega⟩, fun b o e => ?_⟩
          rw [upd_ne (ne_of_none e hD)]
          exact s3 b o e
        · exact ⟨hD, ⟨ks, ek, by omega⟩, s3⟩
      · rintro D H3 ⟨hD, ⟨ks, ek, lk⟩, s3⟩
        walk_at "W"
        refine k_lst rfl fun p H4 hp s4 e4 => ?_
        exact q p D H4 (S1.trans (s2.trans (s3.trans s4))) ⟨_, _, ks, e4, s4 _ _ ek, (fun h => by rw [← h, ek] at hp; cases hp), by simp at lk; omega⟩
theorem k_pool {p l : Addr} {many : Int} {H : Hp} {Q : VK} {E : XK} (hs : PlA H p l) (h1 : 0 < many) (h2 : Nat.ble many.natAbs (10 ^ 30) = true) (q : ∀ n H', 0 ≤ n → n < many → SameXX p l H H' → PlA H' p l → Q (.int n) H') : sp__law_draw Z [.ref p, .int many] H Q E :=
  ⟨p, l, many, rfl, hs, h1, Nat.lt_of_le_of_lt (Nat.le_of_ble_eq_true h2) (by decide), q⟩
abbrev s__law_great : Stmt := top 22
theorem sc__law_great : FnScope ["pool", "digits", "number", "k"] ["pool", "digits"] (defScope s__law_great) := ⟨rfl, rfl, rfl, by decide +kernel, rfl, by decide +kernel, by decide +kernel⟩

def sp__law_great (Z : Zs) : Sp := fun vs H Q E =>
  ∃ p l n, vs = [.ref p, .int n] ∧ PlA H p l ∧ (n = 45 ∨ n = 54) ∧ ∀ z H', Bw 181 z → SameXX p l H H' → PlA H' p l → Q (.int z) H'
theorem ok__law_great (T : Txt Z mg) (h__law_draw : Has P w Z.K mg base "_law_draw" 1 ["pool", "many"] (sp__law_draw Z)) (D : AtF Z.K mg "_law_great" "_law_great" s__law_great ["pool", "digits"]) : Has P w Z.K mg base "_law_great" 2 ["pool", "digits"] (sp__law_great Z) := by
  refine D.ok sc__law_great (fun vs H Q E h => ?_) (fun cdv A outer s H vs Q E hr h => ?_)
  · obtain ⟨p, l, n, rfl, _⟩ := h
    rfl
  · refine ⟨_, (pss_cons (ps_set (i := 2) sc__law_great.nd rfl (Or.inl rfl) pe_int)
      (pss_cons (ps_for (passes_of rfl) rfl (pi_range1 rfl T.n_range (pa_cons (pe_op op_fdivW (pv 1) pe_int) pa_nil)) (pg_name (i := 3) sc__law_great.nd rfl (Or.inl rfl)) (pss_one (ps_set (i := 2) sc__law_great.nd rfl (Or.inl rfl) (pe_op op_add (pe_op op_mulS (pv 2) (pe_op op_pow pe_int pe_int)) (pe_h (E := ED E) h__law_draw hr (paW (takes_of rfl rfl rfl rfl)) (pa_cons (pv 0) (pa_cons (pe_op op_pow pe_int pe_int) pa_nil)))))))
      (pss_one (ps_ret (pe_op op_sub (pv 2) (pe_op op_mulS (pe_op op_mulS pe_int (pv 2)) (pe_h (E := ED E) h__law_draw hr (paW (takes_of rfl rfl rfl rfl)) (pa_cons (pv 0) (pa_cons pe_int pa_nil))))))))), ?_⟩
    try simp only [cxOf]
    obtain ⟨p, l, n, rfl, hs, hn, q⟩ := h
    have e9 : (10 : Int) ^ Int.toNat 9 = 1000000000 := by decide
    walk_at "W"
    refine k_forR (fun i σ' H' => SameXX p l H H' ∧ PlA H' p l ∧ ∃ (z : Int) (x : Option V), σ' = [some (.ref p), some (.int n), some (.int z), x] ∧ 0 ≤ z ∧ z < 1000000000 ^ i) (by omega) (by omega) ⟨SameXX.refl, hs, _, none, rfl, by decide, by decide⟩ ?_ ?_
    · rintro i σ' H' hi ⟨ss, hs, z, x, rfl, z0, z1⟩
      walk_at "W"
      rw [e9]
      refine k_pool hs (by decide) (by decide) fun d H2 d0 d1 s2 hs2 => ?_
      walk_at "W"
      refine ⟨ss.trans s2, hs2, _, _, rfl, by omega, ?_⟩
      rw [Int.pow_succ]
      generalize (1000000000 : Int) ^ i = P at *
      omega
    · rintro σ' H' ⟨ss, hs, z, x, rfl, z0, z1⟩
      have wz : Bw 180 z := by
        have h6 : z < 1000000000 ^ 6 := by
          rcases hn with rfl | rfl
          · have : z < 1000000000 ^ 5 := z1
            exact Int.lt_of_lt_of_le this (by decide)
          · exact z1
        unfold Bw
        have e : (2 : Nat) ^ 180 = 1532495540865888858358347027150309183618739122183602176 := by decide
        have e6 : (1000000000 : Int) ^ 6 = 1000000000000000000000000000000000000000000000000000000 := by decide
        omega
      walk_at "W"
      refine k_pool hs (by decide) (by decide) fun d H2 d0 d1 s2 hs2 => ?_
      have wd : Bw 1 d := by unfold Bw; omega
      repeat (first | walk_at "s" | walk_at "mul")
      refine q _ H2 ?_ (ss.trans s2) hs2
      have : d = 0 ∨ d = 1 := by omega
      rcases this with rfl | rfl
      · rw [Int.mul_zero, Int.sub_zero]
        exact wz.mono (by decide)
      · unfold Bw at *
        rw [Nat.pow_succ]
        omega
theorem ints4P {vs : List V} (h : vs.length = 4) {P : Int → Prop} (hp : ∀ v ∈ vs, ∃ z, v = V.int z ∧ P z) : ∃ C : C4, vs = [.int C.a, .int C.b, .int C.c, .int C.d] ∧ P C.a ∧ P C.b ∧ P C.c ∧ P C.d := by
  match vs, h with
  | [a, b, c, d], _ =>
    obtain ⟨x, rfl, px⟩ := hp a (by simp)
    obtain ⟨y, rfl, py⟩ := hp b (by simp)
    obtain ⟨z, rfl, pz⟩ := hp c (by simp)
    obtain ⟨u, rfl, pu⟩ := hp d (by simp)
    exact ⟨⟨x, y, z, u⟩, rfl, px, py, pz, pu⟩
abbrev s__law_corner : Stmt := top 35
theorem sc__law_corner : FnScope ["pool", "far", "k"] ["pool", "far"] (defScope s__law_corner) := ⟨rfl, rfl, rfl, by decide +kernel, rfl, by decide +kernel, by decide +kernel⟩

def sp__law_corner (Z : Zs) : Sp := fun vs H Q E =>
  ∃ p l n, vs = [.ref p, .int n] ∧ PlA H p l ∧ (n = 45 ∨ n = 54) ∧ ∀ u (c : C4) H', Bw4 181 c → SameXX p l H H' → PlA H' p l → H' u = some (.tup [.int c.a, .int c.b, .int c.c, .int c.d]) → Q (.ref u) H'
theorem ok__law_corner (T : Txt Z mg) (h__law_draw : Has P w Z.K mg base "_law_draw" 1 ["pool", "many"] (sp__law_draw Z)) (h__law_great : Has P w Z.K mg base "_law_great" 2 ["pool", "digits"] (sp__law_great Z)) (D : AtF Z.K mg "_law_corner" "_law_corner" s__law_corner ["pool", "far"]) : Has P w Z.K mg base "_law_corner" 3 ["pool", "far"] (sp__law_corner Z) := by
  refine D.ok sc__law_corner (fun vs H Q E h => ?_) (fun cdv A outer s H vs Q E hr h => ?_)
  · obtain ⟨p, l, n, rfl, _⟩ := h
    rfl
  · refine ⟨_, (pss_cons (ps_if (PW.pt (pw_and (pt_cmpR op_gt (pv 1) pe_int (nomark _)) (pw_and1 (pt_cmpR op_eq (pe_h (E := ED E) h__law_draw hr (paW (takes_of rfl rfl rfl rfl)) (pa_cons (pv 0) (pa_cons pe_int pa_nil))) pe_int (nomark _))))) (pss_one (ps_ret (pe_callTy cn_tuple rfl T.n_tuple (by decide +kernel) (pa_cons (pe_lc (own := [("k", 2)]) (g := gName 2) rfl sc__law_corner.nd (pi_range1 rfl T.n_range (pa_cons pe_int pa_nil)) (blkOk_by (N := ["pool", "far", "k"]) (sc := (defScope s__law_corner)) (by decide +kernel)) (fun _ _ _ _ _ => pg_name (i := 2) sc__law_corner.nd rfl (Or.inl rfl)) (fun _ _ _ _ _ => pts_nil) (fun _ _ _ _ _ => (pe_h (E := fun _ => E0) h__law_great hr pa0 (pa_cons (pv 0) (pa_cons (pv 1) pa_nil))))) pa_nil)))) pss_nil)
      (pss_one (ps_ret (pe_callTy cn_tuple rfl T.n_tuple (by decide +kernel) (pa_cons (pe_lc (own := [("k", 2)]) (g := gName 2) rfl sc__law_corner.nd (pi_range1 rfl T.n_range (pa_cons pe_int pa_nil)) (blkOk_by (N := ["pool", "far", "k"]) (sc := (defScope s__law_corner)) (by decide +kernel)) (fun _ _ _ _ _ => pg_name (i := 2) sc__law_corner.nd rfl (Or.inl rfl)) (fun _ _ _ _ _ => pts_nil) (fun _ _ _ _ _ => (pe_op op_sub (pe_h (E := fun _ => E0) h__law_draw hr pa0 (pa_cons (pv 0) (pa_cons pe_int pa_nil))) pe_int))) pa_nil))))), ?_⟩
    try simp only [cxOf]
    obtain ⟨p, l, n, rfl, hs, hn, q⟩ := h
    have key : ∀ {H1 : Hp} (ss : SameXX p l H H1) (hs1 : PlA H1 p l) {te : TE} {ws : List Nat} {σ : L2.St} {slot : Nat} {Q2 : VK} (_ : ∀ z, wipe ((wipe σ ws).set slot (some (.int z))) ws = wipe σ ws)
        (_ : ∀ z H', PlA H' p l → ∀ N : VK, (∀ y H2, Bw 181 y → SameXX p l H' H2 → PlA H2 p l → N (.int y) H2) → te ((wipe σ ws).set slot (some (.int z))) H' N) (_ : ∀ D C H', Bw4 181 C → SameXX p l H1 H' → PlA H' p l → H' D = some (.lst [.int C.a, .int C.b, .int C.c, .int C.d]) → Q2 (.ref D) H'), CompR (gName slot) tYes te ws σ [.int 4] H1 Q2 := by
      intro H1 ss hs1 te ws σ slot Q2 hw turn hd
      refine k_lcR (n := 4) (fun i D H' => H1 D = none ∧ (∃ ms : List V, H' D = some (.lst ms) ∧ ms.length = i ∧ ∀ v ∈ ms, ∃ z, v = .int z ∧ Bw 181 z) ∧ PlA H' p l ∧ SameXX p l H1 H') (by decide) (by decide) (fun D hD => ⟨hD, ⟨[], upd_same, rfl, fun _ h => nomatch h⟩, hs1.same (Same.new hD), SameXX.of (Same.new hD)⟩) ?_ ?_
      · rintro i D H' hi ⟨hD, ⟨ms, e1, e2, e3⟩, hs2, s2⟩
        have hi4 : i < 4 := hi
        have nD := hs1.new hD
        refine ⟨hw _, w_yes (w_T rfl ?_)⟩
        refine turn _ H' hs2 _ fun y H3 wy s3 hs3 => ?_
        refine ⟨ms, s3 _ _ nD.1 nD.2 e1, sz_lt (by omega), hD, ⟨ms ++ [.int y], upd_same, by rw [List.length_append, e2]; rfl, fun v hv => ?_⟩, ?_, fun b o n m e => ?_⟩
        · rcases List.mem_append.mp hv with h | h
          · exact e3 v h
          · obtain rfl : v = V.int y := by simpa using h
            exact ⟨_, rfl, wy⟩
        · obtain ⟨a, b, ks, h1, h2, h3, h4⟩ := hs3
          exact ⟨a, b, ks, by rw [upd_ne (Ne.symm nD.1)]; exact h1, by rw [upd_ne (Ne.symm nD.2)]; exact h2, h3, h4⟩
        · rw [upd_ne (ne_of_none e hD)]
          exact s3 _ _ n m (s2 _ _ n m e)
      · rintro D H' ⟨hD, ⟨ms, e1, e2, e3⟩, hs2, s2⟩
        obtain ⟨C, rfl, ca, cb, cc, cd⟩ := ints4P e2 e3
        exact hd D C H' ⟨ca, cb, cc, cd⟩ s2 hs2 e1
    have far : ∀ {H1 : Hp} (ss : SameXX p l H H1) (D : Addr) (C : C4) (H' : Hp), Bw4 181 C → SameXX p l H1 H' → PlA H' p l → H' D = some (.lst [.int C.a, .int C.b, .int C.c, .int C.d]) → rTupOf Z.K [.ref D] H' Q := fun {H1} ss D C H' w s2 hs2 e => by
      refine w_tupL e fun u H6 hu s6 e6 => q u C H6 w (ss.trans (s2.trans (SameXX.of s6))) (hs2.same s6) e6
    walk_at "W"
    refine w_ite (fun _ => ?_) (fun hf => absurd (show (0 : Int) < n by omega) hf)
    walk_at "W"
    refine k_pool hs (by decide) (by decide) fun d H2 d0 d1 s2 hs2 => ?_
    walk_at "W"
    refine w_ite (fun _ => ?_) (fun _ => ?_)
    · walk_at "W"
      refine key s2 hs2 (fun z => rfl) (fun z H' hs3 N k => ?_) (far s2)
      walk_at "W"
      exact ⟨p, l, n, rfl, hs3, hn, fun y H4 wy s4 hs4 => k y H4 wy s4 hs4⟩
    · walk_at "W"
      refine key s2 hs2 (fun z => rfl) (fun z H' hs3 N k => ?_) (far s2)
      walk_at "W"
      refine k_pool hs3 (by decide) (by decide) fun e H4 e0 e1 s4 hs4 => ?_
      walk_at "W"
      exact k _ H4 ((bw_of (n := 8) (k := 5) (by omega) (by decide)).mono (by decide)) s4 hs4
/-! what outlasts a draw: all but lists as it was, a list stays a list -/
def Lk (H H' : Hp) : Prop := Kps H H' ∧ ∀ a xs, H a = some (.lst xs) → ∃ ys, H' a = some (.lst ys)
theorem Lk.pool {H H' : Hp} {p l : Addr} (h : PlA H p l) (h' : PlA H' p l) (x : SameXX p l H H') : Lk H H' := ⟨h.kps x, fun a xs e => by
  obtain ⟨_, _, _, f1, f2, -⟩ := h'
  by_cases z : a = p
  · exact z ▸ ⟨_, f1⟩
  by_cases w : a = l
  · exact w ▸ ⟨_, f2⟩
  exact ⟨xs, x a _ z w e⟩⟩
theorem Lk.same {H H' : Hp} (s : Same H H') : Lk H H' := ⟨Kps.same s, fun a xs e => ⟨xs, s _ _ e⟩⟩
theorem Lk.trans {A B C : Hp} (h : Lk A B) (k : Lk B C) : Lk A C := ⟨h.1.trans k.1, fun a xs e => by
  obtain ⟨ys, e'⟩ := h.2 a xs e
  exact k.2 a ys e'⟩
theorem Lk.dK {A B : Hp} (k : Lk A B) {a : Addr} {kvs : List (L2.Key × V)} (e : A a = some (.dK kvs)) : B a = some (.dK kvs) := k.1 _ _ (by intro xs z; cases z) e
theorem Plain.lk {H H' : Hp} {v : V} (h : Plain H v) (k : Lk H H') : Plain H' v := by
  cases h with
  | non => exact .non
  | bl b => exact .bl b
  | int i => exact .int i
  | str s => exact .str s
  | lst a xs e =>
    obtain ⟨ys, e'⟩ := k.2 a xs e
    exact .lst a ys e'
  | tup a xs e => exact .tup a xs (k.1.tup e)
  | dK a xs e => exact .dK a xs (k.dK e)
theorem isTu_lk {H H' : Hp} {v : V} (h : Plain H v) (k : Lk H H') : isTu H' v = isTu H v := by
  cases h with
  | lst a xs e =>
    obtain ⟨ys, e'⟩ := k.2 a xs e
    rw [isTu_lst e, isTu_lst e']
  | tup a xs e => rw [isTu_tup e, isTu_tup (k.1.tup e)]
  | dK a xs e => rw [isTu_dK e, isTu_dK (k.dK e)]
  | _ => rfl
theorem Th.lk {H H' : Hp} {v : V} (h : Plain H v) (k : Lk H H') : Plain H' v := Plain.lk h k
theorem BadCor.lk {Z : Zs} {H H' : Hp} {v : V} (h : BadCor Z H v) (k : Lk H H') : BadCor Z H' v := by
  rcases h with ⟨a, b⟩ | ⟨p, xs, rfl, e, l, x, c⟩
  · exact .inl ⟨a.lk k, (isTu_lk a k).trans b⟩
  · exact .inr ⟨p, xs, rfl, k.1.tup e, l, fun y hy => Th.lk (x y hy) k, c⟩
theorem NoTile.lk {Z : Zs} {H H' : Hp} {v : V} (h : NoTile Z H v) (k : Lk H H') : NoTile Z H' v := by
  rcases h with ⟨pl, nt⟩ | ⟨p, xs, rfl, hp, ne⟩ | ⟨p, x, y, z, rfl, hp, hh⟩
  · exact .inl ⟨pl.lk k, (isTu_lk pl k).trans nt⟩
  · exact .inr (.inl ⟨p, xs, rfl, k.1.tup hp, ne⟩)
  · refine .inr (.inr ⟨p, x, y, z, rfl, k.1.tup hp, ?_⟩)
    rcases hh with b | ⟨⟨c, hc⟩, ty, hh⟩
    · exact .inl (b.lk k)
    · refine .inr ⟨⟨c, hc.kps k.1⟩, Th.lk ty k, ?_⟩
      rcases hh with e | ⟨i, rfl, tz, e⟩
      · exact .inl e
      · exact .inr ⟨i, rfl, Th.lk tz k, e⟩
abbrev s__law_barred : Stmt := top 33
theorem sc__law_barred : FnScope ["shift", "half", "a", "b", "c", "e", "unit", "pairs", "k", "p", "q"] ["shift", "half"] (defScope s__law_barred) := ⟨rfl, rfl, rfl, by decide +kernel, rfl, by decide +kernel, by decide +kernel⟩

def sp__law_barred (Z : Zs) : Sp := fun vs H Q E =>
  ∃ p h c, vs = [.ref p, .int h] ∧ H p = some (.tup [.int (c : C4).a, .int c.b, .int c.c, .int c.d]) ∧ 0 < h ∧ Bw 100 h ∧ ∀ v H', Same H H' → (v = .non ∨ ∃ k, v = .int k) → Q v H'
theorem ok__law_barred (T : Txt Z mg)  (D : AtF Z.K mg "_law_barred" "_law_barred" s__law_barred ["shift", "half"]) : Has P w Z.K mg base "_law_barred" 1 ["shift", "half"] (sp__law_barred Z) := by
  refine D.ok sc__law_barred (fun vs H Q E h => ?_) (fun cdv A outer s H vs Q E hr h => ?_)
  · obtain ⟨p, h, c, rfl, _⟩ := h
    rfl
  · refine ⟨_, (pss_cons (ps_asg (pv 0) (pg_tup rfl (pgs_cons (pg_name (i := 2) sc__law_barred.nd rfl (Or.inl rfl)) (pgs_cons (pg_name (i := 3) sc__law_barred.nd rfl (Or.inl rfl)) (pgs_cons (pg_name (i := 4) sc__law_barred.nd rfl (Or.inl rfl)) (pgs_cons (pg_name (i := 5) sc__law_barred.nd rfl (Or.inl rfl)) pgs_nil))))))
      (pss_cons (ps_set (i := 6) sc__law_barred.nd rfl (Or.inl rfl) (pe_op op_mulS pe_int (pv 1)))
      (pss_cons (ps_set (i := 7) sc__law_barred.nd rfl (Or.inl rfl) (pe_lst (pa_cons (pe_tup (pa_cons (pv 4) (pa_cons (pv 5) pa_nil))) (pa_cons (pe_tup (pa_cons (pe_op op_add (pv 2) (pv 4)) (pa_cons (pe_op op_add (pv 3) (pv 5)) pa_nil))) pa_nil))))
      (pss_cons (ps_set (i := 7) sc__law_barred.nd rfl (Or.inl rfl) (pe_op op_cat (pv 7) (pe_lst (pa_cons (pe_tup (pa_cons (pv 2) (pa_cons (pv 3) pa_nil))) (pa_cons (pe_tup (pa_cons (pe_op op_sub (pv 4) (pv 2)) (pa_cons (pe_op op_sub (pv 5) (pv 3)) pa_nil))) pa_nil)))))
      (pss_cons (ps_for (passes_of rfl) rfl (pi_range1 rfl T.n_range (pa_cons pe_int pa_nil)) (pg_name (i := 8) sc__law_barred.nd rfl (Or.inl rfl)) (pss_cons (ps_asg (pe_ix ix_seq (pv 7) (pv 8) (fun _ _ => rfl)) (pg_tup rfl (pgs_cons (pg_name (i := 9) sc__law_barred.nd rfl (Or.inl rfl)) (pgs_cons (pg_name (i := 10) sc__law_barred.nd rfl (Or.inl rfl)) pgs_nil))))
      (C8.pss_cut (ps_if (PW.pt (pw_and (pt_cmpR op_in_seq (pv 8) (pe_lst (pa_cons pe_int (pa_cons pe_int pa_nil))) (by rfl)) (pw_and (pt_cmpR op_eq (pe_op op_mod (pe_callTy cn_int rfl T.n_int (by decide +kernel) (pa_cons (pe_op op_sub (pv 9) (pv 1)) pa_nil)) (pv 6)) pe_int (nomark _)) (pw_and1 (pt_cmpR op_eq (pe_op op_mod (pe_callTy cn_int rfl T.n_int (by decide +kernel) (pa_cons (pv 10) pa_nil)) (pv 1)) pe_int (nomark _)))))) (pss_one (ps_ret (pv 8))) pss_nil)
      (pss_one (ps_if (PW.pt (pw_and (pt_cmpR op_in_seq (pv 8) (pe_lst (pa_cons pe_int (pa_cons pe_int pa_nil))) (by rfl)) (pw_and (pt_cmpR op_eq (pe_op op_mod (pe_callTy cn_int rfl T.n_int (by decide +kernel) (pa_cons (pv 9) pa_nil)) (pv 6)) pe_int (nomark _)) (pw_and1 (pt_cmpR op_eq (pe_op op_mod (pe_callTy cn_int rfl T.n_int (by decide +kernel) (pa_cons (pe_op op_sub (pv 10) (pv 1)) pa_nil)) (pv 6)) pe_int (nomark _)))))) (pss_one (ps_ret (pv 8))) pss_nil)))))
      (pss_one (ps_ret pe_non))))))), ?_⟩
    try simp only [cxOf]
    obtain ⟨p, h, c, rfl, hp, h0, wh, q⟩ := h
    have hdw : ∀ x : Int, CDivW x h := fun x => wide_div h0 (wh.bd (by decide)) (by decide) (by decide)
    have hdu : ∀ x : Int, CDivW x (2 * h) := fun x => wide_div (by omega) ((Bw.two.mul wh).bd (by decide)) (by decide) (by decide)
    walk_at "W"
    refine k_tup4 hp rfl rfl ?_
    repeat (first | walk_at "s" | walk_at "mul")
    refine k_tup rfl fun u1 H1 hu1 s1 e1 => ?_
    repeat (first | walk_at "s" | walk_at "mul")
    refine k_tup rfl fun u2 H2 hu2 s2 e2 => ?_
    walk_at "W"
    refine k_lst rfl fun l1 H3 hl1 s3 e3 => ?_
    walk_at "W"
    refine k_tup rfl fun u3 H4 hu3 s4 e4 => ?_
    walk_at "W"
    refine k_tup rfl fun u4 H5 hu4 s5 e5 => ?_
    walk_at "W"
    refine k_lst rfl fun l2 H6 hl2 s6 e6 => ?_
    have e3 := s6 _ _ (s5 _ _ (s4 _ _ e3))
    refine ⟨l1, l2, _, _, rfl, rfl, e3, e6, sz1000 (by simp), fun l3 hl3 => ?_⟩
    have s7 := Same.new (o := .lst ([V.ref u1, .ref u2] ++ [.ref u3, .ref u4])) hl3
    have S := s1.trans (s2.trans (s3.trans (s4.trans (s5.trans (s6.trans s7)))))
    have e1 := s7 _ _ (s6 _ _ (s5 _ _ (s4 _ _ (s3 _ _ (s2 _ _ e1)))))
    have e2 := s7 _ _ (s6 _ _ (s5 _ _ (s4 _ _ (s3 _ _ e2))))
    have e4 := s7 _ _ (s6 _ _ (s5 _ _ e4))
    have e5 := s7 _ _ (s6 _ _ e5)
    have e7 : (upd H6 l3 (.lst ([V.ref u1, .ref u2] ++ [.ref u3, .ref u4]))) l3 = some (.lst [V.ref u1, .ref u2, .ref u3, .ref u4]) := upd_same
    generalize upd H6 l3 (.lst ([V.ref u1, .ref u2] ++ [.ref u3, .ref u4])) = H7 at *
    walk_at "W"
    refine k_forR (fun i σ' H' => Same H7 H' ∧ ∃ x8 x9 x10, σ' = [some (.ref p), some (.int h), some (.int c.a), some (.int c.b), some (.int c.c), some (.int c.d), some (.int (2 * h)), some (.ref l3), x8, x9, x10]) (by decide) (by decide) ⟨Same.refl _, none, none, none, rfl⟩ ?_ ?_
    · rintro i σ' H' hi ⟨ss, x8, x9, x10, rfl⟩
      have hi4 : i < 4 := hi
      obtain ⟨u, x, y, hu, eu⟩ : ∃ u x y, atI [V.ref u1, .ref u2, .ref u3, .ref u4] (0 + (i : Int)) = some (.ref u) ∧ H' u = some (.tup [.int x, .int y]) := by
        rcases (show i = 0 ∨ i = 1 ∨ i = 2 ∨ i = 3 by omega) with rfl | rfl | rfl | rfl
        · exact ⟨_, _, _, rfl, ss _ _ e1⟩
        · exact ⟨_, _, _, rfl, ss _ _ e2⟩
        · exact ⟨_, _, _, rfl, ss _ _ e4⟩
        · exact ⟨_, _, _, rfl, ss _ _ e5⟩
      walk_at "W"
      refine w_ixL (ss _ _ e7) hu ?_
      refine k_tupl2 eu rfl rfl ?_
      walk_at "W"
      refine w_cut (fun σ' H' => Same H7 H' ∧ σ' = [some (.ref p), some (.int h), some (.int c.a), some (.int c.b), some (.int c.c), some (.int c.d), some (.int (2 * h)), some (.ref l3), some (.int (0 + (i : Int))), some (.int x), some (.int y)]) ?_ ?_
      · walk_at "W"
        refine k_lst rfl fun l4 H8 hl4 s8 e8 => ?_
        refine ⟨l4, _, rfl, .inl (SqL.of e8), rfl, rfl, ?_⟩
        have fin : ∀ k : Int, Q (.int k) H8 := fun k => q _ _ (S.trans (ss.trans s8)) (.inr ⟨k, rfl⟩)
        have ss := ss.trans s8
        rw [if_neg (show ¬ (false = true) by decide)]
        refine ⟨_, rfl, ?_⟩
        generalize inV (V.int (0 + (i : Int))) [V.int 0, V.int 2] = b1
        cases b1
        · walk_at "W"
          exact ⟨ss, rfl⟩
        · walk_at "W"
          refine w_ite (fun _ => ?_) (fun _ => ?_)
          · walk_at "W"
            refine w_ite (fun _ => ?_) (fun _ => ?_)
            · walk_at "W"
              exact fin _
            · walk_at "W"
              exact ⟨ss, rfl⟩
          · walk_at "W"
            exact ⟨ss, rfl⟩
      · rintro σ' H9 ⟨ss, rfl⟩
        walk_at "W"
        refine k_lst rfl fun l4 H8 hl4 s8 e8 => ?_
        refine ⟨l4, _, rfl, .inl (SqL.of e8), rfl, rfl, ?_⟩
        have fin : ∀ k : Int, Q (.int k) H8 := fun k => q _ _ (S.trans (ss.trans s8)) (.inr ⟨k, rfl⟩)
        have ss := ss.trans s8
        rw [if_neg (show ¬ (false = true) by decide)]
        refine ⟨_, rfl, ?_⟩
        generalize inV (V.int (0 + (i : Int))) [V.int 1, V.int 3] = b1
        cases b1
        · walk_at "W"
          exact ⟨ss, _, _, _, rfl⟩
        · walk_at "W"
          refine w_ite (fun _ => ?_) (fun _ => ?_)
          · walk_at "W"
            refine w_ite (fun _ => ?_) (fun _ => ?_)
            · walk_at "W"
              exact fin _
            · walk_at "W"
              exact ⟨ss, _, _, _, rfl⟩
          · walk_at "W"
            exact ⟨ss, _, _, _, rfl⟩
    · rintro σ' H' ⟨ss, x8, x9, x10, rfl⟩
      walk_at "W"
      exact q _ _ (S.trans ss) (.inl rfl)
theorem k_poolS {p l : Addr} {many : Int} {H : Hp} {Q : VK} {E : XK} (hs : PlA H p l) (h1 : 0 < many) (h2 : many ≤ 100000) (q : ∀ n H', 0 ≤ n → n < many → SameXX p l H H' → PlA H' p l → Q (.int n) H') : sp__law_draw Z [.ref p, .int many] H Q E :=
  ⟨p, l, many, rfl, hs, h1, (bw_of (n := 100000) (k := 20) (by omega) (by decide)).bd (by decide), q⟩
theorem len4 {ns : List Int} (h : ns.length = 4) : ∃ a b c d, ns = [a, b, c, d] := by
  match ns, h with
  | [a, b, c, d], _ => exact ⟨a, b, c, d, rfl⟩
theorem win_zero {h : Int} (hh : 0 < h) : winC h ⟨0, 0, 0, 0⟩ = true := by
  show winB h 0 0 0 0 = true
  obtain ⟨p, q, P, far⟩ := pell_far h.natAbs
  rw [win_pell P (by omega)]
  have u1 : 0 < h * q := Int.mul_pos hh P.q
  have u2 : 0 < h * p := Int.mul_pos hh P.p
  exact ⟨by omega, by omega, by omega, by omega, by omega, by omega, by omega, by omega⟩
abbrev s__law_point : Stmt := top 34
theorem sc__law_point : FnScope ["pool", "half", "turn", "found", "k", "root", "whole"] ["pool", "half"] (defScope s__law_point) := ⟨rfl, rfl, rfl, by decide +kernel, rfl, by decide +kernel, by decide +kernel⟩

def sp__law_point (Z : Zs) : Sp := fun vs H Q E =>
  ∃ p l h, vs = [.ref p, .int h] ∧ PlA H p l ∧ 0 < h ∧ h ≤ 35 ∧ ∀ u (c : C4) H', SameXX p l H H' → PlA H' p l → H' u = some (.tup [.int c.a, .int c.b, .int c.c, .int c.d]) → Bw4 20 c → winC h c = true → Q (.ref u) H'
theorem ok__law_point (T : Txt Z mg) (h__law_in_window : Has P w Z.K mg base "_law_in_window" 3 ["point", "half"] (sp__law_in_window Z)) (h__law_draw : Has P w Z.K mg base "_law_draw" 1 ["pool", "many"] (sp__law_draw Z)) (D : AtF Z.K mg "_law_point" "_law_point" s__law_point ["pool", "half"]) : Has P w Z.K mg base "_law_point" 4 ["pool", "half"] (sp__law_point Z) := by
  refine D.ok sc__law_point (fun vs H Q E h => ?_) (fun cdv A outer s H vs Q E hr h => ?_)
  · obtain ⟨p, l, h, rfl, _⟩ := h
    rfl
  · refine ⟨_, (pss_cons (ps_for (passes_of rfl) rfl (pi_range1 rfl T.n_range (pa_cons pe_int pa_nil)) (pg_name (i := 2) sc__law_point.nd rfl (Or.inl rfl)) (pss_cons (ps_set (i := 3) sc__law_point.nd rfl (Or.inl rfl) (pe_tup pa_nil))
      (pss_cons (ps_for (passes_of rfl) rfl (pi_range1 rfl T.n_range (pa_cons pe_int pa_nil)) (pg_name (i := 4) sc__law_point.nd rfl (Or.inl rfl)) (pss_cons (ps_set (i := 5) sc__law_point.nd rfl (Or.inl rfl) (pe_op op_sub (pe_h (E := ED E) h__law_draw hr (paW (takes_of rfl rfl rfl rfl)) (pa_cons (pv 0) (pa_cons (pe_op op_add (pe_op op_mulS pe_int (pv 1)) pe_int) pa_nil))) (pe_op op_mulS pe_int (pv 1))))
      (pss_cons (ps_set (i := 6) sc__law_point.nd rfl (Or.inl rfl) (pe_op op_sub (pe_op op_sub (pe_h (E := ED E) h__law_draw hr (paW (takes_of rfl rfl rfl rfl)) (pa_cons (pv 0) (pa_cons (pe_op op_add (pe_op op_mulS pe_int (pv 1)) pe_int) pa_nil))) (pe_op op_fdivW (pe_op op_mulS pe_int (pv 1)) pe_int)) (pe_op op_fdivW (pe_op op_mulS (pv 5) pe_int) pe_int)))
      (pss_one (ps_set (i := 3) sc__law_point.nd rfl (Or.inl rfl) (pe_op op_catA (pv 3) (pe_tup (pa_cons (pe_op op_mulS pe_int (pv 6)) (pa_cons (pe_op op_mulS pe_int (pv 5)) pa_nil)))))))))
      (pss_one (ps_if (pt_val (pe_h (E := ED E) h__law_in_window hr (paW (takes_of rfl rfl rfl rfl)) (pa_cons (pv 3) (pa_cons (pv 1) pa_nil)))) (pss_one (ps_ret (pv 3))) pss_nil)))))
      (pss_one (ps_ret (pe_tup (pa_cons pe_int (pa_cons pe_int (pa_cons pe_int (pa_cons pe_int pa_nil)))))))), ?_⟩
    try simp only [cxOf]
    obtain ⟨p, l, h, rfl, hs, h0, h35, q⟩ := h
    walk_at "W"
    refine k_forR (fun i σ' H' => SameXX p l H H' ∧ PlA H' p l ∧ ∃ x2 x3 x4 x5 x6, σ' = [some (.ref p), some (.int h), x2, x3, x4, x5, x6]) (by decide) (by decide) ⟨SameXX.refl, hs, none, none, none, none, none, rfl⟩ ?_ ?_
    · rintro i σ' H1 hi ⟨ss, hs, x2, x3, x4, x5, x6, rfl⟩
      walk_at "W"
      refine k_tup rfl fun u0 H2 hu0 s2 e2 => ?_
      have hs2 := hs.same s2
      walk_at "W"
      refine k_forR (fun j σ' H' => SameXX p l H2 H' ∧ PlA H' p l ∧ ∃ (u : Addr) (zs : List Int) (x4 x5 x6 : Option V), σ' = [some (.ref p), some (.int h), some (.int (0 + (i : Int))), some (.ref u), x4, x5, x6] ∧ H' u = some (.tup (zs.map V.int)) ∧ zs.length = 2 * j ∧ ∀ z ∈ zs, Bw 20 z) (by decide) (by decide) ⟨SameXX.refl, hs2, u0, [], x4, x5, x6, rfl, e2, rfl, fun _ h => nomatch h⟩ ?_ ?_
      · rintro j σ' H3 hj ⟨s3, hs3, u, zs, x4, x5, x6, rfl, eu, lz, bz⟩
        walk_at "W"
        refine k_poolS hs3 (by omega) (by omega) fun r H4 r0 r1 s4 hs4 => ?_
        have eu := (hs3.kps s4).tup eu
        walk_at "W"
        refine k_poolS hs4 (by omega) (by omega) fun w H5 w0 w1 s5 hs5 => ?_
        have eu := (hs4.kps s5).tup eu
        walk_at "W"
        refine k_tup rfl fun u1 H6 hu1 s6 e6 => ?_
        have eu := s6 _ _ eu
        have hj2 : j < 2 := hj
        refine w_catA eu e6 (Nat.ble_eq_true_of_le (by simp; omega)) fun t2 H7 s7 e7 => ?_
        have S : SameXX p l H2 H7 := s3.trans (s4.trans (s5.trans (SameXX.of (s6.trans s7))))
        refine ⟨S, hs5.same (s6.trans s7), t2, zs ++ [_, _], _, _, _, rfl, by rw [List.map_append]; exact e7, by simp; omega, fun z hz => ?_⟩
        rcases List.mem_append.mp hz with hz | hz
        · exact bz z hz
        · simp only [List.mem_cons, List.not_mem_nil, or_false] at hz
          rcases hz with rfl | rfl <;> exact bw_of (n := 2000) (by omega) (by decide)
      · rintro σ' H3 ⟨s3, hs3, u, zs, x4, x5, x6, rfl, eu, lz, bz⟩
        obtain ⟨z1, z2, z3, z4, rfl⟩ := len4 (show zs.length = 4 from lz)
        have b1 := bz z1 (by simp)
        have b2 := bz z2 (by simp)
        have b3 := bz z3 (by simp)
        have b4 := bz z4 (by simp)
        have wc : Bw4 20 (⟨z1, z2, z3, z4⟩ : C4) := ⟨b1, b2, b3, b4⟩
        have S := ss.trans ((SameXX.of s2).trans s3)
        walk_at "W"
        refine ⟨u, h, ⟨z1, z2, z3, z4⟩, rfl, eu, bw_of (n := 35) (by omega) (by decide), ⟨b1.mono (by decide), b2.mono (by decide), b3.mono (by decide), b4.mono (by decide)⟩, ?_⟩
        cases e : winC h ⟨z1, z2, z3, z4⟩
        · walk_at "W"
          exact ⟨S, hs3, _, _, _, _, _, rfl⟩
        · walk_at "W"
          exact q u ⟨z1, z2, z3, z4⟩ H3 S hs3 eu wc e
    · rintro σ' H1 ⟨ss, hs, x2, x3, x4, x5, x6, rfl⟩
      walk_at "W"
      refine k_tup rfl fun u H2 hu s2 e2 => ?_
      exact q u ⟨0, 0, 0, 0⟩ H2 (ss.trans (SameXX.of s2)) (hs.same s2) e2 ⟨Bw.zero.mono (by decide), Bw.zero.mono (by decide), Bw.zero.mono (by decide), Bw.zero.mono (by decide)⟩ (win_zero h0)
theorem sub_sub {a b : C4} : subC a (subC a b) = b := by
  cases a; cases b
  simp only [subC, C4.mk.injEq]
  omega
abbrev s__law_floor : Stmt := top 36
theorem sc__law_floor : FnScope ["pool", "corner", "half", "turn", "shift"] ["pool", "corner"] (defScope s__law_floor) := ⟨rfl, rfl, rfl, by decide +kernel, rfl, by decide +kernel, by decide +kernel⟩

def sp__law_floor (Z : Zs) : Sp := fun vs H Q E =>
  ∃ p l q c, vs = [.ref p, .ref q] ∧ PlA H p l ∧ H q = some (.tup [.int (c : C4).a, .int c.b, .int c.c, .int c.d]) ∧ Bw4 181 c ∧ ∀ u h s H', SameXX p l H H' → PlA H' p l → LFl H' u h s → 0 < h → h ≤ 35 → Bw4 600 s → hasL h s c = true → Q (.ref u) H'
theorem ok__law_floor (T : Txt Z mg) (h__law_less : Has P w Z.K mg base "_law_less" 1 ["one", "other"] (sp__law_less Z)) (h__law_star : Has P w Z.K mg base "_law_star" 1 ["corner", "half"] (sp__law_star Z)) (h__law_barred : Has P w Z.K mg base "_law_barred" 1 ["shift", "half"] (sp__law_barred Z)) (h__law_point : Has P w Z.K mg base "_law_point" 4 ["pool", "half"] (sp__law_point Z)) (h__law_draw : Has P w Z.K mg base "_law_draw" 1 ["pool", "many"] (sp__law_draw Z)) (D : AtF Z.K mg "_law_floor" "_law_floor" s__law_floor ["pool", "corner"]) : Has P w Z.K mg base "_law_floor" 5 ["pool", "corner"] (sp__law_floor Z) := by
  refine D.ok sc__law_floor (fun vs H Q E h => ?_) (fun cdv A outer s H vs Q E hr h => ?_)
  · obtain ⟨p, l, q, c, rfl, _⟩ := h
    rfl
  · refine ⟨_, (pss_cons (ps_set (i := 2) sc__law_floor.nd rfl (Or.inl rfl) (pe_ix ix_seq (pe_lst (pa_cons pe_int (pa_cons pe_int (pa_cons pe_int (pa_cons pe_int (pa_cons pe_int (pa_cons pe_int (pa_cons pe_int (pa_cons pe_int pa_nil))))))))) (pe_h (E := ED E) h__law_draw hr (paW (takes_of rfl rfl rfl rfl)) (pa_cons (pv 0) (pa_cons pe_int pa_nil))) (fun _ _ => rfl)))
      (pss_cons (ps_for (passes_of rfl) rfl (pi_range1 rfl T.n_range (pa_cons pe_int pa_nil)) (pg_name (i := 3) sc__law_floor.nd rfl (Or.inl rfl)) (pss_cons (ps_set (i := 4) sc__law_floor.nd rfl (Or.inl rfl) (pe_h (E := ED E) h__law_less hr (paW (takes_of rfl rfl rfl rfl)) (pa_cons (pe_h (E := ED E) h__law_star hr (paW (takes_of rfl rfl rfl rfl)) (pa_cons (pv 1) (pa_cons (pv 2) pa_nil))) (pa_cons (pe_h (E := ED E) h__law_point hr (paW (takes_of rfl rfl rfl rfl)) (pa_cons (pv 0) (pa_cons (pv 2) pa_nil))) pa_nil))))
      (pss_one (ps_if (pt_cmpR op_isN (pe_h (E := ED E) h__law_barred hr (paW (takes_of rfl rfl rfl rfl)) (pa_cons (pv 4) (pa_cons (pv 2) pa_nil))) pe_non (nomark _)) (pss_one (ps_ret (pe_tup (pa_cons (pv 2) (pa_cons (pv 4) pa_nil))))) pss_nil))))
      (pss_one (ps_ret (pe_tup (pa_cons pe_int (pa_cons (pe_h (E := ED E) h__law_less hr (paW (takes_of rfl rfl rfl rfl)) (pa_cons (pe_h (E := ED E) h__law_star hr (paW (takes_of rfl rfl rfl rfl)) (pa_cons (pv 1) (pa_cons pe_int pa_nil))) (pa_cons (pe_tup (pa_cons pe_int (pa_cons pe_int (pa_cons pe_int (pa_cons pe_int pa_nil))))) pa_nil))) pa_nil))))))), ?_⟩
    try simp only [cxOf]
    obtain ⟨p, l, q, c, rfl, hs, hq, wc, k⟩ := h
    have wc4 : Bw4 400 c := ⟨wc.1.mono (by decide), wc.2.1.mono (by decide), wc.2.2.1.mono (by decide), wc.2.2.2.mono (by decide)⟩
    walk_at "W"
    refine k_lst rfl fun l0 H1 hl0 s1 e1 => ?_
    have nl := hs.new hl0
    have hs1 := hs.same s1
    have hq := s1 _ _ hq
    walk_at "W"
    refine k_pool hs1 (by decide) (by decide) fun d H2 d0 d1 s2 hs2 => ?_
    have e2 := s2 _ _ nl.1 nl.2 e1
    have hq := (hs1.kps s2).tup hq
    obtain ⟨h, hh, h0, h35⟩ : ∃ h : Int, atI [V.int 1, .int 3, .int 5, .int 7, .int 2, .int 4, .int 12, .int 35] d = some (.int h) ∧ 0 < h ∧ h ≤ 35 := by
      rcases dir_cases d0 (show d ≤ 7 by omega) with rfl | rfl | rfl | rfl | rfl | rfl | rfl | rfl <;> exact ⟨_, rfl, by decide, by decide⟩
    walk_at "W"
    refine w_ixL e2 hh ?_
    have wh : Bw 100 h := bw_of (n := 35) (by omega) (by decide)
    have S2 := (SameXX.of s1).trans s2
    walk_at "W"
    refine k_forR (fun i σ' H' => SameXX p l H2 H' ∧ PlA H' p l ∧ ∃ (x3 x4 : Option V), σ' = [some (.ref p), some (.ref q), some (.int h), x3, x4]) (by decide) (by decide) ⟨SameXX.refl, hs2, none, none, rfl⟩ ?_ ?_
    · rintro i σ' H3 hi ⟨s3, hs3, x3, x4, rfl⟩
      have hq := (hs2.kps s3).tup hq
      walk_at "W"
      refine ⟨q, h, c, rfl, hq, wh, wc4, fun u1 H4 s4 e4 => ?_⟩
      have hs4 := hs3.same s4
      walk_at "W"
      refine ⟨p, l, h, rfl, hs4, h0, h35, fun u2 pt H5 s5 hs5 e5 wp win => ?_⟩
      have e4 := (hs4.kps s5).tup e4
      walk_at "W"
      refine ⟨u1, u2, starH h c, pt, rfl, e4, e5, fun u3 H6 s6 e6 => ?_⟩
      have hs6 := hs5.same s6
      walk_at "W"
      refine ⟨u3, h, subC (starH h c) pt, rfl, e6, h0, wh, fun v H7 s7 hv => ?_⟩
      have hs7 := hs6.same s7
      have S7 : SameXX p l H2 H7 := s3.trans ((SameXX.of s4).trans (s5.trans ((SameXX.of s6).trans (SameXX.of s7))))
      have e7 := s7 _ _ e6
      have fin : ∀ {u4 : Addr} {H8 : Hp}, Same H7 H8 → H8 u4 = some (.tup [.int h, .ref u3]) → Q (.ref u4) H8 := fun {u4 H8} s8 e8 => by
        refine k u4 h (subC (starH h c) pt) H8 (S2.trans (S7.trans (SameXX.of s8))) (hs7.same s8) ⟨u3, e8, s8 _ _ e7⟩ h0 h35 ?_ ?_
        · have w := star_bw (n := 0) wh wc4
          obtain ⟨t1, t2, t3, t4⟩ := wc
          have wn2 : Bw 2 (-2 : Int) := Bw.two.neg
          exact ⟨(((Bw.two.mul wh).mul t1).sub wp.1).mono (by decide), ((wh.mul (t4.sub t2)).sub wp.2.1).mono (by decide), (((wn2.mul wh).mul t3).sub wp.2.2.1).mono (by decide), ((wh.mul (t2.add t4)).sub wp.2.2.2).mono (by decide)⟩
        · unfold hasL
          rw [sub_sub]
          exact win
      rcases hv with rfl | ⟨k', rfl⟩
      · walk_at "W"
        refine L2.My.w_isN ?_
        walk_at "W"
        exact k_tup rfl fun u4 H8 hu4 s8 e8 => fin s8 e8
      · walk_at "W"
        refine L2.My.w_isN ?_
        walk_at "W"
        exact ⟨S7, hs7, _, _, rfl⟩
    · rintro σ' H3 ⟨s3, hs3, x3, x4, rfl⟩
      have hq := (hs2.kps s3).tup hq
      walk_at "W"
      refine ⟨q, 3, c, rfl, hq, (bw_of (n := 3) (by decide) (by decide)), wc4, fun u1 H4 s4 e4 => ?_⟩
      walk_at "W"
      refine k_tup rfl fun u2 H5 hu2 s5 e5 => ?_
      have e4 := s5 _ _ e4
      walk_at "W"
      refine ⟨u1, u2, starH 3 c, ⟨2, 0, 0, 2⟩, rfl, e4, e5, fun u3 H6 s6 e6 => ?_⟩
      walk_at "W"
      refine k_tup rfl fun u4 H7 hu4 s7 e7 => ?_
      have S47 := s4.trans (s5.trans (s6.trans s7))
      refine k u4 3 (subC (starH 3 c) ⟨2, 0, 0, 2⟩) H7 (S2.trans (s3.trans (SameXX.of S47))) (hs3.same S47) ⟨u3, e7, s7 _ _ e6⟩ (by decide) (by decide) ?_ ?_
      · have w3 : Bw 100 (3 : Int) := bw_of (n := 3) (by decide) (by decide)
        obtain ⟨t1, t2, t3, t4⟩ := wc
        have wn2 : Bw 2 (-2 : Int) := Bw.two.neg
        exact ⟨(((Bw.two.mul w3).mul t1).sub Bw.two).mono (by decide), ((w3.mul (t4.sub t2)).sub Bw.zero).mono (by decide), (((wn2.mul w3).mul t3).sub Bw.zero).mono (by decide), ((w3.mul (t2.add t4)).sub Bw.two).mono (by decide)⟩
      · unfold hasL
        rw [sub_sub]
        decide
/-- at a corner of the floor there is a side -/
theorem side_ex {h : Int} {s c : C4} (hh : 0 < h) (w : hasL h s c = true) : ∃ k : Nat, k < 8 ∧ hasL h s (stepC c k 1) = true := by
  have w : winB h (2 * h * c.a - s.a) (h * (c.d - c.b) - s.b) (-2 * h * c.c - s.c) (h * (c.b + c.d) - s.d) = true := w
  rcases win_side hh w with w | w | w | w
  · refine ⟨0, by decide, ?_⟩
    show winB h (2 * h * (c.a + 1) - s.a) (h * (c.d - c.b) - s.b) (-2 * h * c.c - s.c) (h * (c.b + c.d) - s.d) = true
    rw [show 2 * h * (c.a + 1) - s.a = 2 * h * c.a - s.a + 2 * h by grind]
    exact w
  · refine ⟨4, by decide, ?_⟩
    show winB h (2 * h * (c.a + -1) - s.a) (h * (c.d - c.b) - s.b) (-2 * h * c.c - s.c) (h * (c.b + c.d) - s.d) = true
    rw [show 2 * h * (c.a + -1) - s.a = 2 * h * c.a - s.a - 2 * h by grind]
    exact w
  · refine ⟨6, by decide, ?_⟩
    show winB h (2 * h * c.a - s.a) (h * (c.d - c.b) - s.b) (-2 * h * (c.c + -1) - s.c) (h * (c.b + c.d) - s.d) = true
    rw [show -2 * h * (c.c + -1) - s.c = -2 * h * c.c - s.c + 2 * h by grind]
    exact w
  · refine ⟨2, by decide, ?_⟩
    show winB h (2 * h * c.a - s.a) (h * (c.d - c.b) - s.b) (-2 * h * (c.c + 1) - s.c) (h * (c.b + c.d) - s.d) = true
    rw [show -2 * h * (c.c + 1) - s.c = -2 * h * c.c - s.c - 2 * h by grind]
    exact w
theorem sides_mem {h : Int} {s c : C4} {n : Nat} {d : Int} : d ∈ sidesN h s c n ↔ ∃ k : Nat, k < n ∧ d = (k : Int) ∧ hasL h s (stepC c k 1) = true := by
  unfold sidesN
  simp only [List.mem_filter, List.mem_map, List.mem_range]
  constructor
  · rintro ⟨⟨k, hk, rfl⟩, e⟩
    exact ⟨k, hk, rfl, e⟩
  · rintro ⟨k, hk, rfl, e⟩
    exact ⟨⟨k, hk, rfl⟩, e⟩
theorem sides_pos {h : Int} {s c : C4} (hh : 0 < h) (w : hasL h s c = true) : 0 < (sidesN h s c 8).length := by
  obtain ⟨k, hk, e⟩ := side_ex hh w
  exact List.length_pos_of_mem (sides_mem.mpr ⟨k, hk, rfl, e⟩)
abbrev s__law_negated : Stmt := top 38
theorem sc__law_negated : FnScope ["point", "number"] ["point"] (defScope s__law_negated) := ⟨rfl, rfl, rfl, by decide +kernel, rfl, by decide +kernel, by decide +kernel⟩

def sp__law_negated (Z : Zs) : Sp := fun vs H Q E =>
  ∃ p c, vs = [.ref p] ∧ H p = some (.tup [.int (c : C4).a, .int c.b, .int c.c, .int c.d]) ∧ ∀ u H', Same H H' → H' u = some (.tup [.int (-c.a), .int (-c.b), .int (-c.c), .int (-c.d)]) → Q (.ref u) H'
theorem ok__law_negated (T : Txt Z mg)  (D : AtF Z.K mg "_law_negated" "_law_negated" s__law_negated ["point"]) : Has P w Z.K mg base "_law_negated" 1 ["point"] (sp__law_negated Z) := by
  refine D.ok sc__law_negated (fun vs H Q E h => ?_) (fun cdv A outer s H vs Q E hr h => ?_)
  · obtain ⟨p, c, rfl, _⟩ := h
    rfl
  · refine ⟨_, (pss_one (ps_ret (pe_callTy cn_tuple rfl T.n_tuple (by decide +kernel) (pa_cons (pe_lc (own := [("number", 1)]) (g := gName 1) rfl sc__law_negated.nd (pi_tup (pv 0)) (blkOk_by (N := ["point", "number"]) (sc := (defScope s__law_negated)) (by decide +kernel)) (fun _ _ _ _ _ => pg_name (i := 1) sc__law_negated.nd rfl (Or.inl rfl)) (fun _ _ _ _ _ => pts_nil) (fun _ _ _ _ _ => (pe_un un_neg (pv 1)))) pa_nil)))), ?_⟩
    try simp only [cxOf]
    obtain ⟨p, c, rfl, hp, k⟩ := h
    have ev : ∀ i : Nat, ∀ x, [V.int c.a, .int c.b, .int c.c, .int c.d][i]? = some x → ∃ z, x = V.int z ∧ [V.int (-c.a), .int (-c.b), .int (-c.c), .int (-c.d)].take (i + 1) = [V.int (-c.a), .int (-c.b), .int (-c.c), .int (-c.d)].take i ++ [.int (-z)] ∧ i < 4 := by
      rintro (_ | _ | _ | _ | i) x hx
      · cases hx; exact ⟨_, rfl, rfl, by decide⟩
      · cases hx; exact ⟨_, rfl, rfl, by decide⟩
      · cases hx; exact ⟨_, rfl, rfl, by decide⟩
      · cases hx; exact ⟨_, rfl, rfl, by decide⟩
      · simp at hx
    walk_at "W"
    refine k_lcT (xs := [V.int c.a, .int c.b, .int c.c, .int c.d]) (fun i D H' => H D = none ∧ H' D = some (.lst ([V.int (-c.a), .int (-c.b), .int (-c.c), .int (-c.d)].take i)) ∧ Same H H') hp (fun D hD => ⟨hD, upd_same, Same.new hD⟩) (fun i D H' h => h.2.2 _ _ hp) ?_ ?_
    · rintro i x D H' hx ⟨hD, e1, ss⟩
      obtain ⟨z, rfl, ez, hi⟩ := ev i x hx
      refine ⟨rfl, w_yes (w_T rfl ?_)⟩
      walk_at "W"
      refine ⟨_, e1, sz_lt (by simp; omega), hD, by rw [ez]; exact upd_same, fun b o e => ?_⟩
      rw [upd_ne (ne_of_none e hD)]
      exact ss b o e
    · rintro D H5 ⟨hD, e1, ss⟩
      exact w_tupL (xs := [V.int (-c.a), .int (-c.b), .int (-c.c), .int (-c.d)]) e1 fun u H6 hu s6 e6 => k u H6 (ss.trans s6) e6
theorem k_lst2n {K : PySem.W.Frag} {T : Addr} {x y : V} {σ σ' : L2.St} {H : Hp} {i j : Nat} {N : L2.St → Hp → Prop} {n : Nat} (hT : H T = some (.lst [x, y])) (hn : n = 2) (hσ : (σ.set i (some x)).set j (some y) = σ') (q : N σ' H) :
    gLst K n (gCons (gName i) (gCons (gName j) gNil)) (.ref T) σ H N := by
  subst hσ
  exact ⟨T, [x, y], rfl, SqL.of hT, by rw [hn]; rfl, x, _, rfl, y, [], rfl, rfl, q⟩
abbrev s__law_between : Stmt := top 32
theorem sc__law_between : FnScope ["corner", "one", "other", "own", "side", "low", "high"] ["corner", "one", "other"] (defScope s__law_between) := ⟨rfl, rfl, rfl, by decide +kernel, rfl, by decide +kernel, by decide +kernel⟩

def sp__law_between (Z : Zs) : Sp := fun vs H Q E =>
  ∃ p c d e n, vs = [.ref p, .int d, .int e] ∧ H p = some (.tup [.int (c : C4).a, .int c.b, .int c.c, .int c.d]) ∧ Bw4 n c ∧ 0 ≤ d ∧ d ≤ 7 ∧ 0 ≤ e ∧ e ≤ 7 ∧ d % 4 ≠ e % 4 ∧ ∀ t C (i j : Int) H', Same H H' → TileAt H' (.ref t) C i j → Bw4 (n + 2) C → 0 ≤ i → i < j → j ≤ 3 → Q (.ref t) H'
theorem ok__law_between (T : Txt Z mg) (h__law_next : Has P w Z.K mg base "_law_next" 1 ["corner", "direction"] (sp__law_next Z)) (D : AtF Z.K mg "_law_between" "_law_between" s__law_between ["corner", "one", "other"]) : Has P w Z.K mg base "_law_between" 2 ["corner", "one", "other"] (sp__law_between Z) := by
  refine D.ok sc__law_between (fun vs H Q E h => ?_) (fun cdv A outer s H vs Q E hr h => ?_)
  · obtain ⟨p, c, d, e, n, rfl, _⟩ := h
    rfl
  · refine ⟨_, (pss_cons (ps_set (i := 3) sc__law_between.nd rfl (Or.inl rfl) (pv 0))
      (pss_cons (ps_for (passes_of rfl) rfl (pi_list (pe_lst (pa_cons (pv 1) (pa_cons (pv 2) pa_nil)))) (pg_name (i := 4) sc__law_between.nd rfl (Or.inl rfl)) (pss_one (ps_if (pt_cmpR op_gt (pv 4) pe_int (nomark _)) (pss_one (ps_set (i := 3) sc__law_between.nd rfl (Or.inl rfl) (pe_h (E := ED E) h__law_next hr (paW (takes_of rfl rfl rfl rfl)) (pa_cons (pv 3) (pa_cons (pv 4) pa_nil))))) pss_nil)))
      (pss_cons (ps_asg (pe_callB cr_sorted rfl T.n_sorted (by decide +kernel) (pa_cons (pe_lst (pa_cons (pe_op op_mod (pe_callTy cn_int rfl T.n_int (by decide +kernel) (pa_cons (pv 1) pa_nil)) pe_int) (pa_cons (pe_op op_mod (pe_callTy cn_int rfl T.n_int (by decide +kernel) (pa_cons (pv 2) pa_nil)) pe_int) pa_nil))) pa_nil)) (pg_lst rfl (pgs_cons (pg_name (i := 5) sc__law_between.nd rfl (Or.inl rfl)) (pgs_cons (pg_name (i := 6) sc__law_between.nd rfl (Or.inl rfl)) pgs_nil))))
      (pss_one (ps_ret (pe_tup (pa_cons (pv 3) (pa_cons (pv 5) (pa_cons (pv 6) pa_nil))))))))), ?_⟩
    try simp only [cxOf]
    obtain ⟨p, c, d, e, n, rfl, hp, wc, d0, d7, e0, e7, ne, q⟩ := h
    walk_at "W"
    refine k_lst rfl fun l H1 hl s1 e1 => ?_
    refine k_forL (xs := [.int d, .int e]) (fun i σ' H' => Same H1 H' ∧ ∃ (u : Addr) (C : C4) (x : Option V), σ' = [some (.ref p), some (.int d), some (.int e), some (.ref u), x, none, none] ∧ H' u = some (.tup [.int C.a, .int C.b, .int C.c, .int C.d]) ∧ Bw4 (n + i) C) (SqL.of e1) ⟨Same.refl _, p, c, none, rfl, s1 _ _ hp, wc⟩ (fun i σ H h => SqL.of (h.1 _ _ e1)) ?_ ?_
    · rintro i x σ' H2 hx ⟨s2, u, C, x4, rfl, eu, wC⟩
      obtain ⟨z, rfl, z0, z7⟩ : ∃ z, x = V.int z ∧ 0 ≤ z ∧ z ≤ 7 := by
        rcases i with _ | _ | i
        · cases hx; exact ⟨_, rfl, d0, d7⟩
        · cases hx; exact ⟨_, rfl, e0, e7⟩
        · simp at hx
      have up : Bw4 (n + (i + 1)) C := ⟨wC.1.mono (by omega), wC.2.1.mono (by omega), wC.2.2.1.mono (by omega), wC.2.2.2.mono (by omega)⟩
      walk_at "W"
      refine w_ite (fun _ => ?_) (fun _ => ?_)
      · walk_at "W"
        refine ⟨u, C, z, rfl, eu, z0, z7, fun u2 H3 s3 e3 => ?_⟩
        walk_at "W"
        exact ⟨s2.trans s3, u2, _, _, rfl, e3, step_bw4 z0 z7 wC⟩
      · walk_at "W"
        exact ⟨s2, u, C, _, rfl, eu, up⟩
    · rintro σ' H2 ⟨s2, u, C, x, rfl, eu, wC⟩
      walk_at "W"
      refine k_lst rfl fun l2 H3 hl2 s3 e3 => ?_
      walk_at "W"
      refine ⟨l2, [d % 4, e % 4], rfl, SqL.of e3, by simp, fun ns l3 pm pw hl3 => ?_⟩
      have s4 := Same.new (o := .lst (ns.map V.int)) hl3
      have e4 : (upd H3 l3 (.lst (ns.map V.int))) l3 = some (.lst (ns.map V.int)) := upd_same
      generalize upd H3 l3 (.lst (ns.map V.int)) = H4 at *
      have ln := pm.length_eq
      obtain ⟨x, y, rfl⟩ : ∃ x y, ns = [x, y] := by
        match ns, ln with
        | [a, b], _ => exact ⟨a, b, rfl⟩
      have m1 : d % 4 ∈ [x, y] := pm.mem_iff.mpr (by simp)
      have m2 : e % 4 ∈ [x, y] := pm.mem_iff.mpr (by simp)
      have m3 : x ∈ [d % 4, e % 4] := pm.mem_iff.mp (by simp)
      have m4 : y ∈ [d % 4, e % 4] := pm.mem_iff.mp (by simp)
      have le : x ≤ y := by simpa using pw
      simp only [List.mem_cons, List.not_mem_nil, or_false] at m1 m2 m3 m4
      refine k_lst2n e4 rfl rfl ?_
      walk_at "W"
      refine k_tup rfl fun t H5 ht s5 e5 => ?_
      have S := s3.trans (s4.trans s5)
      exact q t C x y H5 (s1.trans (s2.trans S)) ⟨t, _, rfl, e5, u, rfl, S _ _ eu⟩ wC (by omega) (by omega) (by omega)
/-- the direction d among the eight, in the window's numbers -/
def vecX (U V X : Int) (d : Nat) : Int := match d with
  | 0 => X + 2 * U | 1 => X - V | 2 => X | 3 => X + V | 4 => X - 2 * U | 5 => X + V | 6 => X | _ => X - V
def vecY (U V Y : Int) (d : Nat) : Int := match d with
  | 0 => Y | 1 => Y + V | 2 => Y - 2 * U | 3 => Y + V | 4 => Y | 5 => Y - V | 6 => Y + 2 * U | _ => Y - V
theorem has_pell {h : Int} {s c : C4} {p q : Int} (P : Pell p q) (far : ((starH h c).b.natAbs : Int) + s.b.natAbs + (starH h c).d.natAbs + s.d.natAbs + 3 * h.natAbs < q) : (hasL h s c = true ↔ WinL ((subC (starH h c) s).a * q + (subC (starH h c) s).b * p) ((subC (starH h c) s).c * q + (subC (starH h c) s).d * p) (h * q) (h * p)) ∧
    ∀ d : Nat, d < 8 → (hasL h s (stepC c d 1) = true ↔ WinL (vecX (h * q) (h * p) ((subC (starH h c) s).a * q + (subC (starH h c) s).b * p) d) (vecY (h * q) (h * p) ((subC (starH h c) s).c * q + (subC (starH h c) s).d * p) d) (h * q) (h * p)) := by
  have n : ∀ {x y : Int}, ((x - y).natAbs : Int) ≤ x.natAbs + y.natAbs := fun {x y} => by omega
  refine ⟨win_pell P (by show (((starH h c).b - s.b).natAbs : Int) + ((starH h c).d - s.d).natAbs + h.natAbs < q; omega), fun d hd => ?_⟩
  have key : ∀ {C : C4} {x y : Int}, ((starH h C).b = (starH h c).b ∨ (starH h C).b = (starH h c).b + h ∨ (starH h C).b = (starH h c).b - h) → ((starH h C).d = (starH h c).d ∨ (starH h C).d = (starH h c).d + h ∨ (starH h C).d = (starH h c).d - h) →
      (subC (starH h C) s).a * q + (subC (starH h C) s).b * p = x → (subC (starH h C) s).c * q + (subC (starH h C) s).d * p = y → (hasL h s C = true ↔ WinL x y (h * q) (h * p)) := fun {C x y} k1 k2 e1 e2 => by
    rw [← e1, ← e2]
    refine win_pell P ?_
    show (((starH h C).b - s.b).natAbs : Int) + ((starH h C).d - s.d).natAbs + h.natAbs < q
    omega
  have cs : d = 0 ∨ d = 1 ∨ d = 2 ∨ d = 3 ∨ d = 4 ∨ d = 5 ∨ d = 6 ∨ d = 7 := by omega
  rcases cs with rfl | rfl | rfl | rfl | rfl | rfl | rfl | rfl
  · refine key (.inl rfl) (.inl rfl) ?_ ?_
    · show (2 * h * (c.a + 1) - s.a) * q + (h * (c.d - c.b) - s.b) * p = (2 * h * c.a - s.a) * q + (h * (c.d - c.b) - s.b) * p + 2 * (h * q)
      grind
    · rfl
  · refine key (.inr (.inr (by show h * (c.d - (c.b + 1)) = h * (c.d - c.b) - h; grind))) (.inr (.inl (by show h * (c.b + 1 + c.d) = h * (c.b + c.d) + h; grind))) ?_ ?_
    · show (2 * h * c.a - s.a) * q + (h * (c.d - (c.b + 1)) - s.b) * p = (2 * h * c.a - s.a) * q + (h * (c.d - c.b) - s.b) * p - h * p
      grind
    · show (-2 * h * c.c - s.c) * q + (h * (c.b + 1 + c.d) - s.d) * p = (-2 * h * c.c - s.c) * q + (h * (c.b + c.d) - s.d) * p + h * p
      grind
  · refine key (.inl rfl) (.inl rfl) ?_ ?_
    · rfl
    · show (-2 * h * (c.c + 1) - s.c) * q + (h * (c.b + c.d) - s.d) * p = (-2 * h * c.c - s.c) * q + (h * (c.b + c.d) - s.d) * p - 2 * (h * q)
      grind
  · refine key (.inr (.inl (by show h * (c.d + 1 - c.b) = h * (c.d - c.b) + h; grind))) (.inr (.inl (by show h * (c.b + (c.d + 1)) = h * (c.b + c.d) + h; grind))) ?_ ?_
    · show (2 * h * c.a - s.a) * q + (h * (c.d + 1 - c.b) - s.b) * p = (2 * h * c.a - s.a) * q + (h * (c.d - c.b) - s.b) * p + h * p
      grind
    · show (-2 * h * c.c - s.c) * q + (h * (c.b + (c.d + 1)) - s.d) * p = (-2 * h * c.c - s.c) * q + (h * (c.b + c.d) - s.d) * p + h * p
      grind
  · refine key (.inl rfl) (.inl rfl) ?_ ?_
    · show (2 * h * (c.a + -1) - s.a) * q + (h * (c.d - c.b) - s.b) * p = (2 * h * c.a - s.a) * q + (h * (c.d - c.b) - s.b) * p - 2 * (h * q)
      grind
    · rfl
  · refine key (.inr (.inl (by show h * (c.d - (c.b + -1)) = h * (c.d - c.b) + h; grind))) (.inr (.inr (by show h * (c.b + -1 + c.d) = h * (c.b + c.d) - h; grind))) ?_ ?_
    · show (2 * h * c.a - s.a) * q + (h * (c.d - (c.b + -1)) - s.b) * p = (2 * h * c.a - s.a) * q + (h * (c.d - c.b) - s.b) * p + h * p
      grind
    · show (-2 * h * c.c - s.c) * q + (h * (c.b + -1 + c.d) - s.d) * p = (-2 * h * c.c - s.c) * q + (h * (c.b + c.d) - s.d) * p - h * p
      grind
  · refine key (.inl rfl) (.inl rfl) ?_ ?_
    · rfl
    · show (-2 * h * (c.c + -1) - s.c) * q + (h * (c.b + c.d) - s.d) * p = (-2 * h * c.c - s.c) * q + (h * (c.b + c.d) - s.d) * p + 2 * (h * q)
      grind
  · refine key (.inr (.inr (by show h * (c.d + -1 - c.b) = h * (c.d - c.b) - h; grind))) (.inr (.inr (by show h * (c.b + (c.d + -1)) = h * (c.b + c.d) - h; grind))) ?_ ?_
    · show (2 * h * c.a - s.a) * q + (h * (c.d + -1 - c.b) - s.b) * p = (2 * h * c.a - s.a) * q + (h * (c.d - c.b) - s.b) * p - h * p
      grind
    · show (-2 * h * c.c - s.c) * q + (h * (c.b + (c.d + -1)) - s.d) * p = (-2 * h * c.c - s.c) * q + (h * (c.b + c.d) - s.d) * p - h * p
      grind
/-- of three directions one behind the other, one is a side -/
theorem side_gap {h : Int} {s c : C4} (hh : 0 < h) (w : hasL h s c = true) (d : Nat) (hd : d < 8) : hasL h s (stepC c d 1) = true ∨ hasL h s (stepC c ((d + 1) % 8 : Nat) 1) = true ∨ hasL h s (stepC c ((d + 2) % 8 : Nat) 1) = true := by
  obtain ⟨p, q, P, far⟩ := pell_far ((starH h c).b.natAbs + s.b.natAbs + (starH h c).d.natAbs + s.d.natAbs + 3 * h.natAbs)
  obtain ⟨k0, k⟩ := has_pell (s := s) (c := c) (h := h) P (by omega)
  rw [k d hd, k _ (Nat.mod_lt _ (by decide)), k _ (Nat.mod_lt _ (by decide))]
  have w := k0.mp w
  have u : 0 < h * q := Int.mul_pos hh P.q
  have lo : 7 * (h * q) < 5 * (h * p) := by
    have := Int.mul_lt_mul_of_pos_left P.lo hh
    grind
  have hi : 2 * (h * p) ≤ 3 * (h * q) := by
    have := Int.mul_le_mul_of_nonneg_left P.hi (Int.le_of_lt hh)
    grind
  have cs : d = 0 ∨ d = 1 ∨ d = 2 ∨ d = 3 ∨ d = 4 ∨ d = 5 ∨ d = 6 ∨ d = 7 := by omega
  rcases cs with rfl | rfl | rfl | rfl | rfl | rfl | rfl | rfl
  · exact w.gap0 u lo hi
  · exact w.gap1 u lo hi
  · exact w.gap2 u lo hi
  · exact w.gap3 u lo hi
  · exact w.gap4 u lo hi
  · exact w.gap5 u lo hi
  · exact w.gap6 u lo hi
  · exact w.gap7 u lo hi
/-- a tile as it should be -/
def Tl.ok (t : Tl) : Prop := 0 ≤ t.i ∧ t.i < t.j ∧ t.j ≤ 3 ∧ Bw4 390 t.c
abbrev s__law_tiles : Stmt := top 41
theorem sc__law_tiles : FnScope ["pool", "made", "k", "i", "j"] ["pool"] (defScope s__law_tiles) := ⟨rfl, rfl, rfl, by decide +kernel, rfl, by decide +kernel, by decide +kernel⟩

def sp__law_tiles (Z : Zs) : Sp := fun vs H Q E =>
  ∃ p l, vs = [.ref p] ∧ PlA H p l ∧ ∀ u xs ts H', SameXX p l H H' → PlA H' p l → H u = none → H' u = some (.lst xs) → Tls H' xs ts → xs.length ≤ 40 → (∀ t ∈ ts, Tl.ok t) → Q (.ref u) H'
theorem ok__law_tiles (T : Txt Z mg) (h__law_draw : Has P w Z.K mg base "_law_draw" 1 ["pool", "many"] (sp__law_draw Z)) (h__law_corner : Has P w Z.K mg base "_law_corner" 3 ["pool", "far"] (sp__law_corner Z)) (D : AtF Z.K mg "_law_tiles" "_law_tiles" s__law_tiles ["pool"]) : Has P w Z.K mg base "_law_tiles" 4 ["pool"] (sp__law_tiles Z) := by
  refine D.ok sc__law_tiles (fun vs H Q E h => ?_) (fun cdv A outer s H vs Q E hr h => ?_)
  · obtain ⟨p, l, rfl, _⟩ := h
    rfl
  · refine ⟨_, (pss_cons (ps_set (i := 1) sc__law_tiles.nd rfl (Or.inl rfl) (pe_lst pa_nil))
      (pss_cons (ps_for (passes_of rfl) rfl (pi_range1 rfl T.n_range (pa_cons (pe_ix ix_seq (pe_lst (pa_cons pe_int (pa_cons pe_int (pa_cons pe_int (pa_cons pe_int pa_nil))))) (pe_h (E := ED E) h__law_draw hr (paW (takes_of rfl rfl rfl rfl)) (pa_cons (pv 0) (pa_cons pe_int pa_nil))) (fun _ _ => rfl)) pa_nil)) (pg_name (i := 2) sc__law_tiles.nd rfl (Or.inl rfl)) (pss_cons (ps_set (i := 3) sc__law_tiles.nd rfl (Or.inl rfl) (pe_h (E := ED E) h__law_draw hr (paW (takes_of rfl rfl rfl rfl)) (pa_cons (pv 0) (pa_cons pe_int pa_nil))))
      (pss_cons (ps_set (i := 4) sc__law_tiles.nd rfl (Or.inl rfl) (pe_op op_add (pe_op op_add (pv 3) pe_int) (pe_h (E := ED E) h__law_draw hr (paW (takes_of rfl rfl rfl rfl)) (pa_cons (pv 0) (pa_cons (pe_op op_sub pe_int (pv 3)) pa_nil)))))
      (pss_one (ps_expr (pe_bm PySem.F.plainAttrs_list PySem.F.slot_list_append PySem.F.type_list_append mt_append (pv 1) (pa_cons (pe_tup (pa_cons (pe_h (E := ED E) h__law_corner hr (paW (takes_of rfl rfl rfl rfl)) (pa_cons (pv 0) (pa_cons pe_int pa_nil))) (pa_cons (pv 3) (pa_cons (pv 4) pa_nil)))) pa_nil)))))))
      (pss_one (ps_ret (pv 1))))), ?_⟩
    try simp only [cxOf]
    obtain ⟨p, l, rfl, hs, q⟩ := h
    walk_at "W"
    refine k_lst rfl fun u H1 hu s1 e1 => ?_
    have hs1 := hs.same s1
    have nu := hs.new hu
    walk_at "W"
    refine k_lst rfl fun l0 H2 hl0 s2 e2 => ?_
    have hs2 := hs1.same s2
    have nl0 := hs1.new hl0
    walk_at "W"
    refine k_pool hs2 (by decide) (by decide) fun d H3 d0 d1 s3 hs3 => ?_
    have e2 := s3 _ _ nl0.1 nl0.2 e2
    have e1 := s3 _ _ nu.1 nu.2 (s2 _ _ e1)
    obtain ⟨n, hn, n0, n40⟩ : ∃ n : Int, atI [V.int 0, .int 1, .int 3, .int 40] d = some (.int n) ∧ 0 ≤ n ∧ n ≤ 40 := by
      have : d = 0 ∨ d = 1 ∨ d = 2 ∨ d = 3 := by omega
      rcases this with rfl | rfl | rfl | rfl <;> exact ⟨_, rfl, by decide, by decide⟩
    walk_at "W"
    refine w_ixL e2 hn ?_
    have S3 : SameXX p l H H3 := (SameXX.of (s1.trans s2)).trans s3
    walk_at "W"
    refine k_forR (fun i σ' H' => SameXX p l H H' ∧ PlA H' p l ∧ (∃ x2 x3 x4, σ' = [some (.ref p), some (.ref u), x2, x3, x4]) ∧ ∃ xs ts, H' u = some (.lst xs) ∧ Tls H' xs ts ∧ xs.length = i ∧ ∀ t ∈ ts, Tl.ok t) (by omega) (by omega) ⟨S3, hs3, ⟨none, none, none, rfl⟩, [], [], e1, Tls.nil, rfl, fun _ h => nomatch h⟩ ?_ ?_
    · rintro i σ' H4 hi ⟨s4, hs4, ⟨x2, x3, x4, rfl⟩, xs, ts, e4, ht, lx, ok⟩
      walk_at "W"
      refine k_pool hs4 (by decide) (by decide) fun a H5 a0 a1 s5 hs5 => ?_
      walk_at "W"
      refine k_poolS hs5 (by omega) (by omega) fun b H6 b0 b1 s6 hs6 => ?_
      walk_at "W"
      refine k_bm (s6 _ _ nu.1 nu.2 (s5 _ _ nu.1 nu.2 e4)) ?_
      walk_at "W"
      refine ⟨p, l, 45, rfl, hs6, .inl rfl, fun v c H7 wc s7 hs7 e7 => ?_⟩
      walk_at "W"
      refine k_tup rfl fun t H8 htn s8 e8 => ?_
      walk_at "W"
      have X : SameXX p l H4 H8 := s5.trans (s6.trans (s7.trans (SameXX.of s8)))
      have k48 := hs4.kps X
      have e48 := X _ _ nu.1 nu.2 e4
      refine w_append e48 (by omega) fun H9 s9 e9 => ?_
      have hs8 := hs7.same s8
      have k89 : Kps H8 H9 := Kps.sx e48 s9
      refine ⟨fun b o m n e => s9 b o (ne_of_none e hu) ((s4.trans X) b o m n e), ?_, ⟨_, _, _, rfl⟩, xs ++ [.ref t], ts ++ [⟨c, a, a + 1 + b⟩], e9, ?_, by simp; omega, fun y hy => ?_⟩
      · obtain ⟨x, y, ks, g1, g2, g3, g4⟩ := hs8
        exact ⟨x, y, ks, s9 _ _ (Ne.symm nu.1) g1, s9 _ _ (Ne.symm nu.2) g2, g3, g4⟩
      · exact (ht.kps (k48.trans k89)).snoc ⟨t, _, rfl, k89.tup e8, v, rfl, k89.tup (s8 _ _ e7)⟩
      · rcases List.mem_append.mp hy with hy | hy
        · exact ok y hy
        · obtain rfl : y = ⟨c, a, a + 1 + b⟩ := by simpa using hy
          exact ⟨a0, (by show a < a + 1 + b; omega), (by show a + 1 + b ≤ 3; omega), wc.1.mono (by decide), wc.2.1.mono (by decide), wc.2.2.1.mono (by decide), wc.2.2.2.mono (by decide)⟩
    · rintro σ' H4 ⟨s4, hs4, ⟨x2, x3, x4, rfl⟩, xs, ts, e4, ht, lx, ok⟩
      walk_at "W"
      exact q u xs ts H4 s4 hs4 hu e4 ht (by omega) ok
abbrev s__law_due : Stmt := top 42
theorem sc__law_due : FnScope ["heap", "v", "tile"] ["heap", "v"] (defScope s__law_due) := ⟨rfl, rfl, rfl, by decide +kernel, rfl, by decide +kernel, by decide +kernel⟩

def sp__law_due (Z : Zs) : Sp := fun vs H Q E =>
  ∃ a q d xs ts, vs = [.ref a, .ref q] ∧ H a = some (.lst xs) ∧ H q = some (.tup [.int (d : C4).a, .int d.b, .int d.c, .int d.d]) ∧ Tls H xs ts ∧ xs.length ≤ 500 ∧ ∀ u ys H', Same H H' → H' u = some (.tup ys) → Tls H' ys (ts.map (Tl.moved d)) → Q (.ref u) H'
theorem ok__law_due (T : Txt Z mg) (h__law_sum : Has P w Z.K mg base "_law_sum" 1 ["one", "other"] (sp__law_sum Z)) (D : AtF Z.K mg "_law_due" "_law_due" s__law_due ["heap", "v"]) : Has P w Z.K mg base "_law_due" 2 ["heap", "v"] (sp__law_due Z) := by
  refine D.ok sc__law_due (fun vs H Q E h => ?_) (fun cdv A outer s H vs Q E hr h => ?_)
  · obtain ⟨a, q, d, xs, ts, rfl, _⟩ := h
    rfl
  · refine ⟨_, (pss_one (ps_ret (pe_callTy cn_tuple rfl T.n_tuple (by decide +kernel) (pa_cons (pe_lc (own := [("tile", 2)]) (g := gName 2) rfl sc__law_due.nd (pi_list (pv 0)) (blkOk_by (N := ["heap", "v", "tile"]) (sc := (defScope s__law_due)) (by decide +kernel)) (fun _ _ _ _ _ => pg_name (i := 2) sc__law_due.nd rfl (Or.inl rfl)) (fun _ _ _ _ _ => pts_nil) (fun _ _ _ _ _ => (pe_op (op_catZ (K := Z.K) rfl) (pe_tup (pa_cons (pe_h (E := fun _ => E0) h__law_sum hr pa0 (pa_cons (pe_ix (ix_seqZ (K := Z.K) rfl) (pv 2) pe_int (fun _ _ => rfl)) (pa_cons (pv 1) pa_nil))) pa_nil)) (pe_slice (sl_tupZ (K := Z.K) rfl) (pv 2) (po_some pe_int) po_none)))) pa_nil)))), ?_⟩
    try simp only [cxOf]
    obtain ⟨a, q, d, xs, ts, rfl, ha, hq, hts, hl, k⟩ := h
    walk_at "W"
    refine k_lcL (xs := xs) (fun i D H' => H D = none ∧ (∃ ms, H' D = some (.lst ms) ∧ Tls H' ms ((ts.take i).map (Tl.moved d))) ∧ Same H H') (SqL.of ha) (fun D hD => ⟨hD, ⟨[], upd_same, Tls.nil⟩, Same.new hD⟩) (fun i D H' h => SqL.of (h.2.2 _ _ ha)) ?_ ?_
    · rintro i x D H' hx ⟨hD, ⟨ms, e1, e2⟩, ss⟩
      have li : i < ts.length := by rw [← hts.1]; exact (List.getElem?_eq_some_iff.mp hx).1
      obtain ⟨p, y, rfl, ep, pc, rfl, ec⟩ := hts.2 i x _ hx (List.getElem?_eq_getElem li)
      have et := List.getElem?_eq_getElem li
      generalize ts[i] = T0 at *
      have ep := ss _ _ ep
      have ec := ss _ _ ec
      refine ⟨rfl, w_yes (w_T rfl ?_)⟩
      walk_at "W"
      refine ⟨pc, q, T0.c, d, rfl, ec, ss _ _ hq, fun u H5 s5 eu => ?_⟩
      have ep := s5 _ _ ep
      walk_at "W"
      refine k_tup rfl fun t H6 ht s6 e6 => ?_
      have ep := s6 _ _ ep
      walk_at "W"
      refine k_slA ep fun t2 H7 s7 e7 => ?_
      have e7 : H7 t2 = some (.tup [.int T0.i, .int T0.j]) := e7
      refine w_catA (s7 _ _ e6) e7 rfl fun t3 H8 s8 e8 => ?_
      have e8 : H8 t3 = some (.tup [.ref u, .int T0.i, .int T0.j]) := e8
      have S := s5.trans (s6.trans (s7.trans s8))
      have kp : Kps H' (upd H8 D (.lst (ms ++ [.ref t3]))) := fun b o n e => by
        rw [upd_ne (ne_of e e1 (n _))]
        exact S _ _ e
      have nt : t3 ≠ D := fun z => by rw [z, S _ _ e1] at e8; cases e8
      have nu : u ≠ D := fun z => by rw [z, s5 _ _ e1] at eu; cases eu
      refine ⟨ms, S _ _ e1, sz_lt (by have := e2.1; have := (List.getElem?_eq_some_iff.mp hx).1; simp at *; omega), hD, ⟨ms ++ [.ref t3], upd_same, ?_⟩, fun b o e => ?_⟩
      · rw [List.take_add_one, et, List.map_append]
        exact (e2.kps kp).snoc ⟨t3, _, rfl, by rw [upd_ne nt]; exact e8, u, rfl, by rw [upd_ne nu]; exact s8 _ _ (s7 _ _ (s6 _ _ eu))⟩
      · rw [upd_ne (ne_of_none e hD)]
        exact S _ _ (ss b o e)
    · rintro D H5 ⟨hD, ⟨ms, e1, e2⟩, ss⟩
      rw [hts.1, List.take_length] at e2
      exact w_tupL e1 fun u H6 hu s6 e6 => k u ms H6 (ss.trans s6) e6 (e2.kps (Kps.same s6))
def slB (f : Fin 8 → Bool) : List Int := (if f 0 then [0] else []) ++ (if f 1 then [1] else []) ++ (if f 2 then [2] else []) ++ (if f 3 then [3] else []) ++ (if f 4 then [4] else []) ++ (if f 5 then [5] else []) ++ (if f 6 then [6] else []) ++ (if f 7 then [7] else [])
/-- what the gaps say of a row of sides -/
def chkB (a b c d e f g h : Bool) : Bool :=
  let L : List Int := (if a then [0] else []) ++ (if b then [1] else []) ++ (if c then [2] else []) ++ (if d then [3] else []) ++ (if e then [4] else []) ++ (if f then [5] else []) ++ (if g then [6] else []) ++ (if h then [7] else [])
  !((a || b || c) && (b || c || d) && (c || d || e) && (d || e || f) && (e || f || g) && (f || g || h) && (g || h || a) && (h || a || b)) ||
    (decide (3 ≤ L.length) && (List.range 8).all fun i => decide (L.length ≤ i) || decide (L.getD i 0 % 4 ≠ L.getD ((i + 1) % L.length) 0 % 4))
theorem chk_all : ∀ a b c d e f g h : Bool, chkB a b c d e f g h = true := by decide +kernel
theorem sides_eq {h : Int} {s c : C4} : sidesN h s c 8 = (if hasL h s (stepC c 0 1) then [0] else []) ++ (if hasL h s (stepC c 1 1) then [1] else []) ++ (if hasL h s (stepC c 2 1) then [2] else []) ++ (if hasL h s (stepC c 3 1) then [3] else []) ++ (if hasL h s (stepC c 4 1) then [4] else []) ++ (if hasL h s (stepC c 5 1) then [5] else []) ++ (if hasL h s (stepC c 6 1) then [6] else []) ++ (if hasL h s (stepC c 7 1) then [7] else []) := by
  rw [sidesN_succ, sidesN_succ, sidesN_succ, sidesN_succ, sidesN_succ, sidesN_succ, sidesN_succ, sidesN_succ]
  show [] ++ _ ++ _ ++ _ ++ _ ++ _ ++ _ ++ _ ++ _ = _
  rw [List.nil_append]
  rfl
/-- two sides one behind the other are of unlike lines, and there are three sides or more -/
theorem sides_next {h : Int} {s c : C4} (hh : 0 < h) (w : hasL h s c = true) : 3 ≤ (sidesN h s c 8).length ∧ ∀ i, i < (sidesN h s c 8).length → (sidesN h s c 8).getD i 0 % 4 ≠ (sidesN h s c 8).getD ((i + 1) % (sidesN h s c 8).length) 0 % 4 := by
  have g := side_gap hh w
  have l8 := sidesN_len (h := h) (s := s) (c := c) (n := 8)
  rw [sides_eq] at l8 ⊢
  have g0 := g 0 (by decide)
  have g1 := g 1 (by decide)
  have g2 := g 2 (by decide)
  have g3 := g 3 (by decide)
  have g4 := g 4 (by decide)
  have g5 := g 5 (by decide)
  have g6 := g 6 (by decide)
  have g7 := g 7 (by decide)
  have k := chk_all (hasL h s (stepC c 0 1)) (hasL h s (stepC c 1 1)) (hasL h s (stepC c 2 1)) (hasL h s (stepC c 3 1)) (hasL h s (stepC c 4 1)) (hasL h s (stepC c 5 1)) (hasL h s (stepC c 6 1)) (hasL h s (stepC c 7 1))
  have c0 : hasL h s (stepC c 0 1) = true ∨ hasL h s (stepC c 1 1) = true ∨ hasL h s (stepC c 2 1) = true := g0
  have c1 : hasL h s (stepC c 1 1) = true ∨ hasL h s (stepC c 2 1) = true ∨ hasL h s (stepC c 3 1) = true := g1
  have c2 : hasL h s (stepC c 2 1) = true ∨ hasL h s (stepC c 3 1) = true ∨ hasL h s (stepC c 4 1) = true := g2
  have c3 : hasL h s (stepC c 3 1) = true ∨ hasL h s (stepC c 4 1) = true ∨ hasL h s (stepC c 5 1) = true := g3
  have c4 : hasL h s (stepC c 4 1) = true ∨ hasL h s (stepC c 5 1) = true ∨ hasL h s (stepC c 6 1) = true := g4
  have c5 : hasL h s (stepC c 5 1) = true ∨ hasL h s (stepC c 6 1) = true ∨ hasL h s (stepC c 7 1) = true := g5
  have c6 : hasL h s (stepC c 6 1) = true ∨ hasL h s (stepC c 7 1) = true ∨ hasL h s (stepC c 0 1) = true := g6
  have c7 : hasL h s (stepC c 7 1) = true ∨ hasL h s (stepC c 0 1) = true ∨ hasL h s (stepC c 1 1) = true := g7
  clear g g0 g1 g2 g3 g4 g5 g6 g7
  generalize hasL h s (stepC c 0 1) = a0 at *
  generalize hasL h s (stepC c 1 1) = a1 at *
  generalize hasL h s (stepC c 2 1) = a2 at *
  generalize hasL h s (stepC c 3 1) = a3 at *
  generalize hasL h s (stepC c 4 1) = a4 at *
  generalize hasL h s (stepC c 5 1) = a5 at *
  generalize hasL h s (stepC c 6 1) = a6 at *
  generalize hasL h s (stepC c 7 1) = a7 at *
  unfold chkB at k
  simp only [Bool.or_eq_true, Bool.not_eq_true', Bool.and_eq_true, Bool.and_eq_false_iff, Bool.or_eq_false_iff, decide_eq_true_eq, List.all_eq_true, List.mem_range] at k
  rcases k with k | ⟨k1, k2⟩
  · exfalso
    revert c0 c1 c2 c3 c4 c5 c6 c7 k
    cases a0 <;> cases a1 <;> cases a2 <;> cases a3 <;> cases a4 <;> cases a5 <;> cases a6 <;> cases a7 <;> simp
  · refine ⟨k1, fun i hi => ?_⟩
    rcases k2 i (Nat.lt_of_lt_of_le hi l8) with z | z
    · omega
    · exact z
/-- a tile as data -/
def tlD (t : Tl) : PyData := .tuple [.tuple [.int t.c.a, .int t.c.b, .int t.c.c, .int t.c.d], .int t.i, .int t.j]
theorem tile_dp {K : PySem.W.Frag} {H : Hp} {x : V} {t : Tl} (h : TileAt H x t.c t.i t.j) : Dp K H x (tlD t) := by
  obtain ⟨p, y, rfl, e, q, rfl, e2⟩ := h
  exact .tup (SqT.of e) (.cons (.tup (SqT.of e2) (.cons (.int _) (.cons (.int _) (.cons (.int _) (.cons (.int _) .nil))))) (.cons (.int _) (.cons (.int _) .nil)))
theorem Tls.tail {H : Hp} {x : V} {xs : List V} {t : Tl} {ts : List Tl} (h : Tls H (x :: xs) (t :: ts)) : TileAt H x t.c t.i t.j ∧ Tls H xs ts :=
  ⟨h.2 0 x t rfl rfl, by have := h.1; simpa using this, fun k y u hy hu => h.2 (k + 1) y u (by simpa using hy) (by simpa using hu)⟩
theorem tls_dp {K : PySem.W.Frag} {H : Hp} : ∀ {xs : List V} {ts : List Tl}, Tls H xs ts → DpAll K H xs (ts.map tlD)
  | [], [], _ => .nil
  | [], _ :: _, h => by have := h.1; simp at this
  | _ :: _, [], h => by have := h.1; simp at this
  | x :: xs, t :: ts, h => .cons (tile_dp h.tail.1) (tls_dp h.tail.2)
theorem tl_lay (t : Tl) : (tlD t).canLay0 = true := rfl
theorem tls_lay : ∀ ts : List Tl, PyData.canLayAll0 (ts.map tlD) = true
  | [] => rfl
  | t :: ts => by
    show (PyData.canLay0 (tlD t) && PyData.canLayAll0 (ts.map tlD)) = true
    rw [tl_lay, tls_lay ts]
    rfl
theorem tl_dep (t : Tl) : (tlD t).depth ≤ 2 := Nat.le_of_ble_eq_true rfl
theorem tls_dep : ∀ ts : List Tl, PyData.depthAll (ts.map tlD) ≤ 3
  | [] => Nat.zero_le _
  | t :: ts => by
    have h1 := tl_dep t
    have h2 := tls_dep ts
    simp only [List.map_cons, PyData.depthAll]
    omega
theorem tls_shaped (ts : List Tl) : SeqAt.shaped (.list (ts.map tlD)) = true := by
  unfold SeqAt.shaped
  have h := tls_dep ts
  simp only [PyData.canLay0, tls_lay, Bool.true_and, PyData.depth]
  exact decide_eq_true (by omega)
abbrev s__law_heap : Stmt := top 37
theorem sc__law_heap : FnScope ["pool", "floor", "corner", "many", "heap", "here", "k", "sides", "at", "tile"] ["pool", "floor", "corner", "many"] (defScope s__law_heap) := ⟨rfl, rfl, rfl, by decide +kernel, rfl, by decide +kernel, by decide +kernel⟩

def sp__law_heap (Z : Zs) : Sp := fun vs H Q E =>
  ∃ p l f q h s c n, vs = [.ref p, .ref f, .ref q, .int n] ∧ PlA H p l ∧ LFl H f h s ∧ 0 < h ∧ h ≤ 35 ∧ Bw4 600 s ∧ H q = some (.tup [.int (c : C4).a, .int c.b, .int c.c, .int c.d]) ∧ Bw4 181 c ∧ hasL h s c = true ∧ 0 ≤ n ∧ n ≤ 5 ∧ ∀ u xs ts H', SameXX p l H H' → PlA H' p l → H u = none → H' u = some (.lst xs) → Tls H' xs ts → xs.length ≤ 40 → (∀ t ∈ ts, Tl.ok t) → Q (.ref u) H'
theorem ok__law_heap (T : Txt Z mg) (h__law_draw : Has P w Z.K mg base "_law_draw" 1 ["pool", "many"] (sp__law_draw Z)) (h__law_next : Has P w Z.K mg base "_law_next" 1 ["corner", "direction"] (sp__law_next Z)) (h__law_between : Has P w Z.K mg base "_law_between" 2 ["corner", "one", "other"] (sp__law_between Z)) (h__law_sides : Has P w Z.K mg base "_law_sides" 5 ["floor", "corner"] (sp__law_sides Z)) (D : AtF Z.K mg "_law_heap" "_law_heap" s__law_heap ["pool", "floor", "corner", "many"]) : Has P w Z.K mg base "_law_heap" 6 ["pool", "floor", "corner", "many"] (sp__law_heap Z) := by
  refine D.ok sc__law_heap (fun vs H Q E h => ?_) (fun cdv A outer s H vs Q E hr h => ?_)
  · obtain ⟨p, l, f, q, h, s, c, n, rfl, _⟩ := h
    rfl
  · refine ⟨_, (pss_cons (ps_set (i := 4) sc__law_heap.nd rfl (Or.inl rfl) (pe_lst pa_nil))
      (pss_cons (ps_set (i := 5) sc__law_heap.nd rfl (Or.inl rfl) (pv 2))
      (pss_cons (ps_for (passes_of rfl) rfl (pi_range1 rfl T.n_range (pa_cons (pv 3) pa_nil)) (pg_name (i := 6) sc__law_heap.nd rfl (Or.inl rfl)) (pss_cons (ps_set (i := 7) sc__law_heap.nd rfl (Or.inl rfl) (pe_h (E := ED E) h__law_sides hr (paW (takes_of rfl rfl rfl rfl)) (pa_cons (pv 1) (pa_cons (pv 5) pa_nil))))
      (pss_cons (ps_set (i := 8) sc__law_heap.nd rfl (Or.inl rfl) (pe_h (E := ED E) h__law_draw hr (paW (takes_of rfl rfl rfl rfl)) (pa_cons (pv 0) (pa_cons (pe_callB cn_len rfl T.n_len (by decide +kernel) (pa_cons (pv 7) pa_nil)) pa_nil))))
      (pss_cons (ps_set (i := 9) sc__law_heap.nd rfl (Or.inl rfl) (pe_h (E := ED E) h__law_between hr (paW (takes_of rfl rfl rfl rfl)) (pa_cons (pv 5) (pa_cons (pe_ix ix_seq (pv 7) (pv 8) (fun _ _ => rfl)) (pa_cons (pe_ix ix_seq (pv 7) (pe_op op_mod (pe_callTy cn_int rfl T.n_int (by decide +kernel) (pa_cons (pe_op op_add (pv 8) pe_int) pa_nil)) (pe_callB cn_len rfl T.n_len (by decide +kernel) (pa_cons (pv 7) pa_nil))) (fun _ _ => rfl)) pa_nil)))))
      (C8.pss_cut (ps_if (pt_cmpR (op_notInD (room65 hr)) (pv 9) (pv 4) (by rfl)) (pss_one (ps_expr (pe_bm PySem.F.plainAttrs_list PySem.F.slot_list_append PySem.F.type_list_append mt_append (pv 4) (pa_cons (pv 9) pa_nil)))) pss_nil)
      (pss_one (ps_if (pt_cmpR op_gt (pe_h (E := ED E) h__law_draw hr (paW (takes_of rfl rfl rfl rfl)) (pa_cons (pv 0) (pa_cons pe_int pa_nil))) pe_int (nomark _)) (pss_one (ps_set (i := 5) sc__law_heap.nd rfl (Or.inl rfl) (pe_h (E := ED E) h__law_next hr (paW (takes_of rfl rfl rfl rfl)) (pa_cons (pv 5) (pa_cons (pe_ix ix_seq (pv 7) (pe_h (E := ED E) h__law_draw hr (paW (takes_of rfl rfl rfl rfl)) (pa_cons (pv 0) (pa_cons (pe_callB cn_len rfl T.n_len (by decide +kernel) (pa_cons (pv 7) pa_nil)) pa_nil))) (fun _ _ => rfl)) pa_nil))))) pss_nil)))))))
      (pss_one (ps_ret (pv 4)))))), ?_⟩
    try simp only [cxOf]
    obtain ⟨p, l, f, q, h, s, c, n, rfl, hs, hf, h0, h35, ws, hq, wc, hc, n0, n5, k⟩ := h
    have wh : Bw 100 h := bw_of (n := 35) (by omega) (by decide)
    walk_at "W"
    refine k_lst rfl fun u H1 hu s1 e1 => ?_
    have nu := hs.new hu
    walk_at "W"
    refine k_forR (fun i σ' H' => SameXX p l H H' ∧ PlA H' p l ∧ ∃ (qh : Addr) (ch : C4) (x6 x7 x8 x9 : Option V), σ' = [some (.ref p), some (.ref f), some (.ref q), some (.int n), some (.ref u), some (.ref qh), x6, x7, x8, x9] ∧ H' qh = some (.tup [.int ch.a, .int ch.b, .int ch.c, .int ch.d]) ∧ Bw4 (181 + i) ch ∧ hasL h s ch = true ∧ ∃ xs ts, H' u = some (.lst xs) ∧ Tls H' xs ts ∧ xs.length ≤ i ∧ ∀ t ∈ ts, Tl.ok t) (by omega) (by omega) ⟨SameXX.of s1, hs.same s1, q, c, none, none, none, none, rfl, s1 _ _ hq, wc, hc, [], [], e1, Tls.nil, Nat.le_refl _, fun _ h => nomatch h⟩ ?_ ?_
    · rintro i σ' H2 hi ⟨s2, hs2, qh, ch, x6, x7, x8, x9, rfl, eh, wch, hch, xs, ts, e2, ht, lx, ok⟩
      have hi5 : i < 5 := by omega
      have hf2 := hf.kps (hs.kps s2)
      have w390 : Bw4 390 ch := ⟨wch.1.mono (by omega), wch.2.1.mono (by omega), wch.2.2.1.mono (by omega), wch.2.2.2.mono (by omega)⟩
      walk_at "W"
      refine ⟨f, qh, h, s, ch, rfl, hf2, eh, wh, ws, w390, fun ul H3 hul s3 e3 => ?_⟩
      obtain ⟨len3, nxt⟩ := sides_next h0 hch
      have l8 := sidesN_len (h := h) (s := s) (c := ch) (n := 8)
      have mem : ∀ d ∈ sidesN h s ch 8, ∃ k : Nat, k < 8 ∧ d = (k : Int) ∧ hasL h s (stepC ch k 1) = true := fun d hd => sides_mem.mp hd
      generalize sidesN h s ch 8 = L at *
      have hs3 := hs2.same s3
      walk_at "W"
      refine w_lenL (SqL.of e3) ?_
      walk_at "W"
      rw [List.length_map]
      refine k_poolS hs3 (by omega) (by omega) fun at_ H4 a0 a1 s4 hs4 => ?_
      have nul := hs2.new hul
      have e4 := s4 _ _ nul.1 nul.2 e3
      obtain ⟨a', rfl⟩ := Int.eq_ofNat_of_zero_le a0
      have ix : ∀ m, m < L.length → atI (L.map V.int) (m : Int) = some (.int (L.getD m 0)) := fun m hm => atI_nat (by simp [hm, List.getD])
      have inb : ∀ m, m < L.length → ∃ k : Nat, k < 8 ∧ L.getD m 0 = (k : Int) ∧ hasL h s (stepC ch k 1) = true := fun m hm => mem _ (by rw [show L.getD m 0 = L[m] by simp [List.getD, hm]]; exact List.getElem_mem hm)
      have ha : a' < L.length := by omega
      obtain ⟨k1, k18, ed, -⟩ := inb a' ha
      obtain ⟨k2, k28, ee, -⟩ := inb ((a' + 1) % L.length) (Nat.mod_lt _ (by omega))
      have nx := nxt a' ha
      have eh4 := (hs3.kps s4).tup (s3 _ _ eh)
      walk_at "W"
      refine w_ixL e4 (ix a' ha) ?_
      walk_at "W"
      refine w_lenL (SqL.of e4) ?_
      rw [List.length_map]
      refine w_I (show (0 : Int) < (L.length : Int) by omega) ?_
      rw [show ((a' : Int) + 1) % (L.length : Int) = (((a' + 1) % L.length : Nat) : Int) by rw [Int.natCast_emod]; rfl]
      refine w_ixL e4 (ix _ (Nat.mod_lt _ (by omega))) ?_
      walk_at "W"
      refine ⟨qh, ch, _, _, 181 + i, rfl, eh4, wch, by rw [ed]; omega, by rw [ed]; omega, by rw [ee]; omega, by rw [ee]; omega, nx, fun t C ti tj H5 s5 ht5 wC i0 ij j3 => ?_⟩
      have hs5 := hs4.same s5
      have X25 : SameXX p l H2 H5 := (SameXX.of s3).trans (s4.trans (SameXX.of s5))
      have e5 := s5 _ _ e4
      have eh5 := s5 _ _ eh4
      have eu5 := X25 _ _ nu.1 nu.2 e2
      have ht := ht.kps (hs2.kps X25)
      walk_at "W"
      refine w_cut (fun σ' H' => Kps H5 H' ∧ PlA H' p l ∧ σ' = [some (.ref p), some (.ref f), some (.ref q), some (.int n), some (.ref u), some (.ref qh), some (.int (0 + (i : Int))), some (.ref ul), some (.int (a' : Int)), some (.ref t)] ∧ SameXX p l H H' ∧ H' ul = some (.lst (L.map V.int)) ∧ ∃ xs ts, H' u = some (.lst xs) ∧ Tls H' xs ts ∧ xs.length ≤ i + 1 ∧ ∀ t ∈ ts, Tl.ok t) ?_ ?_
      · walk_at "W"
        refine ⟨tlD ⟨C, ti, tj⟩, ts.map tlD, tile_dp ht5, .lst (SqL.of eu5) (tls_dp ht), rfl, tls_shaped ts, ?_⟩
        refine ⟨_, rfl, ?_⟩
        generalize (!(ts.map tlD).any fun z => PyData.eqv z (tlD ⟨C, ti, tj⟩)) = bb
        cases bb
        · walk_at "W"
          exact ⟨Kps.refl _, hs5, rfl, s2.trans X25, e5, xs, ts, eu5, ht, by omega, ok⟩
        · walk_at "W"
          refine k_bm eu5 ?_
          walk_at "W"
          refine w_append eu5 (by omega) fun H6 s6 e6 => ?_
          have k56 : Kps H5 H6 := Kps.sx eu5 s6
          have nulu : ul ≠ u := fun z => by rw [z, e2] at hul; cases hul
          have S6 : SameXX p l H H6 := fun b o m n e => s6 b o (ne_of_none e hu) ((s2.trans X25) b o m n e)
          refine ⟨k56, ?_, rfl, S6, s6 _ _ nulu e5, xs ++ [.ref t], ts ++ [⟨C, ti, tj⟩], e6, (ht.kps k56).snoc (ht5.kps k56), by simp; omega, fun y hy => ?_⟩
          · obtain ⟨x, y, ks, g1, g2, g3, g4⟩ := hs5
            exact ⟨x, y, ks, s6 _ _ (Ne.symm nu.1) g1, s6 _ _ (Ne.symm nu.2) g2, g3, g4⟩
          · rcases List.mem_append.mp hy with hy | hy
            · exact ok y hy
            · obtain rfl : y = ⟨C, ti, tj⟩ := by simpa using hy
              exact ⟨i0, ij, j3, wC.1.mono (by omega), wC.2.1.mono (by omega), wC.2.2.1.mono (by omega), wC.2.2.2.mono (by omega)⟩
      rintro σ' H6 ⟨x56, hs6, rfl, s6, e6, xs, ts, eu6, ht, lx, ok⟩
      have eh6 := x56.tup eh5
      walk_at "W"
      refine k_pool hs6 (by decide) (by decide) fun d3 H7 d30 d31 s7 hs7 => ?_
      have e7 := s7 _ _ nul.1 nul.2 e6
      have eh7 := (hs6.kps s7).tup eh6
      have eu7 := s7 _ _ nu.1 nu.2 eu6
      have ht7 := ht.kps (hs6.kps s7)
      have wup : Bw4 (181 + (i + 1)) ch := ⟨wch.1.mono (by omega), wch.2.1.mono (by omega), wch.2.2.1.mono (by omega), wch.2.2.2.mono (by omega)⟩
      walk_at "W"
      refine w_ite (fun _ => ?_) (fun _ => ?_)
      · walk_at "W"
        refine w_lenL (SqL.of e7) ?_
        rw [List.length_map]
        walk_at "W"
        refine k_poolS hs7 (by omega) (by omega) fun d4 H8 d40 d41 s8 hs8 => ?_
        have e8 := s8 _ _ nul.1 nul.2 e7
        obtain ⟨m, rfl⟩ := Int.eq_ofNat_of_zero_le d40
        obtain ⟨k3, k38, em, hm⟩ := inb m (by omega)
        walk_at "W"
        refine w_ixL e8 (ix m (by omega)) ?_
        walk_at "W"
        refine ⟨qh, ch, _, rfl, (hs7.kps s8).tup eh7, by rw [em]; omega, by rw [em]; omega, fun q9 H9 s9 e9 => ?_⟩
        walk_at "W"
        refine ⟨s6.trans (s7.trans (s8.trans (SameXX.of s9))), hs8.same s9, q9, _, _, _, _, _, rfl, e9, step_bw4 (by rw [em]; omega) (by rw [em]; omega) wch, by rw [em]; exact hm, xs, ts, s9 _ _ (s8 _ _ nu.1 nu.2 eu7), (ht7.kps (hs7.kps s8)).kps (Kps.same s9), lx, ok⟩
      · walk_at "W"
        exact ⟨s6.trans s7, hs7, qh, ch, _, _, _, _, rfl, eh7, wup, hch, xs, ts, eu7, ht7, lx, ok⟩
    · rintro σ' H2 ⟨s2, hs2, qh, ch, x6, x7, x8, x9, rfl, eh, wch, hch, xs, ts, e2, ht, lx, ok⟩
      walk_at "W"
      exact k u xs ts H2 s2 hs2 hu e2 ht (by omega) ok
abbrev s_wrong_in_row : Stmt := top 11
theorem sc_wrong_in_row : FnScope ["row", "most", "index", "tile"] ["row", "most"] (defScope s_wrong_in_row) := ⟨rfl, rfl, rfl, by decide +kernel, rfl, by decide +kernel, by decide +kernel⟩

def sp_wrong_in_row (Z : Zs) : Sp := fun vs H Q E =>
  ∃ v m, vs = [v, .int m] ∧ m ≤ 1000 ∧ ((∃ n, RowBad Z H v m n ∧ ∀ H', Same H H' → Q (.int n) H') ∨ RowOk H v m ∧ ∀ H', Same H H' → Q .non H')
theorem ok_wrong_in_row (T : Txt Z mg) (h_is_tile : Has P w Z.K mg base "is_tile" 3 ["thing"] (sp_is_tile Z)) (D : AtF Z.K mg "wrong_in_row" "wrong_in_row" s_wrong_in_row ["row", "most"]) : Has P w Z.K mg base "wrong_in_row" 4 ["row", "most"] (sp_wrong_in_row Z) := by
  refine D.ok sc_wrong_in_row (fun vs H Q E h => ?_) (fun cdv A outer s H vs Q E hr h => ?_)
  · obtain ⟨v, m, rfl, _⟩ := h
    rfl
  · refine ⟨_, (pss_cons (ps_if (PW.pt (pw_or (pt_not (pt_val (pe_callB call_isiT rfl T.n_isinstance (by decide +kernel) (pa_cons (pv 0) (pa_cons (pe_tup (pa_cons (pe_bltn (v := .ty "list") rfl T.n_list (by decide +kernel) rfl) (pa_cons (pe_bltn (v := .ty "tuple") rfl T.n_tuple (by decide +kernel) rfl) pa_nil))) pa_nil))))) (pw_or1 (pt_cmpR op_gt (pe_callB cn_len rfl T.n_len (by decide +kernel) (pa_cons (pv 0) pa_nil)) (pv 1) (nomark _))))) (pss_one (ps_ret (pe_un un_neg pe_int))) pss_nil)
      (pss_cons (ps_for (passes_of rfl) rfl (pi_enumS rfl T.n_enumerate (pa_cons (pv 0) pa_nil)) (pg_tup rfl (pgs_cons (pg_name (i := 2) sc_wrong_in_row.nd rfl (Or.inl rfl)) (pgs_cons (pg_name (i := 3) sc_wrong_in_row.nd rfl (Or.inl rfl)) pgs_nil))) (pss_one (ps_if (pt_not (pt_val (pe_h (E := ED E) h_is_tile hr (paW (takes_of rfl rfl rfl rfl)) (pa_cons (pv 3) pa_nil)))) (pss_one (ps_ret (pv 2))) pss_nil)))
      (pss_one (ps_ret pe_non)))), ?_⟩
    try simp only [cxOf]
    obtain ⟨v, m, rfl, m1, hh⟩ := h
    walk_at "W"
    refine k_tup rfl fun pt H1 hpt s1 et => ?_
    walk_at "W"
    rcases hh with ⟨n, hb | ⟨a, xs, rfl, lt, l1, hb⟩, q⟩ | ⟨⟨a, xs, rfl, lt, l1, hall⟩, q⟩
    · obtain ⟨nr, rfl⟩ := hb
      obtain ⟨t, ty, k⟩ := (nr.same s1).ty (K := Z.K)
      refine w_isiLT et ty k ?_
      walk_at "W"
      exact q H1 s1
    all_goals
      obtain ⟨t, ty, k⟩ := (lt.same s1).ty (K := Z.K)
      refine w_isiLT et ty k ?_
      walk_at "W"
      refine (lt.same s1).len ?_
      walk_at "W"
    · rcases hb with ⟨hm, rfl⟩ | ⟨hm, k, x, rfl, hx, hno, hok⟩
      · rw [decide_eq_true hm]
        walk_at "W"
        exact q H1 s1
      rw [decide_eq_false (by omega)]
      walk_at "W"
      have kl : k < xs.length := (List.getElem?_eq_some_iff.mp hx).1
      have body : ∀ {i : Nat} {y : V} {σ : L2.St} {H2 H3 : Hp} {T : Addr} {z1 z2 : Option V}, xs[i]? = some y → i ≤ k → Same H H2 → H2 T = none → Same H2 H3 → H3 T = some (.tup [.int (i : Nat), y]) → (i < k ∧ IsT H3 y ∨ i = k ∧ NoTile Z H3 y) := fun {i y σ H2 H3 T z1 z2} hy hik s2 _ s3 _ => by
        rcases Nat.lt_or_ge i k with h | h
        · exact .inl ⟨h, ((hok i y h hy).same s2).same s3⟩
        · obtain rfl : i = k := by omega
          rw [hx] at hy
          cases hy
          exact .inr ⟨rfl, (hno.sameR s2).sameR s3⟩
      rcases lt.same s1 with e | e
      · refine w_forOL ?_
        walk_at "W"
        refine k_forEn (xs := xs) (fun i σ' H' => i ≤ k ∧ Same H H' ∧ ∃ z1 z2, σ' = [some (.ref a), some (.int m), z1, z2]) (SqL.of e) ⟨Nat.zero_le _, s1, _, _, rfl⟩ (fun i σ H' h => SqL.of (by rcases lt with w | w; exact h.2.1 _ _ w; exact absurd (e.symm.trans (s1 _ _ w)) (by simp))) ?_ ?_
        · rintro i y σ' H2 T H3 hy ⟨hik, s2, z1, z2, rfl⟩ hT s3 eT
          have bd := body (σ := []) (z1 := none) (z2 := none) hy hik s2 hT s3 eT
          refine k_tupl2 eT rfl rfl ?_
          walk_at "W"
          rcases bd with ⟨hk, c, i', j', ht, i0, ij, j3⟩ | ⟨rfl, hn⟩
          · refine ⟨y, rfl, .inr ⟨c, i', j', ht, i0, ij, j3, fun H4 s4 => ?_⟩⟩
            walk_at "W"
            exact ⟨hk, s2.trans (s3.trans s4), _, _, rfl⟩
          · refine ⟨y, rfl, .inl ⟨hn, fun H4 s4 => ?_⟩⟩
            walk_at "W"
            exact q H4 (s2.trans (s3.trans s4))
        · rintro σ' H2 ⟨hik, _⟩
          omega
      · refine w_forOT ?_
        walk_at "W"
        refine k_forEnT (xs := xs) (fun i σ' H' => i ≤ k ∧ Same H H' ∧ ∃ z1 z2, σ' = [some (.ref a), some (.int m), z1, z2]) (SqT.of e) ⟨Nat.zero_le _, s1, _, _, rfl⟩ (fun i σ H' h => SqT.of (by rcases lt with w | w; exact absurd (e.symm.trans (s1 _ _ w)) (by simp); exact h.2.1 _ _ w)) ?_ ?_
        · rintro i y σ' H2 T H3 hy ⟨hik, s2, z1, z2, rfl⟩ hT s3 eT
          have bd := body (σ := []) (z1 := none) (z2 := none) hy hik s2 hT s3 eT
          refine k_tupl2 eT rfl rfl ?_
          walk_at "W"
          rcases bd with ⟨hk, c, i', j', ht, i0, ij, j3⟩ | ⟨rfl, hn⟩
          · refine ⟨y, rfl, .inr ⟨c, i', j', ht, i0, ij, j3, fun H4 s4 => ?_⟩⟩
            walk_at "W"
            exact ⟨hk, s2.trans (s3.trans s4), _, _, rfl⟩
          · refine ⟨y, rfl, .inl ⟨hn, fun H4 s4 => ?_⟩⟩
            walk_at "W"
            exact q H4 (s2.trans (s3.trans s4))
        · rintro σ' H2 ⟨hik, _⟩
          omega
    · rw [decide_eq_false (by omega)]
      walk_at "W"
      rcases lt.same s1 with e | e
      · refine w_forOL ?_
        walk_at "W"
        refine k_forEn (xs := xs) (fun i σ' H' => Same H H' ∧ ∃ z1 z2, σ' = [some (.ref a), some (.int m), z1, z2]) (SqL.of e) ⟨s1, _, _, rfl⟩ (fun i σ H' h => SqL.of (by rcases lt with w | w; exact h.1 _ _ w; exact absurd (e.symm.trans (s1 _ _ w)) (by simp))) ?_ ?_
        · rintro i y σ' H2 T H3 hy ⟨s2, z1, z2, rfl⟩ hT s3 eT
          refine k_tupl2 eT rfl rfl ?_
          walk_at "W"
          obtain ⟨c, i', j', ht, i0, ij, j3⟩ := ((hall y (List.mem_of_getElem? hy)).same s2).same s3
          refine ⟨y, rfl, .inr ⟨c, i', j', ht, i0, ij, j3, fun H4 s4 => ?_⟩⟩
          walk_at "W"
          exact ⟨s2.trans (s3.trans s4), _, _, rfl⟩
        · rintro σ' H2 ⟨s2, z1, z2, rfl⟩
          walk_at "W"
          exact q H2 s2
      · refine w_forOT ?_
        walk_at "W"
        refine k_forEnT (xs := xs) (fun i σ' H' => Same H H' ∧ ∃ z1 z2, σ' = [some (.ref a), some (.int m), z1, z2]) (SqT.of e) ⟨s1, _, _, rfl⟩ (fun i σ H' h => SqT.of (by rcases lt with w | w; exact absurd (e.symm.trans (s1 _ _ w)) (by simp); exact h.1 _ _ w)) ?_ ?_
        · rintro i y σ' H2 T H3 hy ⟨s2, z1, z2, rfl⟩ hT s3 eT
          refine k_tupl2 eT rfl rfl ?_
          walk_at "W"
          obtain ⟨c, i', j', ht, i0, ij, j3⟩ := ((hall y (List.mem_of_getElem? hy)).same s2).same s3
          refine ⟨y, rfl, .inr ⟨c, i', j', ht, i0, ij, j3, fun H4 s4 => ?_⟩⟩
          walk_at "W"
          exact ⟨s2.trans (s3.trans s4), _, _, rfl⟩
        · rintro σ' H2 ⟨s2, z1, z2, rfl⟩
          walk_at "W"
          exact q H2 s2
abbrev s_check_heap : Stmt := top 14
theorem sc_check_heap : FnScope ["heap", "index"] ["heap"] (defScope s_check_heap) := ⟨rfl, rfl, rfl, by decide +kernel, rfl, by decide +kernel, by decide +kernel⟩

def sp_check_heap (Z : Zs) : Sp := fun vs H Q E =>
  ∃ v, vs = [v] ∧ ((∃ n, RowBad Z H v 40 n ∧ ErX Z.c_BadHeap "index" (.int n) H E) ∨ RowOk H v 40 ∧ ∀ H', Same H H' → Q .non H')
theorem ok_check_heap (T : Txt Z mg) (h_BadHeap : HasX P w Z.K mg base "BadHeap" Z.c_BadHeap 1 ["self", "index"] (sp_BadHeap_init Z)) (h_wrong_in_row : Has P w Z.K mg base "wrong_in_row" 4 ["row", "most"] (sp_wrong_in_row Z)) (D : AtF Z.K mg "check_heap" "check_heap" s_check_heap ["heap"]) : Has P w Z.K mg base "check_heap" 5 ["heap"] (sp_check_heap Z) := by
  refine D.ok sc_check_heap (fun vs H Q E h => ?_) (fun cdv A outer s H vs Q E hr h => ?_)
  · obtain ⟨v, rfl, _⟩ := h
    rfl
  · refine ⟨_, (pss_cons (ps_set (i := 1) sc_check_heap.nd rfl (Or.inl rfl) (pe_h (E := ED E) h_wrong_in_row hr (paW (takes_of rfl rfl rfl rfl)) (pa_cons (pv 0) (pa_cons (C8.pe_gc (v := .int 40) rfl T.g_MOST_TILES) pa_nil))))
      (pss_one (ps_if (pt_cmpR op_notN (pv 1) pe_non (nomark _)) (pss_one (ps_raise rfl (takes_of rfl rfl rfl rfl) (pm_h T.x_BadHeap h_BadHeap hr (pa_cons (pv 1) pa_nil)))) pss_nil))), ?_⟩
    try simp only [cxOf]
    obtain ⟨v, rfl, hh⟩ := h
    walk_at "W"
    refine ⟨v, 40, rfl, by decide, ?_⟩
    rcases hh with ⟨n, hb, er⟩ | ⟨hk, q⟩
    · refine .inl ⟨n, hb, fun H1 s1 => ?_⟩
      walk_at "W"
      refine ⟨rfl, ?_⟩
      walk_at "W"
      exact k_mkO (er.same s1)
    · refine .inr ⟨hk, fun H1 s1 => ?_⟩
      walk_at "W"
      refine ⟨rfl, ?_⟩
      walk_at "W"
      exact q H1 s1
abbrev s_heap_moved : Stmt := top 18
theorem sc_heap_moved : FnScope ["heap", "v"] ["heap", "v"] (defScope s_heap_moved) := ⟨rfl, rfl, rfl, by decide +kernel, rfl, by decide +kernel, by decide +kernel⟩

def sp_heap_moved (Z : Zs) : Sp := fun vs H Q E =>
  ∃ v o, vs = [v, o] ∧ ((∃ n, RowBad Z H v 40 n ∧ ErX Z.c_BadHeap "index" (.int n) H E) ∨ RowOk H v 40 ∧ (BadCor Z H o ∧ ErX Z.c_BadCorner "corner" o H E ∨ ∃ a q d xs ts, v = .ref a ∧ o = .ref q ∧ LT H a xs ∧ H q = some (.tup [.int (d : C4).a, .int d.b, .int d.c, .int d.d]) ∧ Tls H xs ts ∧ xs.length ≤ 40 ∧ ∀ u ys H', Same H H' → H' u = some (.tup ys) → Tls H' ys (ts.map (Tl.moved d)) → Q (.ref u) H'))
theorem ok_heap_moved (T : Txt Z mg) (h_moved_tiles : Has P w Z.K mg base "moved_tiles" 2 ["heap", "v"] (sp_moved_tiles Z)) (h_check_corner : Has P w Z.K mg base "check_corner" 3 ["corner"] (sp_check_corner Z)) (h_check_heap : Has P w Z.K mg base "check_heap" 5 ["heap"] (sp_check_heap Z)) (D : AtF Z.K mg "heap_moved" "heap_moved" s_heap_moved ["heap", "v"]) : Has P w Z.K mg base "heap_moved" 6 ["heap", "v"] (sp_heap_moved Z) := by
  refine D.ok sc_heap_moved (fun vs H Q E h => ?_) (fun cdv A outer s H vs Q E hr h => ?_)
  · obtain ⟨v, o, rfl, _⟩ := h
    rfl
  · refine ⟨_, (pss_cons (ps_expr (pe_h (E := ED E) h_check_heap hr (paW (takes_of rfl rfl rfl rfl)) (pa_cons (pv 0) pa_nil)))
      (pss_cons (ps_expr (pe_h (E := ED E) h_check_corner hr (paW (takes_of rfl rfl rfl rfl)) (pa_cons (pv 1) pa_nil)))
      (pss_one (ps_ret (pe_h (E := ED E) h_moved_tiles hr (paW (takes_of rfl rfl rfl rfl)) (pa_cons (pv 0) (pa_cons (pv 1) pa_nil))))))), ?_⟩
    try simp only [cxOf]
    obtain ⟨v, o, rfl, hh⟩ := h
    walk_at "W"
    rcases hh with ⟨n, hb, er⟩ | ⟨hk, hh⟩
    · exact ⟨v, rfl, .inl ⟨n, hb, er⟩⟩
    refine ⟨v, rfl, .inr ⟨hk, fun H1 s1 => ?_⟩⟩
    walk_at "W"
    rcases hh with ⟨bad, er⟩ | ⟨a, q, d, xs, ts, rfl, rfl, lt, hq, hts, hl, k⟩
    · exact ⟨o, rfl, .inr ⟨bad.same s1, er.same s1⟩⟩
    refine ⟨.ref q, rfl, .inl ⟨⟨d, q, rfl, s1 _ _ hq⟩, fun H2 s2 => ?_⟩⟩
    have S2 := s1.trans s2
    walk_at "W"
    refine ⟨a, q, d, xs, ts, rfl, lt.same S2, S2 _ _ hq, hts.kps (Kps.same S2), by omega, fun u ys H3 s3 e3 t3 => ?_⟩
    exact k u ys H3 (S2.trans s3) e3 t3
/-- what stands in a list that was just laid -/
theorem nt_cor {Z : Zs} {H : Hp} {p : Addr} {x y z : V} (h : H p = some (.tup [x, y, z])) (b : BadCor Z H x) : NoTile Z H (.ref p) := .inr (.inr ⟨p, x, y, z, rfl, h, .inl b⟩)
theorem nt_int {Z : Zs} {H : Hp} {p : Addr} {x : V} {c : C4} {i j : Int} (h : H p = some (.tup [x, .int i, .int j])) (hc : CorAt H x c) (n : ¬ (0 ≤ i ∧ i < j ∧ j ≤ 3)) : NoTile Z H (.ref p) :=
  .inr (.inr ⟨p, x, _, _, rfl, h, .inr ⟨⟨c, hc⟩, (Plain.int _).thI, .inr ⟨i, rfl, (Plain.int _).thI, .inr ⟨j, rfl, n⟩⟩⟩⟩)
theorem nt_one {Z : Zs} {H : Hp} {p : Addr} {x y z : V} {c : C4} (h : H p = some (.tup [x, y, z])) (hc : CorAt H x c) (hy : ThI Z H y) (n : isI y = false) : NoTile Z H (.ref p) := .inr (.inr ⟨p, x, y, z, rfl, h, .inr ⟨⟨c, hc⟩, hy, .inl n⟩⟩)
theorem nt_len {Z : Zs} {H : Hp} {p : Addr} {xs : List V} (h : H p = some (.tup xs)) (n : xs.length ≠ 3) : NoTile Z H (.ref p) := .inr (.inl ⟨p, xs, rfl, h, n⟩)
/-- all things of a row are as asked -/
def AllV (P : V → Prop) (xs : List V) : Prop := ∀ x ∈ xs, P x
theorem AllV.cons {P : V → Prop} {x : V} {xs : List V} (h : P x) (t : AllV P xs) : AllV P (x :: xs) := fun y hy => by
  rcases List.mem_cons.mp hy with rfl | hy
  · exact h
  · exact t y hy
theorem w_cat2 {H : Hp} {Q : VK} {a b : Addr} {xs ys : List V} (h1 : H a = some (.lst xs)) (h2 : H b = some (.lst ys)) (hl : Nat.ble (xs.length + ys.length) 1000 = true) (q : ∀ p H2, H p = none → Same H H2 → H2 p = some (.lst (xs ++ ys)) → Q (.ref p) H2) : rCat (.ref a) (.ref b) H Q :=
  ⟨a, b, xs, ys, rfl, rfl, h1, h2, Nat.le_trans (Nat.le_of_ble_eq_true hl) (by decide), fun p hp => q p _ hp (Same.new hp) upd_same⟩
theorem w_catL' {H : Hp} {Q : VK} {a b : Addr} {xs ys : List V} (h1 : H a = some (.lst xs)) (h2 : H b = some (.lst ys)) (hl : xs.length + ys.length ≤ 1000) (q : ∀ p H2, H p = none → Same H H2 → H2 p = some (.lst (xs ++ ys)) → Q (.ref p) H2) : rCat (.ref a) (.ref b) H Q :=
  ⟨a, b, xs, ys, rfl, rfl, h1, h2, Nat.le_trans hl (by decide), fun p hp => q p _ hp (Same.new hp) upd_same⟩
theorem AllV.nil {P : V → Prop} : AllV P [] := fun _ h => nomatch h
theorem AllV.app {P : V → Prop} {xs ys : List V} (h : AllV P xs) (k : AllV P ys) : AllV P (xs ++ ys) := fun y hy => (List.mem_append.mp hy).elim (h y) (k y)
theorem AllV.at {P : V → Prop} {xs : List V} {n : Nat} (h : AllV P xs) (l : n < xs.length) : ∃ x, atI xs (n : Int) = some x ∧ P x := ⟨xs[n], atI_nat (List.getElem?_eq_getElem l), h _ (List.getElem_mem l)⟩
abbrev s__law_no_tile : Stmt := top 39
theorem sc__law_no_tile : FnScope ["pool", "tile", "corner", "i", "j", "things"] ["pool", "tile"] (defScope s__law_no_tile) := ⟨rfl, rfl, rfl, by decide +kernel, rfl, by decide +kernel, by decide +kernel⟩

def sp__law_no_tile (Z : Zs) : Sp := fun vs H Q E =>
  ∃ p l v c i j, vs = [.ref p, v] ∧ PlA H p l ∧ TileAt H v c i j ∧ 0 ≤ i ∧ i < j ∧ j ≤ 3 ∧ ∀ v H', SameXX p l H H' → PlA H' p l → NoTile Z H' v → Q v H'
theorem ok__law_no_tile (T : Txt Z mg) (h__law_draw : Has P w Z.K mg base "_law_draw" 1 ["pool", "many"] (sp__law_draw Z)) (D : AtF Z.K mg "_law_no_tile" "_law_no_tile" s__law_no_tile ["pool", "tile"]) : Has P w Z.K mg base "_law_no_tile" 2 ["pool", "tile"] (sp__law_no_tile Z) := by
  refine D.ok sc__law_no_tile (fun vs H Q E h => ?_) (fun cdv A outer s H vs Q E hr h => ?_)
  · obtain ⟨p, l, v, c, i, j, rfl, _⟩ := h
    rfl
  · refine ⟨_, (pss_cons (ps_asg (pv 1) (pg_tup rfl (pgs_cons (pg_name (i := 2) sc__law_no_tile.nd rfl (Or.inl rfl)) (pgs_cons (pg_name (i := 3) sc__law_no_tile.nd rfl (Or.inl rfl)) (pgs_cons (pg_name (i := 4) sc__law_no_tile.nd rfl (Or.inl rfl)) pgs_nil)))))
      (pss_cons (ps_set (i := 5) sc__law_no_tile.nd rfl (Or.inl rfl) (pe_lst (pa_cons pe_non (pa_cons pe_bl (pa_cons pe_str (pa_cons (pe_tup (pa_cons (pv 2) (pa_cons (pv 3) pa_nil))) (pa_cons (pe_tup (pa_cons (pv 2) (pa_cons (pv 4) (pa_cons (pv 3) pa_nil)))) pa_nil)))))))
      (pss_cons (ps_set (i := 5) sc__law_no_tile.nd rfl (Or.inl rfl) (pe_op op_cat (pv 5) (pe_lst (pa_cons (pe_tup (pa_cons (pv 2) (pa_cons (pv 3) (pa_cons (pv 3) pa_nil)))) (pa_cons (pe_tup (pa_cons (pe_callTy cn_list rfl T.n_list (by decide +kernel) (pa_cons (pv 2) pa_nil)) (pa_cons (pv 3) (pa_cons (pv 4) pa_nil)))) pa_nil)))))
      (pss_cons (ps_set (i := 5) sc__law_no_tile.nd rfl (Or.inl rfl) (pe_op op_cat (pv 5) (pe_lst (pa_cons (pe_lst (pa_cons (pv 2) (pa_cons (pv 3) (pa_cons (pv 4) pa_nil)))) (pa_cons (pe_tup (pa_cons (pv 2) (pa_cons (pv 3) (pa_cons pe_int pa_nil)))) (pa_cons (pe_tup (pa_cons (pv 2) (pa_cons (pe_un un_neg pe_int) (pa_cons (pv 4) pa_nil)))) pa_nil))))))
      (pss_cons (ps_set (i := 5) sc__law_no_tile.nd rfl (Or.inl rfl) (pe_op op_cat (pv 5) (pe_lst (pa_cons (pe_tup (pa_cons (pv 2) (pa_cons pe_bl (pa_cons pe_bl pa_nil)))) (pa_cons (pe_tup (pa_cons (pe_slice sl_tupA (pv 2) po_none (po_some pe_int)) (pa_cons (pv 3) (pa_cons (pv 4) pa_nil)))) pa_nil)))))
      (pss_cons (ps_set (i := 5) sc__law_no_tile.nd rfl (Or.inl rfl) (pe_op op_cat (pv 5) (pe_lst (pa_cons (pe_tup (pa_cons (pe_op op_catA (pv 2) (pe_tup (pa_cons pe_int pa_nil))) (pa_cons (pv 3) (pa_cons (pv 4) pa_nil)))) (pa_cons (pe_tup (pa_cons (pe_tup (pa_cons pe_bl (pa_cons pe_int (pa_cons pe_int (pa_cons pe_int pa_nil))))) (pa_cons (pv 3) (pa_cons (pv 4) pa_nil)))) pa_nil)))))
      (pss_cons (ps_set (i := 5) sc__law_no_tile.nd rfl (Or.inl rfl) (pe_op op_cat (pv 5) (pe_lst (pa_cons (pe_tup (pa_cons (pe_tup (pa_cons pe_str (pa_cons pe_int (pa_cons pe_int (pa_cons pe_int pa_nil))))) (pa_cons (pv 3) (pa_cons (pv 4) pa_nil)))) (pa_cons (pe_tup (pa_cons (pv 2) (pa_cons pe_str (pa_cons (pv 4) pa_nil)))) (pa_cons (pe_op op_catA (pv 1) (pe_tup (pa_cons pe_int pa_nil))) pa_nil))))))
      (pss_one (ps_ret (pe_ix ix_seq (pv 5) (pe_h (E := ED E) h__law_draw hr (paW (takes_of rfl rfl rfl rfl)) (pa_cons (pv 0) (pa_cons (pe_callB cn_len rfl T.n_len (by decide +kernel) (pa_cons (pv 5) pa_nil)) pa_nil))) (fun _ _ => rfl))))))))))), ?_⟩
    try simp only [cxOf]
    obtain ⟨p, l, v, c, i, j, rfl, hs, ⟨pt, x, rfl, hp, pc, rfl, hc⟩, i0, ij, j3, q⟩ := h
    have up : ∀ {xs : List V} {A B : Hp}, AllV (NoTile Z A) xs → Same A B → AllV (NoTile Z B) xs := fun h s x hx => (h x hx).sameR s
    have cor : ∀ {A : Hp}, Same H A → CorAt A (.ref pc) c := fun s => ⟨pc, rfl, s _ _ hc⟩
    walk_at "W"
    refine k_tup3n hp rfl rfl ?_
    walk_at "W"
    refine k_tup rfl fun t1 H1 ht1 s1 e1 => ?_
    walk_at "W"
    refine k_tup rfl fun t2 H2 ht2 s2 e2 => ?_
    walk_at "W"
    refine k_lst rfl fun L1 H3 hL1 s3 f1 => ?_
    have S3 := s1.trans (s2.trans s3)
    have A1 : AllV (NoTile Z H3) [.non, .bl true, .str "tile", .ref t1, .ref t2] := .cons (.inl ⟨.non, rfl⟩) (.cons (.inl ⟨.bl _, rfl⟩) (.cons (.inl ⟨.str _, rfl⟩) (.cons (nt_len (s3 _ _ (s2 _ _ e1)) (by simp)) (.cons (nt_int (s3 _ _ e2) (cor S3) (by omega)) .nil))))
    walk_at "W"
    refine k_tup rfl fun t3 H4 ht3 s4 e3 => ?_
    walk_at "W"
    refine w_listT (SqT.of (s4 _ _ (S3 _ _ hc))) fun lc H5 hlc s5 elc => ?_
    walk_at "W"
    refine k_tup rfl fun t4 H6 ht4 s6 e4 => ?_
    walk_at "W"
    refine k_lst rfl fun M2 H7 hM2 s7 g2 => ?_
    have S47 := s4.trans (s5.trans (s6.trans s7))
    have S7 := S3.trans S47
    have B2 : AllV (NoTile Z H7) [.ref t3, .ref t4] := .cons (nt_int (s7 _ _ (s6 _ _ (s5 _ _ e3))) (cor S7) (by omega)) (.cons (nt_cor (s7 _ _ e4) (.inl ⟨.lst lc _ (s7 _ _ (s6 _ _ elc)), isTu_lst (s7 _ _ (s6 _ _ elc))⟩)) .nil)
    refine w_cat2 (S47 _ _ f1) g2 rfl fun L2 H8 hL2 s8 f2 => ?_
    have A2 := (up A1 (S47.trans s8)).app (up B2 s8)
    have S8 := S7.trans s8
    walk_at "W"
    refine k_lst rfl fun l5 H9 hl5 s9 e5 => ?_
    walk_at "W"
    refine k_tup rfl fun t6 H10 ht6 s10 e6 => ?_
    walk_at "W"
    refine k_tup rfl fun t7 H11 ht7 s11 e7 => ?_
    walk_at "W"
    refine k_lst rfl fun M3 H12 hM3 s12 g3 => ?_
    have S912 := s9.trans (s10.trans (s11.trans s12))
    have S12 := S8.trans S912
    have l5' := s12 _ _ (s11 _ _ (s10 _ _ e5))
    have B3 : AllV (NoTile Z H12) [.ref l5, .ref t6, .ref t7] := .cons (.inl ⟨.lst l5 _ l5', isTu_lst l5'⟩) (.cons (nt_int (s12 _ _ (s11 _ _ e6)) (cor S12) (by omega)) (.cons (nt_int (s12 _ _ e7) (cor S12) (by omega)) .nil))
    refine w_cat2 (S912 _ _ f2) g3 rfl fun L3 H13 hL3 s13 f3 => ?_
    have A3 := (up A2 (S912.trans s13)).app (up B3 s13)
    have S13 := S12.trans s13
    walk_at "W"
    refine k_tup rfl fun t8 H14 ht8 s14 e8 => ?_
    walk_at "W"
    have c14 := (S13.trans s14) _ _ hc
    refine k_slA c14 fun t9 H15 s15 e9 => ?_
    walk_at "W"
    refine k_tup rfl fun t10 H16 ht10 s16 e10 => ?_
    walk_at "W"
    refine k_lst rfl fun M4 H17 hM4 s17 g4 => ?_
    have S1417 := s14.trans (s15.trans (s16.trans s17))
    have S17 := S13.trans S1417
    rw [show (some (3 : Int)) = some ((3 : Nat) : Int) from rfl, cutV_head] at e9
    have B4 : AllV (NoTile Z H17) [.ref t8, .ref t10] := .cons (nt_one (s17 _ _ (s16 _ _ (s15 _ _ e8))) (cor S17) (Plain.bl _).thI rfl) (.cons (nt_cor (s17 _ _ e10) (.inr ⟨t9, _, rfl, s17 _ _ (s16 _ _ e9), by simp, fun x hx => by
      simp only [List.take_succ_cons, List.take_zero, List.mem_cons, List.not_mem_nil, or_false] at hx
      rcases hx with rfl | rfl | rfl <;> exact (Plain.int _).thI, rfl⟩)) .nil)
    refine w_cat2 (S1417 _ _ f3) g4 rfl fun L4 H18 hL4 s18 f4 => ?_
    have A4 := (up A3 (S1417.trans s18)).app (up B4 s18)
    have S18 := S17.trans s18
    walk_at "W"
    refine k_tup rfl fun t11 H19 ht11 s19 e11 => ?_
    refine w_catA ((S18.trans s19) _ _ hc) e11 rfl fun t12 H20 s20 e12 => ?_
    walk_at "W"
    refine k_tup rfl fun t13 H21 ht13 s21 e13 => ?_
    walk_at "W"
    refine k_tup rfl fun t14 H22 ht14 s22 e14 => ?_
    walk_at "W"
    refine k_tup rfl fun t15 H23 ht15 s23 e15 => ?_
    walk_at "W"
    refine k_lst rfl fun M5 H24 hM5 s24 g5 => ?_
    have S1924 := s19.trans (s20.trans (s21.trans (s22.trans (s23.trans s24))))
    have S24 := S18.trans S1924
    have B5 : AllV (NoTile Z H24) [.ref t13, .ref t15] := .cons (nt_cor (s24 _ _ (s23 _ _ (s22 _ _ e13))) (.inr ⟨t12, _, rfl, s24 _ _ (s23 _ _ (s22 _ _ (s21 _ _ e12))), by simp, fun x hx => by
      simp only [List.cons_append, List.nil_append, List.mem_cons, List.not_mem_nil, or_false] at hx
      rcases hx with rfl | rfl | rfl | rfl | rfl <;> exact (Plain.int _).thI, rfl⟩)) (.cons (nt_cor (s24 _ _ e15) (.inr ⟨t14, _, rfl, s24 _ _ (s23 _ _ e14), by simp, fun x hx => by
      simp only [List.mem_cons, List.not_mem_nil, or_false] at hx
      rcases hx with rfl | rfl | rfl | rfl
      · exact (Plain.bl _).thI
      all_goals exact (Plain.int _).thI, rfl⟩)) .nil)
    refine w_cat2 (S1924 _ _ f4) g5 rfl fun L5 H25 hL5 s25 f5 => ?_
    have A5 := (up A4 (S1924.trans s25)).app (up B5 s25)
    have S25 := S24.trans s25
    walk_at "W"
    refine k_tup rfl fun t16 H26 ht16 s26 e16 => ?_
    walk_at "W"
    refine k_tup rfl fun t17 H27 ht17 s27 e17 => ?_
    walk_at "W"
    refine k_tup rfl fun t18 H28 ht18 s28 e18 => ?_
    walk_at "W"
    refine k_tup rfl fun t19 H29 ht19 s29 e19 => ?_
    have S29 := S25.trans (s26.trans (s27.trans (s28.trans s29)))
    refine w_catA (S29 _ _ hp) e19 rfl fun t20 H30 s30 e20 => ?_
    walk_at "W"
    refine k_lst rfl fun M6 H31 hM6 s31 g6 => ?_
    have S2631 := s26.trans (s27.trans (s28.trans (s29.trans (s30.trans s31))))
    have S31 := S25.trans S2631
    have B6 : AllV (NoTile Z H31) [.ref t17, .ref t18, .ref t20] := .cons (nt_cor (s31 _ _ (s30 _ _ (s29 _ _ (s28 _ _ e17)))) (.inr ⟨t16, _, rfl, s31 _ _ (s30 _ _ (s29 _ _ (s28 _ _ (s27 _ _ e16)))), by simp, fun x hx => by
      simp only [List.mem_cons, List.not_mem_nil, or_false] at hx
      rcases hx with rfl | rfl | rfl | rfl
      · exact (Plain.str _).thI
      all_goals exact (Plain.int _).thI, rfl⟩)) (.cons (nt_one (s31 _ _ (s30 _ _ (s29 _ _ e18))) (cor S31) (Plain.str _).thI rfl) (.cons (nt_len (s31 _ _ e20) (by simp)) .nil))
    refine w_cat2 (S2631 _ _ f5) g6 rfl fun L6 H32 hL6 s32 f6 => ?_
    have A6 := (up A5 (S2631.trans s32)).app (up B6 s32)
    have S32 := S31.trans s32
    walk_at "W"
    refine w_lenL (SqL.of f6) ?_
    have hs32 := hs.same S32
    walk_at "W"
    refine k_poolS hs32 (by simp) (by simp) fun n H33 n0 n1 s33 hs33 => ?_
    have nL6 := hs.new (S31.free hL6)
    obtain ⟨m, rfl⟩ : ∃ m : Nat, n = (m : Int) := ⟨n.toNat, by omega⟩
    obtain ⟨y, hy, ny⟩ := A6.at (n := m) (by have := n1; simp at this ⊢; omega)
    refine w_ixL (s33 _ _ nL6.1 nL6.2 f6) hy ?_
    exact q y H33 ((SameXX.of S32).trans s33) hs33 (ny.lk (Lk.pool hs32 hs33 s33))
abbrev s__law_no_corner : Stmt := top 40
theorem sc__law_no_corner : FnScope ["pool", "corner", "things"] ["pool", "corner"] (defScope s__law_no_corner) := ⟨rfl, rfl, rfl, by decide +kernel, rfl, by decide +kernel, by decide +kernel⟩

def sp__law_no_corner (Z : Zs) : Sp := fun vs H Q E =>
  ∃ p l q c, vs = [.ref p, .ref q] ∧ PlA H p l ∧ H q = some (.tup [.int (c : C4).a, .int c.b, .int c.c, .int c.d]) ∧ ∀ v H', SameXX p l H H' → PlA H' p l → BadCor Z H' v → (flatV v = true ∨ ∃ a, v = .ref a) → Q v H'
theorem ok__law_no_corner (T : Txt Z mg) (h__law_draw : Has P w Z.K mg base "_law_draw" 1 ["pool", "many"] (sp__law_draw Z)) (D : AtF Z.K mg "_law_no_corner" "_law_no_corner" s__law_no_corner ["pool", "corner"]) : Has P w Z.K mg base "_law_no_corner" 2 ["pool", "corner"] (sp__law_no_corner Z) := by
  refine D.ok sc__law_no_corner (fun vs H Q E h => ?_) (fun cdv A outer s H vs Q E hr h => ?_)
  · obtain ⟨p, l, q, c, rfl, _⟩ := h
    rfl
  · refine ⟨_, (pss_cons (ps_set (i := 2) sc__law_no_corner.nd rfl (Or.inl rfl) (pe_lst (pa_cons pe_non (pa_cons pe_int (pa_cons pe_str (pa_cons (pe_callTy cn_list rfl T.n_list (by decide +kernel) (pa_cons (pv 1) pa_nil)) (pa_cons (pe_slice sl_tupA (pv 1) po_none (po_some pe_int)) (pa_cons (pe_op op_catA (pv 1) (pe_tup (pa_cons pe_int pa_nil))) pa_nil))))))))
      (pss_cons (ps_set (i := 2) sc__law_no_corner.nd rfl (Or.inl rfl) (pe_op op_cat (pv 2) (pe_lst (pa_cons (pe_op op_catA (pe_tup (pa_cons pe_bl pa_nil)) (pe_slice sl_tupA (pv 1) (po_some pe_int) po_none)) (pa_cons (pe_op op_catA (pe_slice sl_tupA (pv 1) po_none (po_some pe_int)) (pe_tup (pa_cons pe_non pa_nil))) (pa_cons (pe_tup pa_nil) (pa_cons pe_dnewK pa_nil)))))))
      (pss_one (ps_ret (pe_ix ix_seq (pv 2) (pe_h (E := ED E) h__law_draw hr (paW (takes_of rfl rfl rfl rfl)) (pa_cons (pv 0) (pa_cons (pe_callB cn_len rfl T.n_len (by decide +kernel) (pa_cons (pv 2) pa_nil)) pa_nil))) (fun _ _ => rfl)))))), ?_⟩
    try simp only [cxOf]
    obtain ⟨p, l, q, c, rfl, hs, hc, k⟩ := h
    walk_at "W"
    refine w_listT (SqT.of hc) fun lc H1 hlc s1 e1 => ?_
    walk_at "W"
    have up : ∀ {xs : List V} {A B : Hp}, AllV (fun v => BadCor Z A v ∧ (flatV v = true ∨ ∃ a, v = .ref a)) xs → Same A B → AllV (fun v => BadCor Z B v ∧ (flatV v = true ∨ ∃ a, v = .ref a)) xs := fun h s x hx => ⟨(h x hx).1.same s, (h x hx).2⟩
    refine k_slA (s1 _ _ hc) fun t1 H2 s2 e2 => ?_
    walk_at "W"
    refine k_tup rfl fun t2 H3 ht2 s3 e3 => ?_
    have S3 := s1.trans (s2.trans s3)
    refine w_catA (S3 _ _ hc) e3 rfl fun t3 H4 s4 e4 => ?_
    walk_at "W"
    refine k_lst rfl fun L1 H5 hL1 s5 f1 => ?_
    have S5 := S3.trans (s4.trans s5)
    rw [show (some (3 : Int)) = some ((3 : Nat) : Int) from rfl, cutV_head] at e2
    have e5 := s5 _ _ (s4 _ _ (s3 _ _ (s2 _ _ e1)))
    have A1 : AllV (fun v => BadCor Z H5 v ∧ (flatV v = true ∨ ∃ a, v = .ref a)) [.non, .int 5, .str "corner", .ref lc, .ref t1, .ref t3] := .cons ⟨.inl ⟨.non, rfl⟩, .inl rfl⟩ (.cons ⟨.inl ⟨.int _, rfl⟩, .inl rfl⟩ (.cons ⟨.inl ⟨.str _, rfl⟩, .inl rfl⟩ (.cons ⟨.inl ⟨.lst lc _ e5, isTu_lst e5⟩, .inr ⟨_, rfl⟩⟩ (.cons ⟨.inr ⟨t1, _, rfl, s5 _ _ (s4 _ _ (s3 _ _ e2)), by simp, fun x hx => by
      simp only [List.take_succ_cons, List.take_zero, List.mem_cons, List.not_mem_nil, or_false] at hx
      rcases hx with rfl | rfl | rfl <;> exact (Plain.int _).thI, rfl⟩, .inr ⟨_, rfl⟩⟩ (.cons ⟨.inr ⟨t3, _, rfl, s5 _ _ e4, by simp, fun x hx => by
      simp only [List.cons_append, List.nil_append, List.mem_cons, List.not_mem_nil, or_false] at hx
      rcases hx with rfl | rfl | rfl | rfl | rfl <;> exact (Plain.int _).thI, rfl⟩, .inr ⟨_, rfl⟩⟩ .nil)))))
    walk_at "W"
    refine k_tup rfl fun t4 H6 ht4 s6 e6 => ?_
    walk_at "W"
    refine k_slA ((S5.trans s6) _ _ hc) fun t5 H7 s7 e7 => ?_
    rw [show (some (1 : Int)) = some ((1 : Nat) : Int) from rfl, cutV_tail] at e7
    refine w_catA (s7 _ _ e6) e7 rfl fun t6 H8 s8 e8 => ?_
    have S8 := S5.trans (s6.trans (s7.trans s8))
    walk_at "W"
    refine k_slA (S8 _ _ hc) fun t7 H9 s9 e9 => ?_
    rw [show (some (3 : Int)) = some ((3 : Nat) : Int) from rfl, cutV_head] at e9
    walk_at "W"
    refine k_tup rfl fun t8 H10 ht8 s10 e10 => ?_
    refine w_catA (s10 _ _ e9) e10 rfl fun t9 H11 s11 e11 => ?_
    walk_at "W"
    refine k_tup rfl fun t10 H12 ht10 s12 e12 => ?_
    walk_at "W"
    refine k_dnew fun t11 H13 ht11 s13 e13 => ?_
    walk_at "W"
    refine k_lst rfl fun M2 H14 hM2 s14 g2 => ?_
    have S914 := s9.trans (s10.trans (s11.trans (s12.trans (s13.trans s14))))
    have S14 := S8.trans S914
    have ed := s14 _ _ e13
    have B2 : AllV (fun v => BadCor Z H14 v ∧ (flatV v = true ∨ ∃ a, v = .ref a)) [.ref t6, .ref t9, .ref t10, .ref t11] := .cons ⟨.inr ⟨t6, _, rfl, S914 _ _ e8, by simp, fun x hx => by
      simp only [List.drop_succ_cons, List.drop_zero, List.cons_append, List.nil_append, List.mem_cons, List.not_mem_nil, or_false] at hx
      rcases hx with rfl | rfl | rfl | rfl
      · exact (Plain.bl _).thI
      all_goals exact (Plain.int _).thI, rfl⟩, .inr ⟨_, rfl⟩⟩ (.cons ⟨.inr ⟨t9, _, rfl, s14 _ _ (s13 _ _ (s12 _ _ e11)), by simp, fun x hx => by
      simp only [List.take_succ_cons, List.take_zero, List.cons_append, List.nil_append, List.mem_cons, List.not_mem_nil, or_false] at hx
      rcases hx with rfl | rfl | rfl | rfl
      · exact (Plain.int _).thI
      · exact (Plain.int _).thI
      · exact (Plain.int _).thI
      · exact Plain.non.thI, rfl⟩, .inr ⟨_, rfl⟩⟩ (.cons ⟨.inr ⟨t10, _, rfl, s14 _ _ (s13 _ _ e12), by simp, (fun x hx => by cases hx), rfl⟩, .inr ⟨_, rfl⟩⟩ (.cons ⟨.inl ⟨.dK t11 _ ed, isTu_dK ed⟩, .inr ⟨_, rfl⟩⟩ .nil)))
    have S614 := (s6.trans (s7.trans s8)).trans S914
    refine w_cat2 (S614 _ _ f1) g2 rfl fun L2 H15 hL2 s15 f2 => ?_
    have A2 := (up A1 (S614.trans s15)).app (up B2 s15)
    have S15 := S14.trans s15
    walk_at "W"
    refine w_lenL (SqL.of f2) ?_
    have hs15 := hs.same S15
    walk_at "W"
    refine k_poolS hs15 (by simp) (by simp) fun n H16 n0 n1 s16 hs16 => ?_
    have nL := hs.new (S14.free hL2)
    obtain ⟨m, rfl⟩ : ∃ m : Nat, n = (m : Int) := ⟨n.toNat, by omega⟩
    obtain ⟨y, hy, ny, fy⟩ := A2.at (n := m) (by have := n1; simp at this ⊢; omega)
    refine w_ixL (s16 _ _ nL.1 nL.2 f2) hy ?_
    exact k y H16 ((SameXX.of S15).trans s16) hs16 (ny.lk (Lk.pool hs15 hs16 s16)) fy
theorem w_eqSame3 {K : PySem.W.Frag} {p q : Addr} {s : Str} {v : V} {H : Hp} {Q : VK} (h1 : H p = some (.tup [.str s, v])) (h2 : H q = some (.tup [.str s, v])) (hv : flatV v = true ∨ ∃ a, v = .ref a) (q' : ∀ H', Ext H H' → Q (.bl true) H') : rEqG (DTup K DSame) (.ref p) (.ref q) H Q := by
  refine ⟨⟨p, q, _, _, rfl, rfl, SqT.of h1, SqT.of h2, .cons (.inl ⟨rfl, rfl, by simp [eqV]⟩) (.cons ?_ .nil)⟩, q'⟩
  rcases hv with f | ⟨a, rfl⟩
  · exact .inl ⟨f, f, by rw [eqV_refl f]⟩
  · exact .inr ⟨a, rfl, rfl⟩
abbrev s__law_asked : Stmt := top 43
theorem sc__law_asked : FnScope ["heap", "v", "told", "e"] ["heap", "v"] (defScope s__law_asked) := ⟨rfl, rfl, rfl, by decide +kernel, rfl, by decide +kernel, by decide +kernel⟩

def sp__law_asked (Z : Zs) : Sp := fun vs H Q E =>
  ∃ v o, vs = [v, o] ∧ ((∃ n, RowBad Z H v 40 n ∧ ∀ u H', Same H H' → H' u = some (.tup [.str "heap", .int n]) → Q (.ref u) H') ∨ RowOk H v 40 ∧ BadCor Z H o ∧ ∀ u H', Same H H' → H' u = some (.tup [.str "corner", o]) → Q (.ref u) H')
theorem ok__law_asked (T : Txt Z mg) (h_heap_moved : Has P w Z.K mg base "heap_moved" 6 ["heap", "v"] (sp_heap_moved Z)) (D : AtF Z.K mg "_law_asked" "_law_asked" s__law_asked ["heap", "v"]) : Has P w Z.K mg base "_law_asked" 7 ["heap", "v"] (sp__law_asked Z) := by
  refine D.ok sc__law_asked (fun vs H Q E h => ?_) (fun cdv A outer s H vs Q E hr h => ?_)
  · obtain ⟨v, o, rfl, _⟩ := h
    rfl
  · refine ⟨_, (pss_cons (ps_set (i := 2) sc__law_asked.nd rfl (Or.inl rfl) (pe_tup (pa_cons pe_str (pa_cons pe_non pa_nil))))
      (pss_cons (ps_try_clauses (tb := fun W => tAsg (tTup (tCons (tC (.str "told")) (tCons (tCallS (sp_heap_moved Z) (WE W) (tCons (tVar 0) (tCons (tVar 1) tNil))) tNil))) (gName 2)) rfl rfl takes0 (fun W pn xe tk po => (pss_one (ps_set (i := 2) sc__law_asked.nd rfl (Or.inl rfl) (pe_tup (pa_cons pe_str (pa_cons (pe_h (E := WE W) h_heap_moved hr (paW tk) (pa_cons (pv 0) (pa_cons (pv 1) pa_nil))) pa_nil)))))) (ClausesOk.cons (c := .ref Z.c_BadHeap) (i := 3) sc__law_asked.nd rfl rfl ⟨rfl, by decide, Or.inl T.g_BadHeap⟩ (fun a oe cls d pn hz hf => (pss_one (ps_set (i := 2) sc__law_asked.nd rfl (Or.inl rfl) (pe_tup (pa_cons pe_str (pa_cons (pe_xf T.xf_BadHeap T.xn_BadHeap hz hf (pv 3)) pa_nil)))))) (ClausesOk.cons (c := .ref Z.c_BadCorner) (i := 3) sc__law_asked.nd rfl rfl ⟨rfl, by decide, Or.inl T.g_BadCorner⟩ (fun a oe cls d pn hz hf => (pss_one (ps_set (i := 2) sc__law_asked.nd rfl (Or.inl rfl) (pe_tup (pa_cons pe_str (pa_cons (pe_xf T.xf_BadCorner T.xn_BadCorner hz hf (pv 3)) pa_nil)))))) ClausesOk.nil)))
      (pss_one (ps_ret (pv 2))))), ?_⟩
    try simp only [cxOf]
    obtain ⟨v, o, rfl, hh⟩ := h
    walk_at "W"
    refine k_tup rfl fun u1 H1 hu1 s1 e1 => ?_
    walk_at "W"
    rcases hh with ⟨n, hb, q⟩ | ⟨hk, hb, q⟩
    · refine ⟨v, o, rfl, .inl ⟨n, hb.same s1, fun d H2 hd s2 e2 => k_cl1 T.xm_BadHeap fun a0 ha0 => ?_⟩⟩
      dsimp only
      walk_at "W"
      refine k_xf e2 ?_
      walk_at "W"
      refine k_tup rfl fun u3 H3 hu3 s3 e3 => ?_
      walk_at "W"
      exact q u3 H3 (s1.trans (s2.trans s3)) e3
    · refine ⟨v, o, rfl, .inr ⟨hk.same s1, .inl ⟨hb.same s1, fun d H2 hd s2 e2 => k_cl2 T.xo_BadCorner_BadHeap (k_cl1 T.xm_BadCorner fun a0 ha0 => ?_)⟩⟩⟩
      dsimp only
      walk_at "W"
      refine k_xf e2 ?_
      walk_at "W"
      refine k_tup rfl fun u3 H3 hu3 s3 e3 => ?_
      walk_at "W"
      exact q u3 H3 (s1.trans (s2.trans s3)) e3
theorem w_neSI {K : PySem.W.Frag} {H : Hp} {Q : VK} {s : Str} {n : Int} {u w : Addr} (h1 : H u = some (.tup [.str s, .int n])) (h2 : H w = some (.tup [.str s, .int n])) (ls : PyData.canLay0 (.str s) = true) (q : Q (.bl false) H) : rNeD K (.ref u) (.ref w) H Q := by
  have l2 : PyData.canLay0 (.tuple [.str s, .int n]) = true := by
    simp only [PyData.canLay0] at ls
    simp only [PyData.canLay0, PyData.canLayAll0, ls, Bool.and_self]
  have sh : SeqAt.shaped (.tuple [.str s, .int n]) = true := by
    unfold SeqAt.shaped
    rw [l2, Bool.true_and]
    simp only [PyData.depth, PyData.depthAll]
    exact decide_eq_true (by omega)
  refine ⟨_, _, .tup (SqT.of h1) (.cons (.str _) (.cons (.int _) .nil)), .tup (SqT.of h2) (.cons (.str _) (.cons (.int _) .nil)), sh, sh, ?_⟩
  rw [SeqAt.eqv_refl _ l2]
  exact q
theorem isT_of {H : Hp} {xs : List V} {ts : List Tl} (h : Tls H xs ts) (ok : ∀ t ∈ ts, Tl.ok t) : ∀ y ∈ xs, IsT H y := fun y hy => by
  obtain ⟨i, hi, e⟩ := List.mem_iff_getElem.mp hy
  have l2 : i < ts.length := by rw [← h.1]; exact hi
  have t := h.2 i y ts[i] (by rw [List.getElem?_eq_getElem hi, e]) (List.getElem?_eq_getElem l2)
  have o := ok ts[i] (List.getElem_mem l2)
  exact ⟨_, _, _, t, o.1, o.2.1, o.2.2.1⟩
abbrev s__law_refuses : Stmt := top 44
theorem sc__law_refuses : FnScope ["pool", "heap", "v", "bad", "thing", "at", "wrong", "spoilt", "told"] ["pool", "heap", "v"] (defScope s__law_refuses) := ⟨rfl, rfl, rfl, by decide +kernel, rfl, by decide +kernel, by decide +kernel⟩

def sp__law_refuses (Z : Zs) : Sp := fun vs H Q E =>
  ∃ p l a q c xs ts, vs = [.ref p, .ref a, .ref q] ∧ PlA H p l ∧ a ≠ p ∧ a ≠ l ∧ H a = some (.lst xs) ∧ Tls H xs ts ∧ xs.length ≤ 40 ∧ (∀ t ∈ ts, Tl.ok t) ∧ H q = some (.tup [.int (c : C4).a, .int c.b, .int c.c, .int c.d]) ∧ ∀ H', Q (.bl true) H'
theorem ok__law_refuses (T : Txt Z mg) (h__law_asked : Has P w Z.K mg base "_law_asked" 7 ["heap", "v"] (sp__law_asked Z)) (h__law_draw : Has P w Z.K mg base "_law_draw" 1 ["pool", "many"] (sp__law_draw Z)) (h__law_no_tile : Has P w Z.K mg base "_law_no_tile" 2 ["pool", "tile"] (sp__law_no_tile Z)) (h__law_no_corner : Has P w Z.K mg base "_law_no_corner" 2 ["pool", "corner"] (sp__law_no_corner Z)) (D : AtF Z.K mg "_law_refuses" "_law_refuses" s__law_refuses ["pool", "heap", "v"]) : Has P w Z.K mg base "_law_refuses" 8 ["pool", "heap", "v"] (sp__law_refuses Z) := by
  refine D.ok sc__law_refuses (fun vs H Q E h => ?_) (fun cdv A outer s H vs Q E hr h => ?_)
  · obtain ⟨p, l, a, q, c, xs, ts, rfl, _⟩ := h
    rfl
  · refine ⟨_, (pss_cons (ps_set (i := 3) sc__law_refuses.nd rfl (Or.inl rfl) (pe_h (E := ED E) h__law_no_corner hr (paW (takes_of rfl rfl rfl rfl)) (pa_cons (pv 0) (pa_cons (pv 2) pa_nil))))
      (pss_cons (ps_for (passes_of rfl) rfl (pi_list (pe_lst (pa_cons pe_non (pa_cons pe_int (pa_cons pe_str (pa_cons pe_dnewK (pa_cons pe_bl (pa_cons (pe_op op_cat (pv 1) (pe_op op_rep (pe_lst (pa_cons (pe_tup (pa_cons (pe_tup (pa_cons pe_int (pa_cons pe_int (pa_cons pe_int (pa_cons pe_int pa_nil))))) (pa_cons pe_int (pa_cons pe_int pa_nil)))) pa_nil)) (pe_op op_sub pe_int (pe_callB cn_len rfl T.n_len (by decide +kernel) (pa_cons (pv 1) pa_nil))))) pa_nil)))))))) (pg_name (i := 4) sc__law_refuses.nd rfl (Or.inl rfl)) (pss_one (ps_if (pt_cmpR (op_neD hr.units) (pe_h (E := ED E) h__law_asked hr (paW (takes_of rfl rfl rfl rfl)) (pa_cons (pv 4) (pa_cons (pv 3) pa_nil))) (pe_tup (pa_cons pe_str (pa_cons (pe_un un_neg pe_int) pa_nil))) (nomark _)) (pss_one (ps_ret pe_bl)) pss_nil)))
      (pss_cons (ps_set (i := 5) sc__law_refuses.nd rfl (Or.inl rfl) (pe_h (E := ED E) h__law_draw hr (paW (takes_of rfl rfl rfl rfl)) (pa_cons (pv 0) (pa_cons (pe_op op_add (pe_callB cn_len rfl T.n_len (by decide +kernel) (pa_cons (pv 1) pa_nil)) pe_int) pa_nil))))
      (pss_cons (ps_set (i := 6) sc__law_refuses.nd rfl (Or.inl rfl) (pe_h (E := ED E) h__law_no_tile hr (paW (takes_of rfl rfl rfl rfl)) (pa_cons (pv 0) (pa_cons (pe_ix ix_seq (pe_op op_cat (pv 1) (pe_lst (pa_cons (pe_tup (pa_cons (pe_tup (pa_cons pe_int (pa_cons pe_int (pa_cons pe_int (pa_cons pe_int pa_nil))))) (pa_cons pe_int (pa_cons pe_int pa_nil)))) pa_nil))) (pv 5) (fun _ _ => rfl)) pa_nil))))
      (pss_cons (ps_set (i := 7) sc__law_refuses.nd rfl (Or.inl rfl) (pe_slice sl_list (pe_op op_cat (pe_op op_cat (pe_op op_cat (pe_slice sl_list (pv 1) po_none (po_some (pv 5))) (pe_lst (pa_cons (pv 6) pa_nil))) (pe_slice sl_list (pv 1) (po_some (pv 5)) po_none)) (pe_lst (pa_cons pe_non pa_nil))) po_none (po_some pe_int)))
      (C8.pss_cut (ps_if (pt_cmpR op_lt (pv 5) pe_int (nomark _)) (pss_cons (ps_set (i := 8) sc__law_refuses.nd rfl (Or.inl rfl) (pe_h (E := ED E) h__law_asked hr (paW (takes_of rfl rfl rfl rfl)) (pa_cons (pe_ix ix_seq (pe_lst (pa_cons (pv 7) (pa_cons (pe_callTy cn_tuple rfl T.n_tuple (by decide +kernel) (pa_cons (pv 7) pa_nil)) pa_nil))) (pe_h (E := ED E) h__law_draw hr (paW (takes_of rfl rfl rfl rfl)) (pa_cons (pv 0) (pa_cons pe_int pa_nil))) (fun _ _ => rfl)) (pa_cons (pv 3) pa_nil))))
      (pss_one (ps_if (PW.pt (pw_or (pt_cmpR (op_neD hr.units) (pv 8) (pe_tup (pa_cons pe_str (pa_cons (pv 5) pa_nil))) (nomark _)) (pw_or1 (pt_val (pe_callB call_isi rfl T.n_isinstance (by decide +kernel) (pa_cons (pe_ix ix_seq (pv 8) pe_int (fun _ _ => rfl)) (pa_cons (pe_bltn (v := .ty "bool") rfl T.n_bool (by decide +kernel) rfl) pa_nil))))))) (pss_one (ps_ret pe_bl)) pss_nil))) pss_nil)
      (pss_one (ps_ret (pe_cmpR (op_eqSame (hr.mono (by decide))) (pe_h (E := ED E) h__law_asked hr (paW (takes_of rfl rfl rfl rfl)) (pa_cons (pv 1) (pa_cons (pv 3) pa_nil))) (pe_tup (pa_cons pe_str (pa_cons (pv 3) pa_nil))) (nomark _)))))))))), ?_⟩
    try simp only [cxOf]
    obtain ⟨p, l, a, q, c, xs, ts, rfl, hs, na1, na2, ea, ht, lx, ok, hc, k⟩ := h
    walk_at "W"
    refine ⟨p, l, q, c, rfl, hs, hc, fun bad H1 s1 hs1 hb1 fb => ?_⟩
    have ea1 := s1 _ _ na1 na2 ea
    have ht1 := ht.kps (hs.kps s1)
    walk_at "W"
    refine k_dnew fun d0 H2 hd0 s2 e2 => ?_
    walk_at "W"
    refine k_tup rfl fun t1 H3 ht1' s3 e3 => ?_
    walk_at "W"
    refine k_tup rfl fun t2 H4 ht2 s4 e4 => ?_
    walk_at "W"
    refine k_lst rfl fun l1 H5 hl1 s5 e5 => ?_
    walk_at "W"
    have S25 := s2.trans (s3.trans (s4.trans s5))
    refine w_lenL (SqL.of (S25 _ _ ea1)) ?_
    walk_at "W"
    refine w_repL e5 (by omega) (by omega) (by simp; omega) fun l2 H6 hl2 s6 e6 => ?_
    refine w_catL' ((S25.trans s6) _ _ ea1) e6 (by simp; omega) fun l3 H7 hl3 s7 e7 => ?_
    walk_at "W"
    refine k_lst rfl fun l4 H8 hl4 s8 e8 => ?_
    have S28 := S25.trans (s6.trans (s7.trans s8))
    have ed8 := (s3.trans (s4.trans (s5.trans (s6.trans (s7.trans s8))))) _ _ e2
    have rb : ∀ x ∈ [V.non, V.int 5, V.str "tiles", V.ref d0, V.bl true, V.ref l3], RowBad Z H8 x 40 (-1) := fun x hx => by
      simp only [List.mem_cons, List.not_mem_nil, or_false] at hx
      rcases hx with rfl | rfl | rfl | rfl | rfl | rfl
      · exact .inl ⟨.inl rfl, rfl⟩
      · exact .inl ⟨.inr (.inr (.inl ⟨_, rfl⟩)), rfl⟩
      · exact .inl ⟨.inr (.inr (.inr (.inl ⟨_, rfl⟩))), rfl⟩
      · exact .inl ⟨.inr (.inr (.inr (.inr ⟨d0, _, rfl, ed8⟩))), rfl⟩
      · exact .inl ⟨.inr (.inl ⟨_, rfl⟩), rfl⟩
      · exact .inr ⟨l3, _, rfl, .inl (s8 _ _ e7), by simp; omega, .inl ⟨by simp; omega, rfl⟩⟩
    refine k_forL (xs := [V.non, V.int 5, V.str "tiles", V.ref d0, V.bl true, V.ref l3]) (fun i σ' H' => Same H8 H' ∧ ∃ z, σ' = [some (.ref p), some (.ref a), some (.ref q), some bad, z, none, none, none, none]) (SqL.of e8) ⟨Same.refl _, none, rfl⟩ (fun i σ' H' h => SqL.of (h.1 _ _ e8)) ?_ ?_
    · rintro i x σ' H9 hx ⟨s9, z, rfl⟩
      walk_at "W"
      refine ⟨x, bad, rfl, .inl ⟨-1, (rb x (List.mem_of_getElem? hx)).same s9, fun u H10 s10 e10 => ?_⟩⟩
      walk_at "W"
      refine k_tup rfl fun u2 H11 hu2 s11 e11 => ?_
      refine w_neSI (s11 _ _ e10) e11 (by decide +kernel) ?_
      walk_at "W"
      exact ⟨s9.trans (s10.trans s11), _, rfl⟩
    rintro σ' H9 ⟨s9, z, rfl⟩
    have hs9 := hs1.same (S28.trans s9)
    have ea9 := (S28.trans s9) _ _ ea1
    have ht9 := ht1.kps (Kps.same (S28.trans s9))
    have hb9 := hb1.same (S28.trans s9)
    walk_at "W"
    refine w_lenL (SqL.of ea9) ?_
    walk_at "W"
    refine k_poolS hs9 (by omega) (by omega) fun n H10 n0 n1 s10 hs10 => ?_
    obtain ⟨n, rfl⟩ : ∃ m : Nat, n = (m : Int) := ⟨n.toNat, by omega⟩
    have ea10 := s10 _ _ na1 na2 ea9
    have ht10 := ht9.kps (hs9.kps s10)
    have hb10 := hb9.lk (Lk.pool hs9 hs10 s10)
    walk_at "W"
    refine k_tup rfl fun t3 H11 ht3 s11 e11 => ?_
    walk_at "W"
    refine k_tup rfl fun t4 H12 ht4 s12 e12 => ?_
    walk_at "W"
    refine k_lst rfl fun l5 H13 hl5 s13 e13 => ?_
    have S13 := s11.trans (s12.trans s13)
    refine w_catL' (S13 _ _ ea10) e13 (by simp; omega) fun l6 H14 hl6 s14 e14 => ?_
    have S14 := S13.trans s14
    have ht14 := ht10.kps (Kps.same S14)
    obtain ⟨y, C, i, j, hy, hty, i0, ij, j3⟩ : ∃ y C i j, atI (xs ++ [.ref t4]) (n : Int) = some y ∧ TileAt H14 y C i j ∧ 0 ≤ i ∧ i < j ∧ j ≤ 3 := by
      rcases Nat.lt_or_ge n xs.length with h | h
      · have ey := List.getElem?_eq_getElem h
        obtain ⟨C, i, j, t, i0, ij, j3⟩ := isT_of ht14 ok xs[n] (List.getElem_mem h)
        exact ⟨xs[n], C, i, j, atI_nat (by rw [List.getElem?_append_left h]; exact ey), t, i0, ij, j3⟩
      · obtain rfl : n = xs.length := by omega
        exact ⟨.ref t4, ⟨0, 1, 0, 0⟩, 0, 1, atI_nat (by simp), ⟨t4, .ref t3, rfl, s14 _ _ (s13 _ _ e12), t3, rfl, s14 _ _ (s13 _ _ (s12 _ _ e11))⟩, by decide, by decide, by decide⟩
    walk_at "W"
    refine w_ixL e14 hy ?_
    walk_at "W"
    have hs14 := hs10.same S14
    refine ⟨p, l, y, C, i, j, rfl, hs14, hty, i0, ij, j3, fun wr H15 s15 hs15 nw => ?_⟩
    have ea15 := s15 _ _ na1 na2 (S14 _ _ ea10)
    have ht15 := ht14.kps (hs14.kps s15)
    have hb15 := (hb10.same S14).lk (Lk.pool hs14 hs15 s15)
    walk_at "W"
    refine k_slL (SqL.of ea15) fun l7 H16 hl7 s16 e16 => ?_
    walk_at "W"
    refine k_lst rfl fun l8 H17 hl8 s17 e17 => ?_
    rw [cutV_head] at e16
    refine w_catL' (s17 _ _ e16) e17 (by simp; omega) fun l9 H18 hl9 s18 e18 => ?_
    walk_at "W"
    have S18 := s16.trans (s17.trans s18)
    refine k_slL (SqL.of (S18 _ _ ea15)) fun l10 H19 hl10 s19 e19 => ?_
    rw [cutV_tail] at e19
    refine w_catL' (s19 _ _ e18) e19 (by simp; omega) fun l11 H20 hl11 s20 e20 => ?_
    walk_at "W"
    refine k_lst rfl fun l12 H21 hl12 s21 e21 => ?_
    refine w_catL' (s21 _ _ e20) e21 (by simp; omega) fun l13 H22 hl13 s22 e22 => ?_
    walk_at "W"
    refine k_slL (SqL.of e22) fun sp H23 hsp s23 e23 => ?_
    rw [show (some (40 : Int)) = some ((40 : Nat) : Int) from rfl, cutV_head] at e23
    have S23 := S18.trans (s19.trans (s20.trans (s21.trans (s22.trans s23))))
    have hs23 := hs15.same S23
    have ea23 := S23 _ _ ea15
    have ht23 := ht15.kps (Kps.same S23)
    have hb23 := hb15.same S23
    have nw23 := nw.sameR S23
    walk_at "W"
    refine w_cut (fun σ' H' => (∃ z8, σ' = [some (.ref p), some (.ref a), some (.ref q), some bad, z, some (.int (n : Int)), some wr, some (.ref sp), z8]) ∧ SameXX p l H23 H' ∧ PlA H' p l) ?_ ?_
    · walk_at "W"
      refine w_ite (fun h40 => ?_) (fun h40 => ?_)
      · walk_at "W"
        refine w_tupL e23 fun tp H24 htp s24 e24 => ?_
        walk_at "W"
        refine k_lst rfl fun l14 H25 hl14 s25 e25 => ?_
        have hs24 := hs23.same s24
        have hs25 := hs24.same s25
        have nl14 := hs24.new hl14
        walk_at "W"
        refine k_pool hs25 (by decide) (by decide) fun m H26 m0 m1 s26 hs26 => ?_
        have lk := (Lk.same (s24.trans s25)).trans (Lk.pool hs25 hs26 s26)
        have nsp := (hs15.same (S18.trans (s19.trans (s20.trans (s21.trans s22))))).new hsp
        have esp26 := s26 _ _ nsp.1 nsp.2 ((s24.trans s25) _ _ e23)
        have etp26 := (hs25.kps s26).tup (s25 _ _ e24)
        obtain ⟨x, hx, ⟨ax, rfl, hlt⟩⟩ : ∃ x, atI [V.ref sp, V.ref tp] m = some x ∧ ∃ ax, x = .ref ax ∧ LT H26 ax (List.take 40 (xs.take n ++ [wr] ++ xs.drop n ++ [.non])) := by
          have hm : m = 0 ∨ m = 1 := by omega
          rcases hm with rfl | rfl
          · exact ⟨_, rfl, sp, rfl, .inl esp26⟩
          · exact ⟨_, rfl, tp, rfl, .inr etp26⟩
        refine w_ixL (s26 _ _ nl14.1 nl14.2 e25) hx ?_
        walk_at "W"
        have hn40 : n < 40 := by omega
        have gx : ∀ i, i ≤ n → (List.take 40 (xs.take n ++ [wr] ++ xs.drop n ++ [.non]))[i]? = if i < n then xs[i]? else some wr := fun i hi => by
          have ln : (xs.take n).length = n := by rw [List.length_take]; omega
          rw [List.getElem?_take, if_pos (show i < 40 by omega), List.append_assoc, List.append_assoc]
          by_cases h : i < n
          · rw [if_pos h, List.getElem?_append_left (by omega), List.getElem?_take, if_pos h]
          · obtain rfl : i = n := by omega
            rw [if_neg h, List.getElem?_append_right (by omega), ln, Nat.sub_self]
            rfl
        have kk : Kps H23 H26 := lk.1
        have ht26 := ht23.kps kk
        refine ⟨.ref ax, bad, rfl, .inl ⟨(n : Int), .inr ⟨ax, _, rfl, hlt, by rw [List.length_take]; omega, .inr ⟨by rw [List.length_take]; omega, n, wr, rfl, by rw [gx n (Nat.le_refl _), if_neg (Nat.lt_irrefl _)], nw23.lk lk, fun i y hi hy => ?_⟩⟩, fun u H27 s27 e27 => ?_⟩⟩
        · rw [gx i (Nat.le_of_lt hi), if_pos hi] at hy
          exact isT_of ht26 ok y (List.mem_of_getElem? hy)
        walk_at "W"
        refine k_tup rfl fun u2 H28 hu2 s28 e28 => ?_
        refine w_neSI (s28 _ _ e27) e28 (by decide +kernel) ?_
        walk_at "W"
        refine w_ixT (s28 _ _ e27) rfl ?_
        obtain ⟨ty, hty', _, kb, _⟩ := (Plain.int (H := H28) (n : Int)).ty (K := Z.K)
        walk_at "W"
        refine w_isi hty' kb ?_
        walk_at "W"
        exact ⟨⟨_, rfl⟩, (SameXX.of (s24.trans s25)).trans (s26.trans (SameXX.of (s27.trans s28))), hs26.same (s27.trans s28)⟩
      · walk_at "W"
        exact ⟨⟨_, rfl⟩, SameXX.refl, hs23⟩
    rintro σ' H24 ⟨⟨z8, rfl⟩, s24, hs24⟩
    have ht24 := ht23.kps (hs23.kps s24)
    walk_at "W"
    refine ⟨.ref a, bad, rfl, .inr ⟨⟨a, xs, rfl, .inl (s24 _ _ na1 na2 ea23), by omega, isT_of ht24 ok⟩, hb23.lk (Lk.pool hs23 hs24 s24), fun u H25 s25 e25 => ?_⟩⟩
    walk_at "W"
    refine k_tup rfl fun u2 H26 hu2 s26 e26 => ?_
    exact w_eqSame3 (s26 _ _ e25) e26 fb fun H27 _ => k H27
theorem tls_shapedT (ts : List Tl) : SeqAt.shaped (.tuple (ts.map tlD)) = true := by
  have h := tls_shaped ts
  unfold SeqAt.shaped at h ⊢
  rw [PyData.canLay0, PyData.depth] at h
  rw [PyData.canLay0, PyData.depth]
  exact h
theorem w_neTT {K : PySem.W.Frag} {H : Hp} {Q : VK} {a b : Addr} {xs ys : List V} {ts : List Tl} (h1 : H a = some (.tup xs)) (h2 : H b = some (.tup ys)) (t1 : Tls H xs ts) (t2 : Tls H ys ts) (q : Q (.bl false) H) : rNeD K (.ref a) (.ref b) H Q := by
  refine ⟨_, _, .tup (SqT.of h1) (tls_dp t1), .tup (SqT.of h2) (tls_dp t2), tls_shapedT _, tls_shapedT _, ?_⟩
  rw [SeqAt.eqv_refl _ (SeqAt.canLay_of_shaped (tls_shapedT _))]
  exact q
theorem w_eqTT {K : PySem.W.Frag} {H : Hp} {Q : VK} {a b : Addr} {xs ys : List V} {ts : List Tl} (h1 : H a = some (.tup xs)) (h2 : H b = some (.tup ys)) (t1 : Tls H xs ts) (t2 : Tls H ys ts) (q : Q (.bl true) H) : rEqD K (.ref a) (.ref b) H Q := by
  refine ⟨_, _, .tup (SqT.of h1) (tls_dp t1), .tup (SqT.of h2) (tls_dp t2), tls_shapedT _, tls_shapedT _, ?_⟩
  rw [SeqAt.eqv_refl _ (SeqAt.canLay_of_shaped (tls_shapedT _))]
  exact q
theorem w_neLLT {K : PySem.W.Frag} {H : Hp} {Q : VK} {a b : Addr} {xs ys : List V} {ts : List Tl} (h1 : H a = some (.lst xs)) (h2 : H b = some (.lst ys)) (t1 : Tls H xs ts) (t2 : Tls H ys ts) (q : Q (.bl false) H) : rNeD K (.ref a) (.ref b) H Q := by
  refine ⟨_, _, .lst (SqL.of h1) (tls_dp t1), .lst (SqL.of h2) (tls_dp t2), tls_shaped _, tls_shaped _, ?_⟩
  rw [SeqAt.eqv_refl _ (SeqAt.canLay_of_shaped (tls_shaped _))]
  exact q
theorem moved_isT {H : Hp} {xs : List V} {ts : List Tl} {d : C4} (h : Tls H xs (ts.map (Tl.moved d))) (ok : ∀ t ∈ ts, Tl.ok t) : ∀ y ∈ xs, IsT H y := fun y hy => by
  obtain ⟨i, hi, e⟩ := List.mem_iff_getElem.mp hy
  have l2 : i < ts.length := by have := h.1; rw [List.length_map] at this; omega
  have t := h.2 i y (ts[i].moved d) (by rw [List.getElem?_eq_getElem hi, e]) (by rw [List.getElem?_map, List.getElem?_eq_getElem l2]; rfl)
  have o := ok ts[i] (List.getElem_mem l2)
  exact ⟨_, _, _, t, o.1, o.2.1, o.2.2.1⟩
theorem w_listLT {K : PySem.W.Frag} {H : Hp} {Q : VK} {a : Addr} {xs : List V} (h : LT H a xs) (q : ∀ l H2, H l = none → Same H H2 → H2 l = some (.lst xs) → Q (.ref l) H2) : rListOf K [.ref a] H Q := by
  rcases h with e | e
  · exact w_listL (SqL.of e) q
  · exact w_listT (SqT.of e) q
theorem moved_two (d e : C4) (ts : List Tl) : (ts.map (Tl.moved d)).map (Tl.moved e) = ts.map (Tl.moved (addC d e)) := by
  rw [List.map_map]
  refine List.map_congr_left fun t _ => ?_
  show Tl.mk (addC (addC t.c d) e) t.i t.j = Tl.mk (addC t.c (addC d e)) t.i t.j
  simp only [addC, Int.add_assoc]
theorem moved_none {d : C4} (h : d = ⟨0, 0, 0, 0⟩) (ts : List Tl) : ts.map (Tl.moved d) = ts := by
  subst h
  have : ∀ t : Tl, Tl.moved ⟨0, 0, 0, 0⟩ t = t := fun t => by
    show Tl.mk (addC t.c ⟨0, 0, 0, 0⟩) t.i t.j = t
    simp only [addC, Int.add_zero]
  rw [show Tl.moved ⟨0, 0, 0, 0⟩ = id from funext this, List.map_id]
abbrev s_law : Stmt := top 45
theorem sc_law : FnScope ["script", "pool", "corner", "heap", "floor", "v", "given", "told", "other"] ["script"] (defScope s_law) := ⟨rfl, rfl, rfl, by decide +kernel, rfl, by decide +kernel, by decide +kernel⟩

def sp_law (Z : Zs) : Sp := fun vs H Q E =>
  ∃ (a : Addr) (ns : List Int), vs = [.ref a] ∧ SqL Z.K H a (ns.map V.int) ∧ ∀ H', Q (.bl true) H'
theorem ok_law (T : Txt Z mg) (h__law_refuses : Has P w Z.K mg base "_law_refuses" 8 ["pool", "heap", "v"] (sp__law_refuses Z)) (h_heap_moved : Has P w Z.K mg base "heap_moved" 6 ["heap", "v"] (sp_heap_moved Z)) (h__law_negated : Has P w Z.K mg base "_law_negated" 1 ["point"] (sp__law_negated Z)) (h__law_sum : Has P w Z.K mg base "_law_sum" 1 ["one", "other"] (sp__law_sum Z)) (h__law_corner : Has P w Z.K mg base "_law_corner" 3 ["pool", "far"] (sp__law_corner Z)) (h__law_due : Has P w Z.K mg base "_law_due" 2 ["heap", "v"] (sp__law_due Z)) (h__law_draw : Has P w Z.K mg base "_law_draw" 1 ["pool", "many"] (sp__law_draw Z)) (h__law_heap : Has P w Z.K mg base "_law_heap" 6 ["pool", "floor", "corner", "many"] (sp__law_heap Z)) (h__law_floor : Has P w Z.K mg base "_law_floor" 5 ["pool", "corner"] (sp__law_floor Z)) (h__law_tiles : Has P w Z.K mg base "_law_tiles" 4 ["pool"] (sp__law_tiles Z)) (h__law_pool : Has P w Z.K mg base "_law_pool" 1 ["script"] (sp__law_pool Z)) {f : Addr} {fd : FuncData} (D : Fun Z.K "law" "law" s_law f fd) : FnOk P w Z.K mg base (L2.CX P w) 9 f fd ["script"] (sp_law Z) := by
  refine D.okX sc_law (fun vs H Q E h => ?_) (fun cdv A outer s H vs Q E hr h => ?_)
  · obtain ⟨a, ns, rfl, _⟩ := h
    rfl
  · refine ⟨_, (pss_cons (ps_set (i := 1) sc_law.nd rfl (Or.inl rfl) (pe_h (E := ED E) h__law_pool hr (paW (takes_of rfl rfl rfl rfl)) (pa_cons (pv 0) pa_nil)))
      (pss_cons (ps_set (i := 2) sc_law.nd rfl (Or.inl rfl) (pe_h (E := ED E) h__law_corner hr (paW (takes_of rfl rfl rfl rfl)) (pa_cons (pv 1) (pa_cons pe_int pa_nil))))
      (pss_cons (ps_set (i := 3) sc_law.nd rfl (Or.inl rfl) (pe_h (E := ED E) h__law_tiles hr (paW (takes_of rfl rfl rfl rfl)) (pa_cons (pv 1) pa_nil)))
      (C8.pss_cut (ps_if (pt_cmpR op_eq (pe_h (E := ED E) h__law_draw hr (paW (takes_of rfl rfl rfl rfl)) (pa_cons (pv 1) (pa_cons pe_int pa_nil))) pe_int (nomark _)) (pss_cons (ps_set (i := 4) sc_law.nd rfl (Or.inl rfl) (pe_h (E := ED E) h__law_floor hr (paW (takes_of rfl rfl rfl rfl)) (pa_cons (pv 1) (pa_cons (pv 2) pa_nil))))
      (pss_one (ps_set (i := 3) sc_law.nd rfl (Or.inl rfl) (pe_h (E := ED E) h__law_heap hr (paW (takes_of rfl rfl rfl rfl)) (pa_cons (pv 1) (pa_cons (pv 4) (pa_cons (pv 2) (pa_cons (pe_ix ix_seq (pe_lst (pa_cons pe_int (pa_cons pe_int (pa_cons pe_int pa_nil)))) (pe_h (E := ED E) h__law_draw hr (paW (takes_of rfl rfl rfl rfl)) (pa_cons (pv 1) (pa_cons pe_int pa_nil))) (fun _ _ => rfl)) pa_nil)))))))) pss_nil)
      (pss_cons (ps_set (i := 5) sc_law.nd rfl (Or.inl rfl) (pe_h (E := ED E) h__law_corner hr (paW (takes_of rfl rfl rfl rfl)) (pa_cons (pv 1) (pa_cons pe_int pa_nil))))
      (pss_cons (ps_set (i := 6) sc_law.nd rfl (Or.inl rfl) (pe_ix ix_seq (pe_lst (pa_cons (pe_callTy cn_list rfl T.n_list (by decide +kernel) (pa_cons (pv 3) pa_nil)) (pa_cons (pe_callTy cn_tuple rfl T.n_tuple (by decide +kernel) (pa_cons (pv 3) pa_nil)) pa_nil))) (pe_h (E := ED E) h__law_draw hr (paW (takes_of rfl rfl rfl rfl)) (pa_cons (pv 1) (pa_cons pe_int pa_nil))) (fun _ _ => rfl)))
      (pss_cons (ps_set (i := 7) sc_law.nd rfl (Or.inl rfl) (pe_h (E := ED E) h_heap_moved hr (paW (takes_of rfl rfl rfl rfl)) (pa_cons (pv 6) (pa_cons (pv 5) pa_nil))))
      (pss_cons (ps_if (PW.pt (pw_or (pt_not (pt_val (pe_callB call_isi rfl T.n_isinstance (by decide +kernel) (pa_cons (pv 7) (pa_cons (pe_bltn (v := .ty "tuple") rfl T.n_tuple (by decide +kernel) rfl) pa_nil))))) (pw_or (pt_cmpR (op_neD hr.units) (pv 7) (pe_h (E := ED E) h__law_due hr (paW (takes_of rfl rfl rfl rfl)) (pa_cons (pv 3) (pa_cons (pv 5) pa_nil))) (nomark _)) (pw_or1 (pt_cmpR (op_neD hr.units) (pe_callTy cn_list rfl T.n_list (by decide +kernel) (pa_cons (pv 6) pa_nil)) (pv 3) (nomark _)))))) (pss_one (ps_ret pe_bl)) pss_nil)
      (pss_cons (ps_set (i := 8) sc_law.nd rfl (Or.inl rfl) (pe_h (E := ED E) h__law_corner hr (paW (takes_of rfl rfl rfl rfl)) (pa_cons (pv 1) (pa_cons pe_int pa_nil))))
      (pss_cons (ps_if (pt_cmpR (op_neD hr.units) (pe_h (E := ED E) h_heap_moved hr (paW (takes_of rfl rfl rfl rfl)) (pa_cons (pv 7) (pa_cons (pv 8) pa_nil))) (pe_h (E := ED E) h_heap_moved hr (paW (takes_of rfl rfl rfl rfl)) (pa_cons (pv 3) (pa_cons (pe_h (E := ED E) h__law_sum hr (paW (takes_of rfl rfl rfl rfl)) (pa_cons (pv 5) (pa_cons (pv 8) pa_nil))) pa_nil))) (nomark _)) (pss_one (ps_ret pe_bl)) pss_nil)
      (pss_cons (ps_if (pt_cmpR (op_neD hr.units) (pe_h (E := ED E) h_heap_moved hr (paW (takes_of rfl rfl rfl rfl)) (pa_cons (pe_callTy cn_list rfl T.n_list (by decide +kernel) (pa_cons (pv 7) pa_nil)) (pa_cons (pe_h (E := ED E) h__law_negated hr (paW (takes_of rfl rfl rfl rfl)) (pa_cons (pv 5) pa_nil)) pa_nil))) (pe_callTy cn_tuple rfl T.n_tuple (by decide +kernel) (pa_cons (pv 3) pa_nil)) (nomark _)) (pss_one (ps_ret pe_bl)) pss_nil)
      (pss_one (ps_ret (pe_and (pe_cmpR (op_eqD hr.units) (pe_h (E := ED E) h_heap_moved hr (paW (takes_of rfl rfl rfl rfl)) (pa_cons (pv 3) (pa_cons (pe_tup (pa_cons pe_int (pa_cons pe_int (pa_cons pe_int (pa_cons pe_int pa_nil))))) pa_nil))) (pe_callTy cn_tuple rfl T.n_tuple (by decide +kernel) (pa_cons (pv 3) pa_nil)) (nomark _)) (pe_one (pe_h (E := ED E) h__law_refuses hr (paW (takes_of rfl rfl rfl rfl)) (pa_cons (pv 1) (pa_cons (pv 3) (pa_cons (pv 5) pa_nil))))))))))))))))))), ?_⟩
    try simp only [cxOf]
    obtain ⟨a, ns, rfl, hs, q⟩ := h
    walk_at "W"
    refine ⟨a, ns, rfl, hs, fun p l H1 s1 hs1 => ?_⟩
    walk_at "W"
    refine ⟨p, l, 45, rfl, hs1, .inl rfl, fun pc c H2 wc s2 hs2 hc => ?_⟩
    walk_at "W"
    refine ⟨p, l, rfl, hs2, fun u xs ts H3 s3 hs3 nu e3 ht3 lx ok => ?_⟩
    have nu1 := hs2.new nu
    have hc3 := (hs2.kps s3).tup hc
    walk_at "W"
    refine w_cut (fun σ' H' => ∃ u xs ts x4, σ' = [some (.ref a), some (.ref p), some (.ref pc), some (.ref u), x4, none, none, none, none] ∧ PlA H' p l ∧ u ≠ p ∧ u ≠ l ∧ H' u = some (.lst xs) ∧ Tls H' xs ts ∧ xs.length ≤ 40 ∧ ∀ t ∈ ts, Tl.ok t) ?_ ?_
    · walk_at "W"
      refine k_pool hs3 (by decide) (by decide) fun n H4 n0 n1 s4 hs4 => ?_
      walk_at "W"
      refine w_ite (fun _ => ?_) (fun _ => ?_)
      · walk_at "W"
        refine ⟨p, l, pc, c, rfl, hs4, (hs3.kps s4).tup hc3, wc, fun f h s H5 s5 hs5 hf h0 h35 ws hh => ?_⟩
        walk_at "W"
        refine k_lst rfl fun l1 H6 hl1 s6 e6 => ?_
        have hs6 := hs5.same s6
        have nl1 := hs5.new hl1
        walk_at "W"
        refine k_pool hs6 (by decide) (by decide) fun m H7 m0 m1 s7 hs7 => ?_
        obtain ⟨k, hk, k0, k5⟩ : ∃ k : Int, atI [V.int 1, .int 2, .int 5] m = some (.int k) ∧ 0 ≤ k ∧ k ≤ 5 := by
          have hm : m = 0 ∨ m = 1 ∨ m = 2 := by omega
          rcases hm with rfl | rfl | rfl <;> exact ⟨_, rfl, by decide, by decide⟩
        refine w_ixL (s7 _ _ nl1.1 nl1.2 e6) hk ?_
        walk_at "W"
        have k57 := (Kps.same s6).trans (hs6.kps s7)
        refine ⟨p, l, f, pc, h, s, c, k, rfl, hs7, hf.kps k57, h0, h35, ws, k57.tup ((hs4.kps s5).tup ((hs3.kps s4).tup hc3)), wc, hh, k0, k5, fun u2 xs2 ts2 H8 s8 hs8 nu2 e8 ht8 lx8 ok8 => ?_⟩
        walk_at "W"
        exact ⟨u2, xs2, ts2, _, rfl, hs8, (hs7.new nu2).1, (hs7.new nu2).2, e8, ht8, lx8, ok8⟩
      · walk_at "W"
        exact ⟨u, xs, ts, _, rfl, hs4, nu1.1, nu1.2, s4 _ _ nu1.1 nu1.2 e3, ht3.kps (hs3.kps s4), lx, ok⟩
    clear e3 ht3 lx ok nu1 nu
    rintro σ' H4 ⟨u, xs, ts, x4, rfl, hs4, n1, n2, e4, ht4, lx, ok⟩
    walk_at "W"
    refine ⟨p, l, 54, rfl, hs4, .inr rfl, fun pv v H5 wv s5 hs5 hv => ?_⟩
    have e5 := s5 _ _ n1 n2 e4
    have ht5 := ht4.kps (hs4.kps s5)
    walk_at "W"
    refine w_listL (SqL.of e5) fun l1 H6 hl1 s6 e6 => ?_
    walk_at "W"
    refine w_tupL (s6 _ _ e5) fun t1 H7 ht1 s7 e7 => ?_
    walk_at "W"
    refine k_lst rfl fun l2 H8 hl2 s8 e8 => ?_
    have S8 := s6.trans (s7.trans s8)
    have hs8 := hs5.same S8
    have nl1 := hs5.new hl1
    have nl2 := (hs5.same (s6.trans s7)).new hl2
    walk_at "W"
    refine k_pool hs8 (by decide) (by decide) fun m H9 m0 m1 s9 hs9 => ?_
    have K9 : Kps H5 H9 := (Kps.same S8).trans (hs8.kps s9)
    have hv9 := K9.tup hv
    have e9 := s9 _ _ n1 n2 (S8 _ _ e5)
    have ht9 := ht5.kps K9
    obtain ⟨gx, hg, ag, rfl, hlt⟩ : ∃ gx, atI [V.ref l1, V.ref t1] m = some gx ∧ ∃ ag, gx = .ref ag ∧ LT H9 ag xs := by
      have hm : m = 0 ∨ m = 1 := by omega
      rcases hm with rfl | rfl
      · exact ⟨_, rfl, l1, rfl, .inl (s9 _ _ nl1.1 nl1.2 (s8 _ _ (s7 _ _ e6)))⟩
      · exact ⟨_, rfl, t1, rfl, .inr ((hs8.kps s9).tup (s8 _ _ e7))⟩
    refine w_ixL (s9 _ _ nl2.1 nl2.2 e8) hg ?_
    walk_at "W"
    refine ⟨_, _, rfl, .inr ⟨⟨ag, xs, rfl, hlt, by omega, isT_of ht9 ok⟩, .inr ⟨ag, pv, v, xs, ts, rfl, rfl, hlt, hv9, ht9, lx, fun ut ys H10 s10 e10 ht10 => ?_⟩⟩⟩
    walk_at "W"
    obtain ⟨ty, hty, _, _, kty⟩ := (Plain.tup ut _ e10).ty (K := Z.K)
    rw [isTu_tup e10] at kty
    refine w_isi hty kty ?_
    walk_at "W"
    have e10u := s10 _ _ e9
    refine ⟨u, pv, v, xs, ts, rfl, e10u, s10 _ _ hv9, ht9.kps (Kps.same s10), by omega, fun ud zs H11 s11 e11 ht11 => ?_⟩
    refine w_neTT (s11 _ _ e10) e11 (ht10.kps (Kps.same s11)) ht11 ?_
    have S11 := s10.trans s11
    walk_at "W"
    refine w_listLT (hlt.same S11) fun ll H12 hll s12 e12 => ?_
    have ht12 := ht9.kps (Kps.same (S11.trans s12))
    have e12u := (S11.trans s12) _ _ e9
    walk_at "W"
    refine w_neLLT e12 e12u ht12 ht12 ?_
    walk_at "W"
    have S12 := S11.trans s12
    have hs12 := hs9.same S12
    refine ⟨p, l, 45, rfl, hs12, .inl rfl, fun po o H13 wo s13 hs13 ho => ?_⟩
    have K13 : Kps H9 H13 := (Kps.same S12).trans (hs12.kps s13)
    have e13u := s13 _ _ n1 n2 e12u
    have ht13 := ht9.kps K13
    have hv13 := K13.tup hv9
    have k1013 : Kps H10 H13 := (Kps.same (s11.trans s12)).trans (hs12.kps s13)
    have et13 := k1013.tup e10
    have hm13 := ht10.kps k1013
    have ly : ys.length ≤ 40 := by have := ht10.1; rw [List.length_map] at this; have := ht9.1; omega
    walk_at "W"
    refine ⟨_, _, rfl, .inr ⟨⟨ut, ys, rfl, .inr et13, by omega, moved_isT hm13 ok⟩, .inr ⟨ut, po, o, ys, _, rfl, rfl, .inr et13, ho, hm13, ly, fun u1 y1 H14 s14 e14 h14 => ?_⟩⟩⟩
    walk_at "W"
    refine ⟨pv, po, v, o, rfl, s14 _ _ hv13, s14 _ _ ho, fun us H15 s15 e15 => ?_⟩
    walk_at "W"
    have S15 := s14.trans s15
    have e15u := S15 _ _ e13u
    have ht15 := ht13.kps (Kps.same S15)
    refine ⟨_, _, rfl, .inr ⟨⟨u, xs, rfl, .inl e15u, by omega, isT_of ht15 ok⟩, .inr ⟨u, us, addC v o, xs, ts, rfl, rfl, .inl e15u, e15, ht15, lx, fun u2 y2 H16 s16 e16 h16 => ?_⟩⟩⟩
    rw [moved_two] at h14
    refine w_neTT ((s15.trans s16) _ _ e14) e16 (h14.kps (Kps.same (s15.trans s16))) h16 ?_
    walk_at "W"
    have S16 := S15.trans s16
    refine w_listT (SqT.of (S16 _ _ et13)) fun l3 H17 hl3 s17 e17 => ?_
    walk_at "W"
    have S17 := S16.trans s17
    refine ⟨pv, v, rfl, S17 _ _ hv13, fun un H18 s18 e18 => ?_⟩
    walk_at "W"
    have S18 := S17.trans s18
    have hm18 := hm13.kps (Kps.same S18)
    refine ⟨_, _, rfl, .inr ⟨⟨l3, ys, rfl, .inl (s18 _ _ e17), by omega, moved_isT hm18 ok⟩, .inr ⟨l3, un, ⟨-v.a, -v.b, -v.c, -v.d⟩, ys, _, rfl, rfl, .inl (s18 _ _ e17), e18, hm18, ly, fun u3 y3 H19 s19 e19 h19 => ?_⟩⟩⟩
    rw [moved_two, moved_none (show addC v ⟨-v.a, -v.b, -v.c, -v.d⟩ = ⟨0, 0, 0, 0⟩ by simp only [addC, Int.add_right_neg])] at h19
    walk_at "W"
    have S19 := S18.trans s19
    have e19u := S19 _ _ e13u
    refine w_tupL e19u fun t2 H20 ht2 s20 e20 => ?_
    have S20 := S19.trans s20
    refine w_neTT (s20 _ _ e19) e20 (h19.kps (Kps.same s20)) (ht13.kps (Kps.same S20)) ?_
    walk_at "W"
    refine k_tup rfl fun t3 H21 ht3 s21 e21 => ?_
    walk_at "W"
    have S21 := S20.trans s21
    have e21u := S21 _ _ e13u
    have ht21 := ht13.kps (Kps.same S21)
    refine ⟨_, _, rfl, .inr ⟨⟨u, xs, rfl, .inl e21u, by omega, isT_of ht21 ok⟩, .inr ⟨u, t3, ⟨0, 0, 0, 0⟩, xs, ts, rfl, rfl, .inl e21u, e21, ht21, lx, fun u4 y4 H22 s22 e22 h22 => ?_⟩⟩⟩
    rw [moved_none rfl] at h22
    walk_at "W"
    refine w_tupL (s22 _ _ e21u) fun t4 H23 ht4' s23 e23 => ?_
    have S23 := S21.trans (s22.trans s23)
    have ht23 := ht13.kps (Kps.same S23)
    refine w_eqTT (s23 _ _ e22) e23 (h22.kps (Kps.same s23)) ht23 ?_
    walk_at "W"
    exact ⟨p, l, u, pv, v, xs, ts, rfl, hs13.same S23, n1, n2, S23 _ _ e13u, ht23, lx, ok, S23 _ _ hv13, q⟩
def spTop (K : PySem.W.Frag) : Sp := fun vs H Q E => ∃ (a : Addr) (ns : List Int), vs = [.ref a] ∧ SqL K H a (ns.map V.int) ∧ ∀ H', Q (.bl true) H'
theorem all_mk {P : Program} {w : World} {K : PySem.W.Frag} {h : Heap} {mg : Str → Option Value} {fa : Addr} (X : K.In h) (G : h.Ns mainGlobals mg) (hfa : mg "law" = some (.ref fa))
    {c_FloorError c_BadCorner c_BadHeap : Addr}
    {nmBadCorner qBadCorner : Str} {NBadCorner : Addr} {bsBadCorner : List Value} {snBadCorner : List Str} {subBadCorner : List Value} {abBadCorner : Bool} {colBadCorner : Option Bool} {ddBadCorner : Option Addr} {m0BadCorner m1BadCorner m2BadCorner m3BadCorner m5BadCorner : Option Value}
{nmBadHeap qBadHeap : Str} {NBadHeap : Addr} {bsBadHeap : List Value} {snBadHeap : List Str} {subBadHeap : List Value} {abBadHeap : Bool} {colBadHeap : Option Bool} {ddBadHeap : Option Addr} {m0BadHeap m1BadHeap m2BadHeap m3BadHeap m5BadHeap : Option Value}
    {f_is_integral : Addr} {od_is_integral an_is_integral : Option Addr} {sl_is_integral : Array (Option Value)} {oc_is_integral kV_is_integral dc_is_integral pm_is_integral cd_is_integral ct_is_integral : Value}
    {f_BadCorner_init : Addr} {od_BadCorner_init an_BadCorner_init : Option Addr} {sl_BadCorner_init : Array (Option Value)} {oc_BadCorner_init kV_BadCorner_init dc_BadCorner_init pm_BadCorner_init cd_BadCorner_init ct_BadCorner_init : Value}
    {f_BadHeap_init : Addr} {od_BadHeap_init an_BadHeap_init : Option Addr} {sl_BadHeap_init : Array (Option Value)} {oc_BadHeap_init kV_BadHeap_init dc_BadHeap_init pm_BadHeap_init cd_BadHeap_init ct_BadHeap_init : Value}
    {f_is_corner : Addr} {od_is_corner an_is_corner : Option Addr} {sl_is_corner : Array (Option Value)} {oc_is_corner kV_is_corner dc_is_corner pm_is_corner cd_is_corner ct_is_corner : Value}
    {f_check_corner : Addr} {od_check_corner an_check_corner : Option Addr} {sl_check_corner : Array (Option Value)} {oc_check_corner kV_check_corner dc_check_corner pm_check_corner cd_check_corner ct_check_corner : Value}
    {f_is_tile : Addr} {od_is_tile an_is_tile : Option Addr} {sl_is_tile : Array (Option Value)} {oc_is_tile kV_is_tile dc_is_tile pm_is_tile cd_is_tile ct_is_tile : Value}
    {f_plus : Addr} {od_plus an_plus : Option Addr} {sl_plus : Array (Option Value)} {oc_plus kV_plus dc_plus pm_plus cd_plus ct_plus : Value}
    {f_moved_tiles : Addr} {od_moved_tiles an_moved_tiles : Option Addr} {sl_moved_tiles : Array (Option Value)} {oc_moved_tiles kV_moved_tiles dc_moved_tiles pm_moved_tiles cd_moved_tiles ct_moved_tiles : Value}
    {f__law_sign : Addr} {od__law_sign an__law_sign : Option Addr} {sl__law_sign : Array (Option Value)} {oc__law_sign kV__law_sign dc__law_sign pm__law_sign cd__law_sign ct__law_sign : Value}
    {f__law_sum : Addr} {od__law_sum an__law_sum : Option Addr} {sl__law_sum : Array (Option Value)} {oc__law_sum kV__law_sum dc__law_sum pm__law_sum cd__law_sum ct__law_sum : Value}
    {f__law_less : Addr} {od__law_less an__law_less : Option Addr} {sl__law_less : Array (Option Value)} {oc__law_less kV__law_less dc__law_less pm__law_less cd__law_less ct__law_less : Value}
    {f__law_star : Addr} {od__law_star an__law_star : Option Addr} {sl__law_star : Array (Option Value)} {oc__law_star kV__law_star dc__law_star pm__law_star cd__law_star ct__law_star : Value}
    {f__law_within : Addr} {od__law_within an__law_within : Option Addr} {sl__law_within : Array (Option Value)} {oc__law_within kV__law_within dc__law_within pm__law_within cd__law_within ct__law_within : Value}
    {f__law_in_window : Addr} {od__law_in_window an__law_in_window : Option Addr} {sl__law_in_window : Array (Option Value)} {oc__law_in_window kV__law_in_window dc__law_in_window pm__law_in_window cd__law_in_window ct__law_in_window : Value}
    {f__law_has : Addr} {od__law_has an__law_has : Option Addr} {sl__law_has : Array (Option Value)} {oc__law_has kV__law_has dc__law_has pm__law_has cd__law_has ct__law_has : Value}
    {f__law_next : Addr} {od__law_next an__law_next : Option Addr} {sl__law_next : Array (Option Value)} {oc__law_next kV__law_next dc__law_next pm__law_next cd__law_next ct__law_next : Value}
    {f__law_sides : Addr} {od__law_sides an__law_sides : Option Addr} {sl__law_sides : Array (Option Value)} {oc__law_sides kV__law_sides dc__law_sides pm__law_sides cd__law_sides ct__law_sides : Value}
    {f__law_draw : Addr} {od__law_draw an__law_draw : Option Addr} {sl__law_draw : Array (Option Value)} {oc__law_draw kV__law_draw dc__law_draw pm__law_draw cd__law_draw ct__law_draw : Value}
    {f__law_pool : Addr} {od__law_pool an__law_pool : Option Addr} {sl__law_pool : Array (Option Value)} {oc__law_pool kV__law_pool dc__law_pool pm__law_pool cd__law_pool ct__law_pool : Value}
    {f__law_great : Addr} {od__law_great an__law_great : Option Addr} {sl__law_great : Array (Option Value)} {oc__law_great kV__law_great dc__law_great pm__law_great cd__law_great ct__law_great : Value}
    {f__law_corner : Addr} {od__law_corner an__law_corner : Option Addr} {sl__law_corner : Array (Option Value)} {oc__law_corner kV__law_corner dc__law_corner pm__law_corner cd__law_corner ct__law_corner : Value}
    {f__law_barred : Addr} {od__law_barred an__law_barred : Option Addr} {sl__law_barred : Array (Option Value)} {oc__law_barred kV__law_barred dc__law_barred pm__law_barred cd__law_barred ct__law_barred : Value}
    {f__law_point : Addr} {od__law_point an__law_point : Option Addr} {sl__law_point : Array (Option Value)} {oc__law_point kV__law_point dc__law_point pm__law_point cd__law_point ct__law_point : Value}
    {f__law_floor : Addr} {od__law_floor an__law_floor : Option Addr} {sl__law_floor : Array (Option Value)} {oc__law_floor kV__law_floor dc__law_floor pm__law_floor cd__law_floor ct__law_floor : Value}
    {f__law_negated : Addr} {od__law_negated an__law_negated : Option Addr} {sl__law_negated : Array (Option Value)} {oc__law_negated kV__law_negated dc__law_negated pm__law_negated cd__law_negated ct__law_negated : Value}
    {f__law_between : Addr} {od__law_between an__law_between : Option Addr} {sl__law_between : Array (Option Value)} {oc__law_between kV__law_between dc__law_between pm__law_between cd__law_between ct__law_between : Value}
    {f__law_tiles : Addr} {od__law_tiles an__law_tiles : Option Addr} {sl__law_tiles : Array (Option Value)} {oc__law_tiles kV__law_tiles dc__law_tiles pm__law_tiles cd__law_tiles ct__law_tiles : Value}
    {f__law_due : Addr} {od__law_due an__law_due : Option Addr} {sl__law_due : Array (Option Value)} {oc__law_due kV__law_due dc__law_due pm__law_due cd__law_due ct__law_due : Value}
    {f__law_heap : Addr} {od__law_heap an__law_heap : Option Addr} {sl__law_heap : Array (Option Value)} {oc__law_heap kV__law_heap dc__law_heap pm__law_heap cd__law_heap ct__law_heap : Value}
    {f_wrong_in_row : Addr} {od_wrong_in_row an_wrong_in_row : Option Addr} {sl_wrong_in_row : Array (Option Value)} {oc_wrong_in_row kV_wrong_in_row dc_wrong_in_row pm_wrong_in_row cd_wrong_in_row ct_wrong_in_row : Value}
    {f_check_heap : Addr} {od_check_heap an_check_heap : Option Addr} {sl_check_heap : Array (Option Value)} {oc_check_heap kV_check_heap dc_check_heap pm_check_heap cd_check_heap ct_check_heap : Value}
    {f_heap_moved : Addr} {od_heap_moved an_heap_moved : Option Addr} {sl_heap_moved : Array (Option Value)} {oc_heap_moved kV_heap_moved dc_heap_moved pm_heap_moved cd_heap_moved ct_heap_moved : Value}
    {f__law_no_tile : Addr} {od__law_no_tile an__law_no_tile : Option Addr} {sl__law_no_tile : Array (Option Value)} {oc__law_no_tile kV__law_no_tile dc__law_no_tile pm__law_no_tile cd__law_no_tile ct__law_no_tile : Value}
    {f__law_no_corner : Addr} {od__law_no_corner an__law_no_corner : Option Addr} {sl__law_no_corner : Array (Option Value)} {oc__law_no_corner kV__law_no_corner dc__law_no_corner pm__law_no_corner cd__law_no_corner ct__law_no_corner : Value}
    {f__law_asked : Addr} {od__law_asked an__law_asked : Option Addr} {sl__law_asked : Array (Option Value)} {oc__law_asked kV__law_asked dc__law_asked pm__law_asked cd__law_asked ct__law_asked : Value}
    {f__law_refuses : Addr} {od__law_refuses an__law_refuses : Option Addr} {sl__law_refuses : Array (Option Value)} {oc__law_refuses kV__law_refuses dc__law_refuses pm__law_refuses cd__law_refuses ct__law_refuses : Value}
    {f_law : Addr} {od_law an_law : Option Addr} {sl_law : Array (Option Value)} {oc_law kV_law dc_law pm_law cd_law ct_law : Value}
    (gi_MOST_TILES : isIntV (PySem.W.nsIn K mainGlobals "MOST_TILES") 40 = true)
    (r_FloorError : PySem.W.nsIn K mainGlobals "FloorError" = some (some (.ref c_FloorError)))
    (r_BadCorner : PySem.W.nsIn K mainGlobals "BadCorner" = some (some (.ref c_BadCorner)))
    (r_BadHeap : PySem.W.nsIn K mainGlobals "BadHeap" = some (some (.ref c_BadHeap)))
    (r_all : PySem.W.nsIn K mainGlobals "all" = some none)
    (r_len : PySem.W.nsIn K mainGlobals "len" = some none)
    (r_isinstance : PySem.W.nsIn K mainGlobals "isinstance" = some none)
    (r_tuple : PySem.W.nsIn K mainGlobals "tuple" = some none)
    (r_zip : PySem.W.nsIn K mainGlobals "zip" = some none)
    (r_int : PySem.W.nsIn K mainGlobals "int" = some none)
    (r_range : PySem.W.nsIn K mainGlobals "range" = some none)
    (r_list : PySem.W.nsIn K mainGlobals "list" = some none)
    (r_abs : PySem.W.nsIn K mainGlobals "abs" = some none)
    (r_sorted : PySem.W.nsIn K mainGlobals "sorted" = some none)
    (r_enumerate : PySem.W.nsIn K mainGlobals "enumerate" = some none)
    (r_bool : PySem.W.nsIn K mainGlobals "bool" = some none)
    (e_L_BadCorner : K.lookup c_BadCorner = some (excClassObj nmBadCorner qBadCorner c_BadCorner NBadCorner bsBadCorner [.ref c_FloorError, .type "ValueError", .type "Exception", .type "BaseException", .type "object"] true snBadCorner subBadCorner abBadCorner colBadCorner ddBadCorner m0BadCorner m1BadCorner m2BadCorner m3BadCorner m5BadCorner "ValueError.__new__"))
    (e_sa_BadCorner : PySem.W.findIn K (.ref c_BadCorner) "__setattr__" = some (some (.builtin "object.__setattr__")))
    (e_e_BadCorner : PySem.W.mroIn K c_BadCorner (.type "BaseException") = some true)
    (e_t_BadCorner : PySem.W.typeIn K (.ref c_BadCorner) = some (.type "type"))
    (e_k_BadCorner : PySem.W.keepIn K (.ref c_BadCorner) = true)
    (e_n_BadCorner : PySem.W.findIn K (.ref c_BadCorner) "corner" = some none)
    (e_ga_BadCorner : PySem.W.findIn K (.ref c_BadCorner) "__getattribute__" = some (some (.builtin "BaseException.__getattribute__")))
    (e_gg_BadCorner : PySem.W.findIn K (.ref c_BadCorner) "__getattr__" = some none)
    (e_hd_BadCorner : PySem.W.hasDictIn K c_BadCorner = true)
    (e_ic_BadCorner : PySem.W.isClsIn K c_BadCorner = true)
    (e_s_BadCorner : PySem.W.mroIn K c_BadCorner (.ref c_BadCorner) = some true)
    (e_L_BadHeap : K.lookup c_BadHeap = some (excClassObj nmBadHeap qBadHeap c_BadHeap NBadHeap bsBadHeap [.ref c_FloorError, .type "ValueError", .type "Exception", .type "BaseException", .type "object"] true snBadHeap subBadHeap abBadHeap colBadHeap ddBadHeap m0BadHeap m1BadHeap m2BadHeap m3BadHeap m5BadHeap "ValueError.__new__"))
    (e_sa_BadHeap : PySem.W.findIn K (.ref c_BadHeap) "__setattr__" = some (some (.builtin "object.__setattr__")))
    (e_e_BadHeap : PySem.W.mroIn K c_BadHeap (.type "BaseException") = some true)
    (e_t_BadHeap : PySem.W.typeIn K (.ref c_BadHeap) = some (.type "type"))
    (e_k_BadHeap : PySem.W.keepIn K (.ref c_BadHeap) = true)
    (e_n_BadHeap : PySem.W.findIn K (.ref c_BadHeap) "index" = some none)
    (e_ga_BadHeap : PySem.W.findIn K (.ref c_BadHeap) "__getattribute__" = some (some (.builtin "BaseException.__getattribute__")))
    (e_gg_BadHeap : PySem.W.findIn K (.ref c_BadHeap) "__getattr__" = some none)
    (e_hd_BadHeap : PySem.W.hasDictIn K c_BadHeap = true)
    (e_ic_BadHeap : PySem.W.isClsIn K c_BadHeap = true)
    (e_s_BadHeap : PySem.W.mroIn K c_BadHeap (.ref c_BadHeap) = some true)
    (e_o_BadCorner_BadHeap : PySem.W.mroIn K c_BadCorner (.ref c_BadHeap) = some false)
    (e_o_BadHeap_BadCorner : PySem.W.mroIn K c_BadHeap (.ref c_BadCorner) = some false)
    (a_is_integral : PySem.W.nsIn K mainGlobals "is_integral" = some (some (.ref f_is_integral)))
    (l_is_integral : K.lookup f_is_integral = some ⟨oc_is_integral, od_is_integral, .func (PySem.W.fnOf "is_integral" "is_integral" (defArgs s_is_integral) (defBody s_is_integral) (defScope s_is_integral) .none kV_is_integral dc_is_integral pm_is_integral an_is_integral cd_is_integral ct_is_integral), sl_is_integral⟩)
    (d_is_integral : PySem.W.codeIn K cd_is_integral "is_integral" = true)
    (k_is_integral : PySem.W.keepIn K (.ref f_is_integral) = true)
    (a_BadCorner_init : PySem.W.findIn K (.ref c_BadCorner) "__init__" = some (some (.ref f_BadCorner_init)))
    (t_BadCorner_init : PySem.W.typeIn K (.ref f_BadCorner_init) = some (.type "function"))
    (l_BadCorner_init : K.lookup f_BadCorner_init = some ⟨oc_BadCorner_init, od_BadCorner_init, .func (PySem.W.fnOf "__init__" "BadCorner.__init__" (defArgs s_BadCorner_init) (defBody s_BadCorner_init) (defScope s_BadCorner_init) .none kV_BadCorner_init dc_BadCorner_init pm_BadCorner_init an_BadCorner_init cd_BadCorner_init ct_BadCorner_init), sl_BadCorner_init⟩)
    (d_BadCorner_init : PySem.W.codeIn K cd_BadCorner_init "BadCorner.__init__" = true)
    (k_BadCorner_init : PySem.W.keepIn K (.ref f_BadCorner_init) = true)
    (a_BadHeap_init : PySem.W.findIn K (.ref c_BadHeap) "__init__" = some (some (.ref f_BadHeap_init)))
    (t_BadHeap_init : PySem.W.typeIn K (.ref f_BadHeap_init) = some (.type "function"))
    (l_BadHeap_init : K.lookup f_BadHeap_init = some ⟨oc_BadHeap_init, od_BadHeap_init, .func (PySem.W.fnOf "__init__" "BadHeap.__init__" (defArgs s_BadHeap_init) (defBody s_BadHeap_init) (defScope s_BadHeap_init) .none kV_BadHeap_init dc_BadHeap_init pm_BadHeap_init an_BadHeap_init cd_BadHeap_init ct_BadHeap_init), sl_BadHeap_init⟩)
    (d_BadHeap_init : PySem.W.codeIn K cd_BadHeap_init "BadHeap.__init__" = true)
    (k_BadHeap_init : PySem.W.keepIn K (.ref f_BadHeap_init) = true)
    (a_is_corner : PySem.W.nsIn K mainGlobals "is_corner" = some (some (.ref f_is_corner)))
    (l_is_corner : K.lookup f_is_corner = some ⟨oc_is_corner, od_is_corner, .func (PySem.W.fnOf "is_corner" "is_corner" (defArgs s_is_corner) (defBody s_is_corner) (defScope s_is_corner) .none kV_is_corner dc_is_corner pm_is_corner an_is_corner cd_is_corner ct_is_corner), sl_is_corner⟩)
    (d_is_corner : PySem.W.codeIn K cd_is_corner "is_corner" = true)
    (k_is_corner : PySem.W.keepIn K (.ref f_is_corner) = true)
    (a_check_corner : PySem.W.nsIn K mainGlobals "check_corner" = some (some (.ref f_check_corner)))
    (l_check_corner : K.lookup f_check_corner = some ⟨oc_check_corner, od_check_corner, .func (PySem.W.fnOf "check_corner" "check_corner" (defArgs s_check_corner) (defBody s_check_corner) (defScope s_check_corner) .none kV_check_corner dc_check_corner pm_check_corner an_check_corner cd_check_corner ct_check_corner), sl_check_corner⟩)
    (d_check_corner : PySem.W.codeIn K cd_check_corner "check_corner" = true)
    (k_check_corner : PySem.W.keepIn K (.ref f_check_corner) = true)
    (a_is_tile : PySem.W.nsIn K mainGlobals "is_tile" = some (some (.ref f_is_tile)))
    (l_is_tile : K.lookup f_is_tile = some ⟨oc_is_tile, od_is_tile, .func (PySem.W.fnOf "is_tile" "is_tile" (defArgs s_is_tile) (defBody s_is_tile) (defScope s_is_tile) .none kV_is_tile dc_is_tile pm_is_tile an_is_tile cd_is_tile ct_is_tile), sl_is_tile⟩)
    (d_is_tile : PySem.W.codeIn K cd_is_tile "is_tile" = true)
    (k_is_tile : PySem.W.keepIn K (.ref f_is_tile) = true)
    (a_plus : PySem.W.nsIn K mainGlobals "plus" = some (some (.ref f_plus)))
    (l_plus : K.lookup f_plus = some ⟨oc_plus, od_plus, .func (PySem.W.fnOf "plus" "plus" (defArgs s_plus) (defBody s_plus) (defScope s_plus) .none kV_plus dc_plus pm_plus an_plus cd_plus ct_plus), sl_plus⟩)
    (d_plus : PySem.W.codeIn K cd_plus "plus" = true)
    (k_plus : PySem.W.keepIn K (.ref f_plus) = true)
    (a_moved_tiles : PySem.W.nsIn K mainGlobals "moved_tiles" = some (some (.ref f_moved_tiles)))
    (l_moved_tiles : K.lookup f_moved_tiles = some ⟨oc_moved_tiles, od_moved_tiles, .func (PySem.W.fnOf "moved_tiles" "moved_tiles" (defArgs s_moved_tiles) (defBody s_moved_tiles) (defScope s_moved_tiles) .none kV_moved_tiles dc_moved_tiles pm_moved_tiles an_moved_tiles cd_moved_tiles ct_moved_tiles), sl_moved_tiles⟩)
    (d_moved_tiles : PySem.W.codeIn K cd_moved_tiles "moved_tiles" = true)
    (k_moved_tiles : PySem.W.keepIn K (.ref f_moved_tiles) = true)
    (a__law_sign : PySem.W.nsIn K mainGlobals "_law_sign" = some (some (.ref f__law_sign)))
    (l__law_sign : K.lookup f__law_sign = some ⟨oc__law_sign, od__law_sign, .func (PySem.W.fnOf "_law_sign" "_law_sign" (defArgs s__law_sign) (defBody s__law_sign) (defScope s__law_sign) .none kV__law_sign dc__law_sign pm__law_sign an__law_sign cd__law_sign ct__law_sign), sl__law_sign⟩)
    (d__law_sign : PySem.W.codeIn K cd__law_sign "_law_sign" = true)
    (k__law_sign : PySem.W.keepIn K (.ref f__law_sign) = true)
    (a__law_sum : PySem.W.nsIn K mainGlobals "_law_sum" = some (some (.ref f__law_sum)))
    (l__law_sum : K.lookup f__law_sum = some ⟨oc__law_sum, od__law_sum, .func (PySem.W.fnOf "_law_sum" "_law_sum" (defArgs s__law_sum) (defBody s__law_sum) (defScope s__law_sum) .none kV__law_sum dc__law_sum pm__law_sum an__law_sum cd__law_sum ct__law_sum), sl__law_sum⟩)
    (d__law_sum : PySem.W.codeIn K cd__law_sum "_law_sum" = true)
    (k__law_sum : PySem.W.keepIn K (.ref f__law_sum) = true)
    (a__law_less : PySem.W.nsIn K mainGlobals "_law_less" = some (some (.ref f__law_less)))
    (l__law_less : K.lookup f__law_less = some ⟨oc__law_less, od__law_less, .func (PySem.W.fnOf "_law_less" "_law_less" (defArgs s__law_less) (defBody s__law_less) (defScope s__law_less) .none kV__law_less dc__law_less pm__law_less an__law_less cd__law_less ct__law_less), sl__law_less⟩)
    (d__law_less : PySem.W.codeIn K cd__law_less "_law_less" = true)
    (k__law_less : PySem.W.keepIn K (.ref f__law_less) = true)
    (a__law_star : PySem.W.nsIn K mainGlobals "_law_star" = some (some (.ref f__law_star)))
    (l__law_star : K.lookup f__law_star = some ⟨oc__law_star, od__law_star, .func (PySem.W.fnOf "_law_star" "_law_star" (defArgs s__law_star) (defBody s__law_star) (defScope s__law_star) .none kV__law_star dc__law_star pm__law_star an__law_star cd__law_star ct__law_star), sl__law_star⟩)
    (d__law_star : PySem.W.codeIn K cd__law_star "_law_star" = true)
    (k__law_star : PySem.W.keepIn K (.ref f__law_star) = true)
    (a__law_within : PySem.W.nsIn K mainGlobals "_law_within" = some (some (.ref f__law_within)))
    (l__law_within : K.lookup f__law_within = some ⟨oc__law_within, od__law_within, .func (PySem.W.fnOf "_law_within" "_law_within" (defArgs s__law_within) (defBody s__law_within) (defScope s__law_within) .none kV__law_within dc__law_within pm__law_within an__law_within cd__law_within ct__law_within), sl__law_within⟩)
    (d__law_within : PySem.W.codeIn K cd__law_within "_law_within" = true)
    (k__law_within : PySem.W.keepIn K (.ref f__law_within) = true)
    (a__law_in_window : PySem.W.nsIn K mainGlobals "_law_in_window" = some (some (.ref f__law_in_window)))
    (l__law_in_window : K.lookup f__law_in_window = some ⟨oc__law_in_window, od__law_in_window, .func (PySem.W.fnOf "_law_in_window" "_law_in_window" (defArgs s__law_in_window) (defBody s__law_in_window) (defScope s__law_in_window) .none kV__law_in_window dc__law_in_window pm__law_in_window an__law_in_window cd__law_in_window ct__law_in_window), sl__law_in_window⟩)
    (d__law_in_window : PySem.W.codeIn K cd__law_in_window "_law_in_window" = true)
    (k__law_in_window : PySem.W.keepIn K (.ref f__law_in_window) = true)
    (a__law_has : PySem.W.nsIn K mainGlobals "_law_has" = some (some (.ref f__law_has)))
    (l__law_has : K.lookup f__law_has = some ⟨oc__law_has, od__law_has, .func (PySem.W.fnOf "_law_has" "_law_has" (defArgs s__law_has) (defBody s__law_has) (defScope s__law_has) .none kV__law_has dc__law_has pm__law_has an__law_has cd__law_has ct__law_has), sl__law_has⟩)
    (d__law_has : PySem.W.codeIn K cd__law_has "_law_has" = true)
    (k__law_has : PySem.W.keepIn K (.ref f__law_has) = true)
    (a__law_next : PySem.W.nsIn K mainGlobals "_law_next" = some (some (.ref f__law_next)))
    (l__law_next : K.lookup f__law_next = some ⟨oc__law_next, od__law_next, .func (PySem.W.fnOf "_law_next" "_law_next" (defArgs s__law_next) (defBody s__law_next) (defScope s__law_next) .none kV__law_next dc__law_next pm__law_next an__law_next cd__law_next ct__law_next), sl__law_next⟩)
    (d__law_next : PySem.W.codeIn K cd__law_next "_law_next" = true)
    (k__law_next : PySem.W.keepIn K (.ref f__law_next) = true)
    (a__law_sides : PySem.W.nsIn K mainGlobals "_law_sides" = some (some (.ref f__law_sides)))
    (l__law_sides : K.lookup f__law_sides = some ⟨oc__law_sides, od__law_sides, .func (PySem.W.fnOf "_law_sides" "_law_sides" (defArgs s__law_sides) (defBody s__law_sides) (defScope s__law_sides) .none kV__law_sides dc__law_sides pm__law_sides an__law_sides cd__law_sides ct__law_sides), sl__law_sides⟩)
    (d__law_sides : PySem.W.codeIn K cd__law_sides "_law_sides" = true)
    (k__law_sides : PySem.W.keepIn K (.ref f__law_sides) = true)
    (a__law_draw : PySem.W.nsIn K mainGlobals "_law_draw" = some (some (.ref f__law_draw)))
    (l__law_draw : K.lookup f__law_draw = some ⟨oc__law_draw, od__law_draw, .func (PySem.W.fnOf "_law_draw" "_law_draw" (defArgs s__law_draw) (defBody s__law_draw) (defScope s__law_draw) .none kV__law_draw dc__law_draw pm__law_draw an__law_draw cd__law_draw ct__law_draw), sl__law_draw⟩)
    (d__law_draw : PySem.W.codeIn K cd__law_draw "_law_draw" = true)
    (k__law_draw : PySem.W.keepIn K (.ref f__law_draw) = true)
    (a__law_pool : PySem.W.nsIn K mainGlobals "_law_pool" = some (some (.ref f__law_pool)))
    (l__law_pool : K.lookup f__law_pool = some ⟨oc__law_pool, od__law_pool, .func (PySem.W.fnOf "_law_pool" "_law_pool" (defArgs s__law_pool) (defBody s__law_pool) (defScope s__law_pool) .none kV__law_pool dc__law_pool pm__law_pool an__law_pool cd__law_pool ct__law_pool), sl__law_pool⟩)
    (d__law_pool : PySem.W.codeIn K cd__law_pool "_law_pool" = true)
    (k__law_pool : PySem.W.keepIn K (.ref f__law_pool) = true)
    (a__law_great : PySem.W.nsIn K mainGlobals "_law_great" = some (some (.ref f__law_great)))
    (l__law_great : K.lookup f__law_great = some ⟨oc__law_great, od__law_great, .func (PySem.W.fnOf "_law_great" "_law_great" (defArgs s__law_great) (defBody s__law_great) (defScope s__law_great) .none kV__law_great dc__law_great pm__law_great an__law_great cd__law_great ct__law_great), sl__law_great⟩)
    (d__law_great : PySem.W.codeIn K cd__law_great "_law_great" = true)
    (k__law_great : PySem.W.keepIn K (.ref f__law_great) = true)
    (a__law_corner : PySem.W.nsIn K mainGlobals "_law_corner" = some (some (.ref f__law_corner)))
    (l__law_corner : K.lookup f__law_corner = some ⟨oc__law_corner, od__law_corner, .func (PySem.W.fnOf "_law_corner" "_law_corner" (defArgs s__law_corner) (defBody s__law_corner) (defScope s__law_corner) .none kV__law_corner dc__law_corner pm__law_corner an__law_corner cd__law_corner ct__law_corner), sl__law_corner⟩)
    (d__law_corner : PySem.W.codeIn K cd__law_corner "_law_corner" = true)
    (k__law_corner : PySem.W.keepIn K (.ref f__law_corner) = true)
    (a__law_barred : PySem.W.nsIn K mainGlobals "_law_barred" = some (some (.ref f__law_barred)))
    (l__law_barred : K.lookup f__law_barred = some ⟨oc__law_barred, od__law_barred, .func (PySem.W.fnOf "_law_barred" "_law_barred" (defArgs s__law_barred) (defBody s__law_barred) (defScope s__law_barred) .none kV__law_barred dc__law_barred pm__law_barred an__law_barred cd__law_barred ct__law_barred), sl__law_barred⟩)
    (d__law_barred : PySem.W.codeIn K cd__law_barred "_law_barred" = true)
    (k__law_barred : PySem.W.keepIn K (.ref f__law_barred) = true)
    (a__law_point : PySem.W.nsIn K mainGlobals "_law_point" = some (some (.ref f__law_point)))
    (l__law_point : K.lookup f__law_point = some ⟨oc__law_point, od__law_point, .func (PySem.W.fnOf "_law_point" "_law_point" (defArgs s__law_point) (defBody s__law_point) (defScope s__law_point) .none kV__law_point dc__law_point pm__law_point an__law_point cd__law_point ct__law_point), sl__law_point⟩)
    (d__law_point : PySem.W.codeIn K cd__law_point "_law_point" = true)
    (k__law_point : PySem.W.keepIn K (.ref f__law_point) = true)
    (a__law_floor : PySem.W.nsIn K mainGlobals "_law_floor" = some (some (.ref f__law_floor)))
    (l__law_floor : K.lookup f__law_floor = some ⟨oc__law_floor, od__law_floor, .func (PySem.W.fnOf "_law_floor" "_law_floor" (defArgs s__law_floor) (defBody s__law_floor) (defScope s__law_floor) .none kV__law_floor dc__law_floor pm__law_floor an__law_floor cd__law_floor ct__law_floor), sl__law_floor⟩)
    (d__law_floor : PySem.W.codeIn K cd__law_floor "_law_floor" = true)
    (k__law_floor : PySem.W.keepIn K (.ref f__law_floor) = true)
    (a__law_negated : PySem.W.nsIn K mainGlobals "_law_negated" = some (some (.ref f__law_negated)))
    (l__law_negated : K.lookup f__law_negated = some ⟨oc__law_negated, od__law_negated, .func (PySem.W.fnOf "_law_negated" "_law_negated" (defArgs s__law_negated) (defBody s__law_negated) (defScope s__law_negated) .none kV__law_negated dc__law_negated pm__law_negated an__law_negated cd__law_negated ct__law_negated), sl__law_negated⟩)
    (d__law_negated : PySem.W.codeIn K cd__law_negated "_law_negated" = true)
    (k__law_negated : PySem.W.keepIn K (.ref f__law_negated) = true)
    (a__law_between : PySem.W.nsIn K mainGlobals "_law_between" = some (some (.ref f__law_between)))
    (l__law_between : K.lookup f__law_between = some ⟨oc__law_between, od__law_between, .func (PySem.W.fnOf "_law_between" "_law_between" (defArgs s__law_between) (defBody s__law_between) (defScope s__law_between) .none kV__law_between dc__law_between pm__law_between an__law_between cd__law_between ct__law_between), sl__law_between⟩)
    (d__law_between : PySem.W.codeIn K cd__law_between "_law_between" = true)
    (k__law_between : PySem.W.keepIn K (.ref f__law_between) = true)
    (a__law_tiles : PySem.W.nsIn K mainGlobals "_law_tiles" = some (some (.ref f__law_tiles)))
    (l__law_tiles : K.lookup f__law_tiles = some ⟨oc__law_tiles, od__law_tiles, .func (PySem.W.fnOf "_law_tiles" "_law_tiles" (defArgs s__law_tiles) (defBody s__law_tiles) (defScope s__law_tiles) .none kV__law_tiles dc__law_tiles pm__law_tiles an__law_tiles cd__law_tiles ct__law_tiles), sl__law_tiles⟩)
    (d__law_tiles : PySem.W.codeIn K cd__law_tiles "_law_tiles" = true)
    (k__law_tiles : PySem.W.keepIn K (.ref f__law_tiles) = true)
    (a__law_due : PySem.W.nsIn K mainGlobals "_law_due" = some (some (.ref f__law_due)))
    (l__law_due : K.lookup f__law_due = some ⟨oc__law_due, od__law_due, .func (PySem.W.fnOf "_law_due" "_law_due" (defArgs s__law_due) (defBody s__law_due) (defScope s__law_due) .none kV__law_due dc__law_due pm__law_due an__law_due cd__law_due ct__law_due), sl__law_due⟩)
    (d__law_due : PySem.W.codeIn K cd__law_due "_law_due" = true)
    (k__law_due : PySem.W.keepIn K (.ref f__law_due) = true)
    (a__law_heap : PySem.W.nsIn K mainGlobals "_law_heap" = some (some (.ref f__law_heap)))
    (l__law_heap : K.lookup f__law_heap = some ⟨oc__law_heap, od__law_heap, .func (PySem.W.fnOf "_law_heap" "_law_heap" (defArgs s__law_heap) (defBody s__law_heap) (defScope s__law_heap) .none kV__law_heap dc__law_heap pm__law_heap an__law_heap cd__law_heap ct__law_heap), sl__law_heap⟩)
    (d__law_heap : PySem.W.codeIn K cd__law_heap "_law_heap" = true)
    (k__law_heap : PySem.W.keepIn K (.ref f__law_heap) = true)
    (a_wrong_in_row : PySem.W.nsIn K mainGlobals "wrong_in_row" = some (some (.ref f_wrong_in_row)))
    (l_wrong_in_row : K.lookup f_wrong_in_row = some ⟨oc_wrong_in_row, od_wrong_in_row, .func (PySem.W.fnOf "wrong_in_row" "wrong_in_row" (defArgs s_wrong_in_row) (defBody s_wrong_in_row) (defScope s_wrong_in_row) .none kV_wrong_in_row dc_wrong_in_row pm_wrong_in_row an_wrong_in_row cd_wrong_in_row ct_wrong_in_row), sl_wrong_in_row⟩)
    (d_wrong_in_row : PySem.W.codeIn K cd_wrong_in_row "wrong_in_row" = true)
    (k_wrong_in_row : PySem.W.keepIn K (.ref f_wrong_in_row) = true)
    (a_check_heap : PySem.W.nsIn K mainGlobals "check_heap" = some (some (.ref f_check_heap)))
    (l_check_heap : K.lookup f_check_heap = some ⟨oc_check_heap, od_check_heap, .func (PySem.W.fnOf "check_heap" "check_heap" (defArgs s_check_heap) (defBody s_check_heap) (defScope s_check_heap) .none kV_check_heap dc_check_heap pm_check_heap an_check_heap cd_check_heap ct_check_heap), sl_check_heap⟩)
    (d_check_heap : PySem.W.codeIn K cd_check_heap "check_heap" = true)
    (k_check_heap : PySem.W.keepIn K (.ref f_check_heap) = true)
    (a_heap_moved : PySem.W.nsIn K mainGlobals "heap_moved" = some (some (.ref f_heap_moved)))
    (l_heap_moved : K.lookup f_heap_moved = some ⟨oc_heap_moved, od_heap_moved, .func (PySem.W.fnOf "heap_moved" "heap_moved" (defArgs s_heap_moved) (defBody s_heap_moved) (defScope s_heap_moved) .none kV_heap_moved dc_heap_moved pm_heap_moved an_heap_moved cd_heap_moved ct_heap_moved), sl_heap_moved⟩)
    (d_heap_moved : PySem.W.codeIn K cd_heap_moved "heap_moved" = true)
    (k_heap_moved : PySem.W.keepIn K (.ref f_heap_moved) = true)
    (a__law_no_tile : PySem.W.nsIn K mainGlobals "_law_no_tile" = some (some (.ref f__law_no_tile)))
    (l__law_no_tile : K.lookup f__law_no_tile = some ⟨oc__law_no_tile, od__law_no_tile, .func (PySem.W.fnOf "_law_no_tile" "_law_no_tile" (defArgs s__law_no_tile) (defBody s__law_no_tile) (defScope s__law_no_tile) .none kV__law_no_tile dc__law_no_tile pm__law_no_tile an__law_no_tile cd__law_no_tile ct__law_no_tile), sl__law_no_tile⟩)
    (d__law_no_tile : PySem.W.codeIn K cd__law_no_tile "_law_no_tile" = true)
    (k__law_no_tile : PySem.W.keepIn K (.ref f__law_no_tile) = true)
    (a__law_no_corner : PySem.W.nsIn K mainGlobals "_law_no_corner" = some (some (.ref f__law_no_corner)))
    (l__law_no_corner : K.lookup f__law_no_corner = some ⟨oc__law_no_corner, od__law_no_corner, .func (PySem.W.fnOf "_law_no_corner" "_law_no_corner" (defArgs s__law_no_corner) (defBody s__law_no_corner) (defScope s__law_no_corner) .none kV__law_no_corner dc__law_no_corner pm__law_no_corner an__law_no_corner cd__law_no_corner ct__law_no_corner), sl__law_no_corner⟩)
    (d__law_no_corner : PySem.W.codeIn K cd__law_no_corner "_law_no_corner" = true)
    (k__law_no_corner : PySem.W.keepIn K (.ref f__law_no_corner) = true)
    (a__law_asked : PySem.W.nsIn K mainGlobals "_law_asked" = some (some (.ref f__law_asked)))
    (l__law_asked : K.lookup f__law_asked = some ⟨oc__law_asked, od__law_asked, .func (PySem.W.fnOf "_law_asked" "_law_asked" (defArgs s__law_asked) (defBody s__law_asked) (defScope s__law_asked) .none kV__law_asked dc__law_asked pm__law_asked an__law_asked cd__law_asked ct__law_asked), sl__law_asked⟩)
    (d__law_asked : PySem.W.codeIn K cd__law_asked "_law_asked" = true)
    (k__law_asked : PySem.W.keepIn K (.ref f__law_asked) = true)
    (a__law_refuses : PySem.W.nsIn K mainGlobals "_law_refuses" = some (some (.ref f__law_refuses)))
    (l__law_refuses : K.lookup f__law_refuses = some ⟨oc__law_refuses, od__law_refuses, .func (PySem.W.fnOf "_law_refuses" "_law_refuses" (defArgs s__law_refuses) (defBody s__law_refuses) (defScope s__law_refuses) .none kV__law_refuses dc__law_refuses pm__law_refuses an__law_refuses cd__law_refuses ct__law_refuses), sl__law_refuses⟩)
    (d__law_refuses : PySem.W.codeIn K cd__law_refuses "_law_refuses" = true)
    (k__law_refuses : PySem.W.keepIn K (.ref f__law_refuses) = true)
    (a_law : PySem.W.nsIn K mainGlobals "law" = some (some (.ref f_law)))
    (l_law : K.lookup f_law = some ⟨oc_law, od_law, .func (PySem.W.fnOf "law" "law" (defArgs s_law) (defBody s_law) (defScope s_law) .none kV_law dc_law pm_law an_law cd_law ct_law), sl_law⟩)
    (d_law : PySem.W.codeIn K cd_law "law" = true)
    (k_law : PySem.W.keepIn K (.ref f_law) = true)
    : ∃ fd : FuncData, (∀ (s : Shared) (v : Value), BindsTo s fd ⟨[v], []⟩ [("script", v)]) ∧ ∀ base : Heap, K.In base → base.Ns mainGlobals mg → FnOk P w K mg base (L2.CX P w) 9 fa fd ["script"] (spTop K) := by
  have e := hfa.symm.trans (PySem.W.mg_of X G a_law)
  cases e
  have M : ∀ {n : Str} {v : Value}, PySem.W.nsIn K mainGlobals n = some (some v) → mg n = some v := fun h => PySem.W.mg_of X G h
  have O : ∀ {n : Str}, PySem.W.nsIn K mainGlobals n = some none → mg n = none := fun h => PySem.W.mg_none_of X G h
  have T : Txt (⟨K, c_FloorError, c_BadCorner, c_BadHeap⟩ : Zs) mg :=
    { g_MOST_TILES := (int_of gi_MOST_TILES).imp fun u h => ⟨M h.1, h.2⟩
      n_all := O r_all
      n_len := O r_len
      n_isinstance := O r_isinstance
      n_tuple := O r_tuple
      n_zip := O r_zip
      n_int := O r_int
      n_range := O r_range
      n_list := O r_list
      n_abs := O r_abs
      n_sorted := O r_sorted
      n_enumerate := O r_enumerate
      n_bool := O r_bool
      g_FloorError := M r_FloorError
      g_BadCorner := M r_BadCorner
      g_BadHeap := M r_BadHeap
      x_BadCorner := ⟨⟨nmBadCorner, qBadCorner, NBadCorner, bsBadCorner, _, snBadCorner, subBadCorner, abBadCorner, colBadCorner, ddBadCorner, m0BadCorner, m1BadCorner, m2BadCorner, m3BadCorner, m5BadCorner, e_L_BadCorner, rfl⟩, e_sa_BadCorner, e_e_BadCorner, e_t_BadCorner, e_k_BadCorner⟩
      xn_BadCorner := e_n_BadCorner
      xf_BadCorner := ⟨e_ga_BadCorner, e_gg_BadCorner, e_e_BadCorner, e_hd_BadCorner⟩
      xm_BadCorner := exm_mk e_e_BadCorner e_ic_BadCorner e_t_BadCorner e_s_BadCorner
      x_BadHeap := ⟨⟨nmBadHeap, qBadHeap, NBadHeap, bsBadHeap, _, snBadHeap, subBadHeap, abBadHeap, colBadHeap, ddBadHeap, m0BadHeap, m1BadHeap, m2BadHeap, m3BadHeap, m5BadHeap, e_L_BadHeap, rfl⟩, e_sa_BadHeap, e_e_BadHeap, e_t_BadHeap, e_k_BadHeap⟩
      xn_BadHeap := e_n_BadHeap
      xf_BadHeap := ⟨e_ga_BadHeap, e_gg_BadHeap, e_e_BadHeap, e_hd_BadHeap⟩
      xm_BadHeap := exm_mk e_e_BadHeap e_ic_BadHeap e_t_BadHeap e_s_BadHeap
      xo_BadCorner_BadHeap := exm_no e_e_BadHeap e_ic_BadHeap e_t_BadHeap e_o_BadCorner_BadHeap
      xo_BadHeap_BadCorner := exm_no e_e_BadCorner e_ic_BadCorner e_t_BadCorner e_o_BadHeap_BadCorner
    }
  have F_is_integral := fun_mk (st := s_is_integral) l_is_integral d_is_integral k_is_integral
  have B_is_integral := F_is_integral.binds (ps := ["thing"]) fun _ _ _ _ _ _ us hl => match us, hl with | [_], _ => rfl
  have F_BadCorner_init := fun_mk (st := s_BadCorner_init) l_BadCorner_init d_BadCorner_init k_BadCorner_init
  have B_BadCorner_init := F_BadCorner_init.binds (ps := ["self", "corner"]) fun _ _ _ _ _ _ us hl => match us, hl with | [_, _], _ => rfl
  have F_BadHeap_init := fun_mk (st := s_BadHeap_init) l_BadHeap_init d_BadHeap_init k_BadHeap_init
  have B_BadHeap_init := F_BadHeap_init.binds (ps := ["self", "index"]) fun _ _ _ _ _ _ us hl => match us, hl with | [_, _], _ => rfl
  have F_is_corner := fun_mk (st := s_is_corner) l_is_corner d_is_corner k_is_corner
  have B_is_corner := F_is_corner.binds (ps := ["thing"]) fun _ _ _ _ _ _ us hl => match us, hl with | [_], _ => rfl
  have F_check_corner := fun_mk (st := s_check_corner) l_check_corner d_check_corner k_check_corner
  have B_check_corner := F_check_corner.binds (ps := ["corner"]) fun _ _ _ _ _ _ us hl => match us, hl with | [_], _ => rfl
  have F_is_tile := fun_mk (st := s_is_tile) l_is_tile d_is_tile k_is_tile
  have B_is_tile := F_is_tile.binds (ps := ["thing"]) fun _ _ _ _ _ _ us hl => match us, hl with | [_], _ => rfl
  have F_plus := fun_mk (st := s_plus) l_plus d_plus k_plus
  have B_plus := F_plus.binds (ps := ["one", "other"]) fun _ _ _ _ _ _ us hl => match us, hl with | [_, _], _ => rfl
  have F_moved_tiles := fun_mk (st := s_moved_tiles) l_moved_tiles d_moved_tiles k_moved_tiles
  have B_moved_tiles := F_moved_tiles.binds (ps := ["heap", "v"]) fun _ _ _ _ _ _ us hl => match us, hl with | [_, _], _ => rfl
  have F__law_sign := fun_mk (st := s__law_sign) l__law_sign d__law_sign k__law_sign
  have B__law_sign := F__law_sign.binds (ps := ["p", "q"]) fun _ _ _ _ _ _ us hl => match us, hl with | [_, _], _ => rfl
  have F__law_sum := fun_mk (st := s__law_sum) l__law_sum d__law_sum k__law_sum
  have B__law_sum := F__law_sum.binds (ps := ["one", "other"]) fun _ _ _ _ _ _ us hl => match us, hl with | [_, _], _ => rfl
  have F__law_less := fun_mk (st := s__law_less) l__law_less d__law_less k__law_less
  have B__law_less := F__law_less.binds (ps := ["one", "other"]) fun _ _ _ _ _ _ us hl => match us, hl with | [_, _], _ => rfl
  have F__law_star := fun_mk (st := s__law_star) l__law_star d__law_star k__law_star
  have B__law_star := F__law_star.binds (ps := ["corner", "half"]) fun _ _ _ _ _ _ us hl => match us, hl with | [_, _], _ => rfl
  have F__law_within := fun_mk (st := s__law_within) l__law_within d__law_within k__law_within
  have B__law_within := F__law_within.binds (ps := ["p", "q", "wide", "odd"]) fun _ _ _ _ _ _ us hl => match us, hl with | [_, _, _, _], _ => rfl
  have F__law_in_window := fun_mk (st := s__law_in_window) l__law_in_window d__law_in_window k__law_in_window
  have B__law_in_window := F__law_in_window.binds (ps := ["point", "half"]) fun _ _ _ _ _ _ us hl => match us, hl with | [_, _], _ => rfl
  have F__law_has := fun_mk (st := s__law_has) l__law_has d__law_has k__law_has
  have B__law_has := F__law_has.binds (ps := ["floor", "corner"]) fun _ _ _ _ _ _ us hl => match us, hl with | [_, _], _ => rfl
  have F__law_next := fun_mk (st := s__law_next) l__law_next d__law_next k__law_next
  have B__law_next := F__law_next.binds (ps := ["corner", "direction"]) fun _ _ _ _ _ _ us hl => match us, hl with | [_, _], _ => rfl
  have F__law_sides := fun_mk (st := s__law_sides) l__law_sides d__law_sides k__law_sides
  have B__law_sides := F__law_sides.binds (ps := ["floor", "corner"]) fun _ _ _ _ _ _ us hl => match us, hl with | [_, _], _ => rfl
  have F__law_draw := fun_mk (st := s__law_draw) l__law_draw d__law_draw k__law_draw
  have B__law_draw := F__law_draw.binds (ps := ["pool", "many"]) fun _ _ _ _ _ _ us hl => match us, hl with | [_, _], _ => rfl
  have F__law_pool := fun_mk (st := s__law_pool) l__law_pool d__law_pool k__law_pool
  have B__law_pool := F__law_pool.binds (ps := ["script"]) fun _ _ _ _ _ _ us hl => match us, hl with | [_], _ => rfl
  have F__law_great := fun_mk (st := s__law_great) l__law_great d__law_great k__law_great
  have B__law_great := F__law_great.binds (ps := ["pool", "digits"]) fun _ _ _ _ _ _ us hl => match us, hl with | [_, _], _ => rfl
  have F__law_corner := fun_mk (st := s__law_corner) l__law_corner d__law_corner k__law_corner
  have B__law_corner := F__law_corner.binds (ps := ["pool", "far"]) fun _ _ _ _ _ _ us hl => match us, hl with | [_, _], _ => rfl
  have F__law_barred := fun_mk (st := s__law_barred) l__law_barred d__law_barred k__law_barred
  have B__law_barred := F__law_barred.binds (ps := ["shift", "half"]) fun _ _ _ _ _ _ us hl => match us, hl with | [_, _], _ => rfl
  have F__law_point := fun_mk (st := s__law_point) l__law_point d__law_point k__law_point
  have B__law_point := F__law_point.binds (ps := ["pool", "half"]) fun _ _ _ _ _ _ us hl => match us, hl with | [_, _], _ => rfl
  have F__law_floor := fun_mk (st := s__law_floor) l__law_floor d__law_floor k__law_floor
  have B__law_floor := F__law_floor.binds (ps := ["pool", "corner"]) fun _ _ _ _ _ _ us hl => match us, hl with | [_, _], _ => rfl
  have F__law_negated := fun_mk (st := s__law_negated) l__law_negated d__law_negated k__law_negated
  have B__law_negated := F__law_negated.binds (ps := ["point"]) fun _ _ _ _ _ _ us hl => match us, hl with | [_], _ => rfl
  have F__law_between := fun_mk (st := s__law_between) l__law_between d__law_between k__law_between
  have B__law_between := F__law_between.binds (ps := ["corner", "one", "other"]) fun _ _ _ _ _ _ us hl => match us, hl with | [_, _, _], _ => rfl
  have F__law_tiles := fun_mk (st := s__law_tiles) l__law_tiles d__law_tiles k__law_tiles
  have B__law_tiles := F__law_tiles.binds (ps := ["pool"]) fun _ _ _ _ _ _ us hl => match us, hl with | [_], _ => rfl
  have F__law_due := fun_mk (st := s__law_due) l__law_due d__law_due k__law_due
  have B__law_due := F__law_due.binds (ps := ["heap", "v"]) fun _ _ _ _ _ _ us hl => match us, hl with | [_, _], _ => rfl
  have F__law_heap := fun_mk (st := s__law_heap) l__law_heap d__law_heap k__law_heap
  have B__law_heap := F__law_heap.binds (ps := ["pool", "floor", "corner", "many"]) fun _ _ _ _ _ _ us hl => match us, hl with | [_, _, _, _], _ => rfl
  have F_wrong_in_row := fun_mk (st := s_wrong_in_row) l_wrong_in_row d_wrong_in_row k_wrong_in_row
  have B_wrong_in_row := F_wrong_in_row.binds (ps := ["row", "most"]) fun _ _ _ _ _ _ us hl => match us, hl with | [_, _], _ => rfl
  have F_check_heap := fun_mk (st := s_check_heap) l_check_heap d_check_heap k_check_heap
  have B_check_heap := F_check_heap.binds (ps := ["heap"]) fun _ _ _ _ _ _ us hl => match us, hl with | [_], _ => rfl
  have F_heap_moved := fun_mk (st := s_heap_moved) l_heap_moved d_heap_moved k_heap_moved
  have B_heap_moved := F_heap_moved.binds (ps := ["heap", "v"]) fun _ _ _ _ _ _ us hl => match us, hl with | [_, _], _ => rfl
  have F__law_no_tile := fun_mk (st := s__law_no_tile) l__law_no_tile d__law_no_tile k__law_no_tile
  have B__law_no_tile := F__law_no_tile.binds (ps := ["pool", "tile"]) fun _ _ _ _ _ _ us hl => match us, hl with | [_, _], _ => rfl
  have F__law_no_corner := fun_mk (st := s__law_no_corner) l__law_no_corner d__law_no_corner k__law_no_corner
  have B__law_no_corner := F__law_no_corner.binds (ps := ["pool", "corner"]) fun _ _ _ _ _ _ us hl => match us, hl with | [_, _], _ => rfl
  have F__law_asked := fun_mk (st := s__law_asked) l__law_asked d__law_asked k__law_asked
  have B__law_asked := F__law_asked.binds (ps := ["heap", "v"]) fun _ _ _ _ _ _ us hl => match us, hl with | [_, _], _ => rfl
  have F__law_refuses := fun_mk (st := s__law_refuses) l__law_refuses d__law_refuses k__law_refuses
  have B__law_refuses := F__law_refuses.binds (ps := ["pool", "heap", "v"]) fun _ _ _ _ _ _ us hl => match us, hl with | [_, _, _], _ => rfl
  have F_law := fun_mk (st := s_law) l_law d_law k_law
  refine ⟨PySem.W.fnOf "law" "law" (defArgs s_law) (defBody s_law) (defScope s_law) .none kV_law dc_law pm_law an_law cd_law ct_law, fun s v => .of_eq rfl, fun base _ _ => ?_⟩
  have h_is_integral := ok_is_integral (P := P) (w := w) (base := base) T  ⟨_, _, F_is_integral, B_is_integral, M a_is_integral⟩
  have h_BadCorner := ok_BadCorner_init (P := P) (w := w) (base := base) T  ⟨_, _, F_BadCorner_init, B_BadCorner_init, M r_BadCorner, a_BadCorner_init, t_BadCorner_init⟩
  have h_BadHeap := ok_BadHeap_init (P := P) (w := w) (base := base) T  ⟨_, _, F_BadHeap_init, B_BadHeap_init, M r_BadHeap, a_BadHeap_init, t_BadHeap_init⟩
  have h_is_corner := ok_is_corner (P := P) (w := w) (base := base) T h_is_integral ⟨_, _, F_is_corner, B_is_corner, M a_is_corner⟩
  have h_check_corner := ok_check_corner (P := P) (w := w) (base := base) T h_is_corner h_BadCorner ⟨_, _, F_check_corner, B_check_corner, M a_check_corner⟩
  have h_is_tile := ok_is_tile (P := P) (w := w) (base := base) T h_is_integral h_is_corner ⟨_, _, F_is_tile, B_is_tile, M a_is_tile⟩
  have h_plus := ok_plus (P := P) (w := w) (base := base) T  ⟨_, _, F_plus, B_plus, M a_plus⟩
  have h_moved_tiles := ok_moved_tiles (P := P) (w := w) (base := base) T h_plus ⟨_, _, F_moved_tiles, B_moved_tiles, M a_moved_tiles⟩
  have h__law_sign := ok__law_sign (P := P) (w := w) (base := base) T  ⟨_, _, F__law_sign, B__law_sign, M a__law_sign⟩
  have h__law_sum := ok__law_sum (P := P) (w := w) (base := base) T  ⟨_, _, F__law_sum, B__law_sum, M a__law_sum⟩
  have h__law_less := ok__law_less (P := P) (w := w) (base := base) T  ⟨_, _, F__law_less, B__law_less, M a__law_less⟩
  have h__law_star := ok__law_star (P := P) (w := w) (base := base) T  ⟨_, _, F__law_star, B__law_star, M a__law_star⟩
  have h__law_within := ok__law_within (P := P) (w := w) (base := base) T h__law_sign ⟨_, _, F__law_within, B__law_within, M a__law_within⟩
  have h__law_in_window := ok__law_in_window (P := P) (w := w) (base := base) T h__law_within ⟨_, _, F__law_in_window, B__law_in_window, M a__law_in_window⟩
  have h__law_has := ok__law_has (P := P) (w := w) (base := base) T h__law_in_window h__law_less h__law_star ⟨_, _, F__law_has, B__law_has, M a__law_has⟩
  have h__law_next := ok__law_next (P := P) (w := w) (base := base) T  ⟨_, _, F__law_next, B__law_next, M a__law_next⟩
  have h__law_sides := ok__law_sides (P := P) (w := w) (base := base) T h__law_has h__law_next ⟨_, _, F__law_sides, B__law_sides, M a__law_sides⟩
  have h__law_draw := ok__law_draw (P := P) (w := w) (base := base) T  ⟨_, _, F__law_draw, B__law_draw, M a__law_draw⟩
  have h__law_pool := ok__law_pool (P := P) (w := w) (base := base) T  ⟨_, _, F__law_pool, B__law_pool, M a__law_pool⟩
  have h__law_great := ok__law_great (P := P) (w := w) (base := base) T h__law_draw ⟨_, _, F__law_great, B__law_great, M a__law_great⟩
  have h__law_corner := ok__law_corner (P := P) (w := w) (base := base) T h__law_draw h__law_great ⟨_, _, F__law_corner, B__law_corner, M a__law_corner⟩
  have h__law_barred := ok__law_barred (P := P) (w := w) (base := base) T  ⟨_, _, F__law_barred, B__law_barred, M a__law_barred⟩
  have h__law_point := ok__law_point (P := P) (w := w) (base := base) T h__law_in_window h__law_draw ⟨_, _, F__law_point, B__law_point, M a__law_point⟩
  have h__law_floor := ok__law_floor (P := P) (w := w) (base := base) T h__law_less h__law_star h__law_barred h__law_point h__law_draw ⟨_, _, F__law_floor, B__law_floor, M a__law_floor⟩
  have h__law_negated := ok__law_negated (P := P) (w := w) (base := base) T  ⟨_, _, F__law_negated, B__law_negated, M a__law_negated⟩
  have h__law_between := ok__law_between (P := P) (w := w) (base := base) T h__law_next ⟨_, _, F__law_between, B__law_between, M a__law_between⟩
  have h__law_tiles := ok__law_tiles (P := P) (w := w) (base := base) T h__law_draw h__law_corner ⟨_, _, F__law_tiles, B__law_tiles, M a__law_tiles⟩
  have h__law_due := ok__law_due (P := P) (w := w) (base := base) T h__law_sum ⟨_, _, F__law_due, B__law_due, M a__law_due⟩
  have h__law_heap := ok__law_heap (P := P) (w := w) (base := base) T h__law_draw h__law_next h__law_between h__law_sides ⟨_, _, F__law_heap, B__law_heap, M a__law_heap⟩
  have h_wrong_in_row := ok_wrong_in_row (P := P) (w := w) (base := base) T h_is_tile ⟨_, _, F_wrong_in_row, B_wrong_in_row, M a_wrong_in_row⟩
  have h_check_heap := ok_check_heap (P := P) (w := w) (base := base) T h_BadHeap h_wrong_in_row ⟨_, _, F_check_heap, B_check_heap, M a_check_heap⟩
  have h_heap_moved := ok_heap_moved (P := P) (w := w) (base := base) T h_moved_tiles h_check_corner h_check_heap ⟨_, _, F_heap_moved, B_heap_moved, M a_heap_moved⟩
  have h__law_no_tile := ok__law_no_tile (P := P) (w := w) (base := base) T h__law_draw ⟨_, _, F__law_no_tile, B__law_no_tile, M a__law_no_tile⟩
  have h__law_no_corner := ok__law_no_corner (P := P) (w := w) (base := base) T h__law_draw ⟨_, _, F__law_no_corner, B__law_no_corner, M a__law_no_corner⟩
  have h__law_asked := ok__law_asked (P := P) (w := w) (base := base) T h_heap_moved ⟨_, _, F__law_asked, B__law_asked, M a__law_asked⟩
  have h__law_refuses := ok__law_refuses (P := P) (w := w) (base := base) T h__law_asked h__law_draw h__law_no_tile h__law_no_corner ⟨_, _, F__law_refuses, B__law_refuses, M a__law_refuses⟩
  exact (ok_law (P := P) (w := w) (base := base) T h__law_refuses h_heap_moved h__law_negated h__law_sum h__law_corner h__law_due h__law_draw h__law_heap h__law_floor h__law_tiles h__law_pool F_law).imp fun vs H Q E hs => hs
theorem q_gi_MOST_TILES {K : PySem.W.Frag} (hb : (bsK K).all id = true) : isIntV (PySem.W.nsIn K mainGlobals "MOST_TILES") 40 = true := dok (nthB hb 0)
theorem q_r_FloorError {K : PySem.W.Frag} (hb : (bsK K).all id = true) : PySem.W.nsIn K mainGlobals "FloorError" = some (some (.ref (A_c_FloorError K))) := isR_ok (nthB hb 1)
theorem q_r_BadCorner {K : PySem.W.Frag} (hb : (bsK K).all id = true) : PySem.W.nsIn K mainGlobals "BadCorner" = some (some (.ref (A_c_BadCorner K))) := isR_ok (nthB hb 2)
theorem q_r_BadHeap {K : PySem.W.Frag} (hb : (bsK K).all id = true) : PySem.W.nsIn K mainGlobals "BadHeap" = some (some (.ref (A_c_BadHeap K))) := isR_ok (nthB hb 3)
theorem q_r_all {K : PySem.W.Frag} (hb : (bsK K).all id = true) : PySem.W.nsIn K mainGlobals "all" = some none := dok (nthB hb 4)
theorem q_r_len {K : PySem.W.Frag} (hb : (bsK K).all id = true) : PySem.W.nsIn K mainGlobals "len" = some none := dok (nthB hb 5)
theorem q_r_isinstance {K : PySem.W.Frag} (hb : (bsK K).all id = true) : PySem.W.nsIn K mainGlobals "isinstance" = some none := dok (nthB hb 6)
theorem q_r_tuple {K : PySem.W.Frag} (hb : (bsK K).all id = true) : PySem.W.nsIn K mainGlobals "tuple" = some none := dok (nthB hb 7)
theorem q_r_zip {K : PySem.W.Frag} (hb : (bsK K).all id = true) : PySem.W.nsIn K mainGlobals "zip" = some none := dok (nthB hb 8)
theorem q_r_int {K : PySem.W.Frag} (hb : (bsK K).all id = true) : PySem.W.nsIn K mainGlobals "int" = some none := dok (nthB hb 9)
theorem q_r_range {K : PySem.W.Frag} (hb : (bsK K).all id = true) : PySem.W.nsIn K mainGlobals "range" = some none := dok (nthB hb 10)
theorem q_r_list {K : PySem.W.Frag} (hb : (bsK K).all id = true) : PySem.W.nsIn K mainGlobals "list" = some none := dok (nthB hb 11)
theorem q_r_abs {K : PySem.W.Frag} (hb : (bsK K).all id = true) : PySem.W.nsIn K mainGlobals "abs" = some none := dok (nthB hb 12)
theorem q_r_sorted {K : PySem.W.Frag} (hb : (bsK K).all id = true) : PySem.W.nsIn K mainGlobals "sorted" = some none := dok (nthB hb 13)
theorem q_r_enumerate {K : PySem.W.Frag} (hb : (bsK K).all id = true) : PySem.W.nsIn K mainGlobals "enumerate" = some none := dok (nthB hb 14)
theorem q_r_bool {K : PySem.W.Frag} (hb : (bsK K).all id = true) : PySem.W.nsIn K mainGlobals "bool" = some none := dok (nthB hb 15)
theorem q_e_sa_BadCorner {K : PySem.W.Frag} (hb : (bsK K).all id = true) : PySem.W.findIn K (.ref (A_c_BadCorner K)) "__setattr__" = some (some (.builtin "object.__setattr__")) := dok (nthB hb 17)
theorem q_e_e_BadCorner {K : PySem.W.Frag} (hb : (bsK K).all id = true) : PySem.W.mroIn K (A_c_BadCorner K) (.type "BaseException") = some true := dok (nthB hb 18)
theorem q_e_t_BadCorner {K : PySem.W.Frag} (hb : (bsK K).all id = true) : PySem.W.typeIn K (.ref (A_c_BadCorner K)) = some (.type "type") := dok (nthB hb 19)
theorem q_e_k_BadCorner {K : PySem.W.Frag} (hb : (bsK K).all id = true) : PySem.W.keepIn K (.ref (A_c_BadCorner K)) = true := dok (nthB hb 20)
theorem q_e_n_BadCorner {K : PySem.W.Frag} (hb : (bsK K).all id = true) : PySem.W.findIn K (.ref (A_c_BadCorner K)) "corner" = some none := dok (nthB hb 21)
theorem q_e_ga_BadCorner {K : PySem.W.Frag} (hb : (bsK K).all id = true) : PySem.W.findIn K (.ref (A_c_BadCorner K)) "__getattribute__" = some (some (.builtin "BaseException.__getattribute__")) := dok (nthB hb 22)
theorem q_e_gg_BadCorner {K : PySem.W.Frag} (hb : (bsK K).all id = true) : PySem.W.findIn K (.ref (A_c_BadCorner K)) "__getattr__" = some none := dok (nthB hb 23)
theorem q_e_hd_BadCorner {K : PySem.W.Frag} (hb : (bsK K).all id = true) : PySem.W.hasDictIn K (A_c_BadCorner K) = true := dok (nthB hb 24)
theorem q_e_ic_BadCorner {K : PySem.W.Frag} (hb : (bsK K).all id = true) : PySem.W.isClsIn K (A_c_BadCorner K) = true := dok (nthB hb 25)
theorem q_e_s_BadCorner {K : PySem.W.Frag} (hb : (bsK K).all id = true) : PySem.W.mroIn K (A_c_BadCorner K) (.ref (A_c_BadCorner K)) = some true := dok (nthB hb 26)
theorem q_e_sa_BadHeap {K : PySem.W.Frag} (hb : (bsK K).all id = true) : PySem.W.findIn K (.ref (A_c_BadHeap K)) "__setattr__" = some (some (.builtin "object.__setattr__")) := dok (nthB hb 28)
theorem q_e_e_BadHeap {K : PySem.W.Frag} (hb : (bsK K).all id = true) : PySem.W.mroIn K (A_c_BadHeap K) (.type "BaseException") = some true := dok (nthB hb 29)
theorem q_e_t_BadHeap {K : PySem.W.Frag} (hb : (bsK K).all id = true) : PySem.W.typeIn K (.ref (A_c_BadHeap K)) = some (.type "type") := dok (nthB hb 30)
theorem q_e_k_BadHeap {K : PySem.W.Frag} (hb : (bsK K).all id = true) : PySem.W.keepIn K (.ref (A_c_BadHeap K)) = true := dok (nthB hb 31)
theorem q_e_n_BadHeap {K : PySem.W.Frag} (hb : (bsK K).all id = true) : PySem.W.findIn K (.ref (A_c_BadHeap K)) "index" = some none := dok (nthB hb 32)
theorem q_e_ga_BadHeap {K : PySem.W.Frag} (hb : (bsK K).all id = true) : PySem.W.findIn K (.ref (A_c_BadHeap K)) "__getattribute__" = some (some (.builtin "BaseException.__getattribute__")) := dok (nthB hb 33)
theorem q_e_gg_BadHeap {K : PySem.W.Frag} (hb : (bsK K).all id = true) : PySem.W.findIn K (.ref (A_c_BadHeap K)) "__getattr__" = some none := dok (nthB hb 34)
theorem q_e_hd_BadHeap {K : PySem.W.Frag} (hb : (bsK K).all id = true) : PySem.W.hasDictIn K (A_c_BadHeap K) = true := dok (nthB hb 35)
theorem q_e_ic_BadHeap {K : PySem.W.Frag} (hb : (bsK K).all id = true) : PySem.W.isClsIn K (A_c_BadHeap K) = true := dok (nthB hb 36)
theorem q_e_s_BadHeap {K : PySem.W.Frag} (hb : (bsK K).all id = true) : PySem.W.mroIn K (A_c_BadHeap K) (.ref (A_c_BadHeap K)) = some true := dok (nthB hb 37)
theorem q_e_o_BadCorner_BadHeap {K : PySem.W.Frag} (hb : (bsK K).all id = true) : PySem.W.mroIn K (A_c_BadCorner K) (.ref (A_c_BadHeap K)) = some false := dok (nthB hb 38)
theorem q_e_o_BadHeap_BadCorner {K : PySem.W.Frag} (hb : (bsK K).all id = true) : PySem.W.mroIn K (A_c_BadHeap K) (.ref (A_c_BadCorner K)) = some false := dok (nthB hb 39)
theorem q_a_is_integral {K : PySem.W.Frag} (hb : (bsK K).all id = true) : PySem.W.nsIn K mainGlobals "is_integral" = some (some (.ref (A_f_is_integral K))) := isR_ok (nthB hb 40)
theorem q_d_is_integral {K : PySem.W.Frag} (hb : (bsK K).all id = true) : PySem.W.codeIn K (fdK K (A_f_is_integral K)).code "is_integral" = true := dok (nthB hb 41)
theorem q_k_is_integral {K : PySem.W.Frag} (hb : (bsK K).all id = true) : PySem.W.keepIn K (.ref (A_f_is_integral K)) = true := dok (nthB hb 42)
theorem q_a_BadCorner_init {K : PySem.W.Frag} (hb : (bsK K).all id = true) : PySem.W.findIn K (.ref (A_c_BadCorner K)) "__init__" = some (some (.ref (A_f_BadCorner_init K))) := isR_ok (nthB hb 43)
theorem q_t_BadCorner_init {K : PySem.W.Frag} (hb : (bsK K).all id = true) : PySem.W.typeIn K (.ref (A_f_BadCorner_init K)) = some (.type "function") := dok (nthB hb 44)
theorem q_d_BadCorner_init {K : PySem.W.Frag} (hb : (bsK K).all id = true) : PySem.W.codeIn K (fdK K (A_f_BadCorner_init K)).code "BadCorner.__init__" = true := dok (nthB hb 45)
theorem q_k_BadCorner_init {K : PySem.W.Frag} (hb : (bsK K).all id = true) : PySem.W.keepIn K (.ref (A_f_BadCorner_init K)) = true := dok (nthB hb 46)
theorem q_a_BadHeap_init {K : PySem.W.Frag} (hb : (bsK K).all id = true) : PySem.W.findIn K (.ref (A_c_BadHeap K)) "__init__" = some (some (.ref (A_f_BadHeap_init K))) := isR_ok (nthB hb 47)
theorem q_t_BadHeap_init {K : PySem.W.Frag} (hb : (bsK K).all id = true) : PySem.W.typeIn K (.ref (A_f_BadHeap_init K)) = some (.type "function") := dok (nthB hb 48)
theorem q_d_BadHeap_init {K : PySem.W.Frag} (hb : (bsK K).all id = true) : PySem.W.codeIn K (fdK K (A_f_BadHeap_init K)).code "BadHeap.__init__" = true := dok (nthB hb 49)
theorem q_k_BadHeap_init {K : PySem.W.Frag} (hb : (bsK K).all id = true) : PySem.W.keepIn K (.ref (A_f_BadHeap_init K)) = true := dok (nthB hb 50)
theorem q_a_is_corner {K : PySem.W.Frag} (hb : (bsK K).all id = true) : PySem.W.nsIn K mainGlobals "is_corner" = some (some (.ref (A_f_is_corner K))) := isR_ok (nthB hb 51)
theorem q_d_is_corner {K : PySem.W.Frag} (hb : (bsK K).all id = true) : PySem.W.codeIn K (fdK K (A_f_is_corner K)).code "is_corner" = true := dok (nthB hb 52)
theorem q_k_is_corner {K : PySem.W.Frag} (hb : (bsK K).all id = true) : PySem.W.keepIn K (.ref (A_f_is_corner K)) = true := dok (nthB hb 53)
theorem q_a_check_corner {K : PySem.W.Frag} (hb : (bsK K).all id = true) : PySem.W.nsIn K mainGlobals "check_corner" = some (some (.ref (A_f_check_corner K))) := isR_ok (nthB hb 54)
theorem q_d_check_corner {K : PySem.W.Frag} (hb : (bsK K).all id = true) : PySem.W.codeIn K (fdK K (A_f_check_corner K)).code "check_corner" = true := dok (nthB hb 55)
theorem q_k_check_corner {K : PySem.W.Frag} (hb : (bsK K).all id = true) : PySem.W.keepIn K (.ref (A_f_check_corner K)) = true := dok (nthB hb 56)
theorem q_a_is_tile {K : PySem.W.Frag} (hb : (bsK K).all id = true) : PySem.W.nsIn K mainGlobals "is_tile" = some (some (.ref (A_f_is_tile K))) := isR_ok (nthB hb 57)
theorem q_d_is_tile {K : PySem.W.Frag} (hb : (bsK K).all id = true) : PySem.W.codeIn K (fdK K (A_f_is_tile K)).code "is_tile" = true := dok (nthB hb 58)
theorem q_k_is_tile {K : PySem.W.Frag} (hb : (bsK K).all id = true) : PySem.W.keepIn K (.ref (A_f_is_tile K)) = true := dok (nthB hb 59)
theorem q_a_plus {K : PySem.W.Frag} (hb : (bsK K).all id = true) : PySem.W.nsIn K mainGlobals "plus" = some (some (.ref (A_f_plus K))) := isR_ok (nthB hb 60)
theorem q_d_plus {K : PySem.W.Frag} (hb : (bsK K).all id = true) : PySem.W.codeIn K (fdK K (A_f_plus K)).code "plus" = true := dok (nthB hb 61)
theorem q_k_plus {K : PySem.W.Frag} (hb : (bsK K).all id = true) : PySem.W.keepIn K (.ref (A_f_plus K)) = true := dok (nthB hb 62)
theorem q_a_moved_tiles {K : PySem.W.Frag} (hb : (bsK K).all id = true) : PySem.W.nsIn K mainGlobals "moved_tiles" = some (some (.ref (A_f_moved_tiles K))) := isR_ok (nthB hb 63)
theorem q_d_moved_tiles {K : PySem.W.Frag} (hb : (bsK K).all id = true) : PySem.W.codeIn K (fdK K (A_f_moved_tiles K)).code "moved_tiles" = true := dok (nthB hb 64)
theorem q_k_moved_tiles {K : PySem.W.Frag} (hb : (bsK K).all id = true) : PySem.W.keepIn K (.ref (A_f_moved_tiles K)) = true := dok (nthB hb 65)
theorem q_a__law_sign {K : PySem.W.Frag} (hb : (bsK K).all id = true) : PySem.W.nsIn K mainGlobals "_law_sign" = some (some (.ref (A_f__law_sign K))) := isR_ok (nthB hb 66)
theorem q_d__law_sign {K : PySem.W.Frag} (hb : (bsK K).all id = true) : PySem.W.codeIn K (fdK K (A_f__law_sign K)).code "_law_sign" = true := dok (nthB hb 67)
theorem q_k__law_sign {K : PySem.W.Frag} (hb : (bsK K).all id = true) : PySem.W.keepIn K (.ref (A_f__law_sign K)) = true := dok (nthB hb 68)
theorem q_a__law_sum {K : PySem.W.Frag} (hb : (bsK K).all id = true) : PySem.W.nsIn K mainGlobals "_law_sum" = some (some (.ref (A_f__law_sum K))) := isR_ok (nthB hb 69)
theorem q_d__law_sum {K : PySem.W.Frag} (hb : (bsK K).all id = true) : PySem.W.codeIn K (fdK K (A_f__law_sum K)).code "_law_sum" = true := dok (nthB hb 70)
theorem q_k__law_sum {K : PySem.W.Frag} (hb : (bsK K).all id = true) : PySem.W.keepIn K (.ref (A_f__law_sum K)) = true := dok (nthB hb 71)
theorem q_a__law_less {K : PySem.W.Frag} (hb : (bsK K).all id = true) : PySem.W.nsIn K mainGlobals "_law_less" = some (some (.ref (A_f__law_less K))) := isR_ok (nthB hb 72)
theorem q_d__law_less {K : PySem.W.Frag} (hb : (bsK K).all id = true) : PySem.W.codeIn K (fdK K (A_f__law_less K)).code "_law_less" = true := dok (nthB hb 73)
theorem q_k__law_less {K : PySem.W.Frag} (hb : (bsK K).all id = true) : PySem.W.keepIn K (.ref (A_f__law_less K)) = true := dok (nthB hb 74)
theorem q_a__law_star {K : PySem.W.Frag} (hb : (bsK K).all id = true) : PySem.W.nsIn K mainGlobals "_law_star" = some (some (.ref (A_f__law_star K))) := isR_ok (nthB hb 75)
theorem q_d__law_star {K : PySem.W.Frag} (hb : (bsK K).all id = true) : PySem.W.codeIn K (fdK K (A_f__law_star K)).code "_law_star" = true := dok (nthB hb 76)
theorem q_k__law_star {K : PySem.W.Frag} (hb : (bsK K).all id = true) : PySem.W.keepIn K (.ref (A_f__law_star K)) = true := dok (nthB hb 77)
theorem q_a__law_within {K : PySem.W.Frag} (hb : (bsK K).all id = true) : PySem.W.nsIn K mainGlobals "_law_within" = some (some (.ref (A_f__law_within K))) := isR_ok (nthB hb 78)
theorem q_d__law_within {K : PySem.W.Frag} (hb : (bsK K).all id = true) : PySem.W.codeIn K (fdK K (A_f__law_within K)).code "_law_within" = true := dok (nthB hb 79)
theorem q_k__law_within {K : PySem.W.Frag} (hb : (bsK K).all id = true) : PySem.W.keepIn K (.ref (A_f__law_within K)) = true := dok (nthB hb 80)
theorem q_a__law_in_window {K : PySem.W.Frag} (hb : (bsK K).all id = true) : PySem.W.nsIn K mainGlobals "_law_in_window" = some (some (.ref (A_f__law_in_window K))) := isR_ok (nthB hb 81)
theorem q_d__law_in_window {K : PySem.W.Frag} (hb : (bsK K).all id = true) : PySem.W.codeIn K (fdK K (A_f__law_in_window K)).code "_law_in_window" = true := dok (nthB hb 82)
theorem q_k__law_in_window {K : PySem.W.Frag} (hb : (bsK K).all id = true) : PySem.W.keepIn K (.ref (A_f__law_in_window K)) = true := dok (nthB hb 83)
theorem q_a__law_has {K : PySem.W.Frag} (hb : (bsK K).all id = true) : PySem.W.nsIn K mainGlobals "_law_has" = some (some (.ref (A_f__law_has K))) := isR_ok (nthB hb 84)
theorem q_d__law_has {K : PySem.W.Frag} (hb : (bsK K).all id = true) : PySem.W.codeIn K (fdK K (A_f__law_has K)).code "_law_has" = true := dok (nthB hb 85)
theorem q_k__law_has {K : PySem.W.Frag} (hb : (bsK K).all id = true) : PySem.W.keepIn K (.ref (A_f__law_has K)) = true := dok (nthB hb 86)
theorem q_a__law_next {K : PySem.W.Frag} (hb : (bsK K).all id = true) : PySem.W.nsIn K mainGlobals "_law_next" = some (some (.ref (A_f__law_next K))) := isR_ok (nthB hb 87)
theorem q_d__law_next {K : PySem.W.Frag} (hb : (bsK K).all id = true) : PySem.W.codeIn K (fdK K (A_f__law_next K)).code "_law_next" = true := dok (nthB hb 88)
theorem q_k__law_next {K : PySem.W.Frag} (hb : (bsK K).all id = true) : PySem.W.keepIn K (.ref (A_f__law_next K)) = true := dok (nthB hb 89)
theorem q_a__law_sides {K : PySem.W.Frag} (hb : (bsK K).all id = true) : PySem.W.nsIn K mainGlobals "_law_sides" = some (some (.ref (A_f__law_sides K))) := isR_ok (nthB hb 90)
theorem q_d__law_sides {K : PySem.W.Frag} (hb : (bsK K).all id = true) : PySem.W.codeIn K (fdK K (A_f__law_sides K)).code "_law_sides" = true := dok (nthB hb 91)
theorem q_k__law_sides {K : PySem.W.Frag} (hb : (bsK K).all id = true) : PySem.W.keepIn K (.ref (A_f__law_sides K)) = true := dok (nthB hb 92)
theorem q_a__law_draw {K : PySem.W.Frag} (hb : (bsK K).all id = true) : PySem.W.nsIn K mainGlobals "_law_draw" = some (some (.ref (A_f__law_draw K))) := isR_ok (nthB hb 93)
theorem q_d__law_draw {K : PySem.W.Frag} (hb : (bsK K).all id = true) : PySem.W.codeIn K (fdK K (A_f__law_draw K)).code "_law_draw" = true := dok (nthB hb 94)
theorem q_k__law_draw {K : PySem.W.Frag} (hb : (bsK K).all id = true) : PySem.W.keepIn K (.ref (A_f__law_draw K)) = true := dok (nthB hb 95)
theorem q_a__law_pool {K : PySem.W.Frag} (hb : (bsK K).all id = true) : PySem.W.nsIn K mainGlobals "_law_pool" = some (some (.ref (A_f__law_pool K))) := isR_ok (nthB hb 96)
theorem q_d__law_pool {K : PySem.W.Frag} (hb : (bsK K).all id = true) : PySem.W.codeIn K (fdK K (A_f__law_pool K)).code "_law_pool" = true := dok (nthB hb 97)
theorem q_k__law_pool {K : PySem.W.Frag} (hb : (bsK K).all id = true) : PySem.W.keepIn K (.ref (A_f__law_pool K)) = true := dok (nthB hb 98)
theorem q_a__law_great {K : PySem.W.Frag} (hb : (bsK K).all id = true) : PySem.W.nsIn K mainGlobals "_law_great" = some (some (.ref (A_f__law_great K))) := isR_ok (nthB hb 99)
theorem q_d__law_great {K : PySem.W.Frag} (hb : (bsK K).all id = true) : PySem.W.codeIn K (fdK K (A_f__law_great K)).code "_law_great" = true := dok (nthB hb 100)
theorem q_k__law_great {K : PySem.W.Frag} (hb : (bsK K).all id = true) : PySem.W.keepIn K (.ref (A_f__law_great K)) = true := dok (nthB hb 101)
theorem q_a__law_corner {K : PySem.W.Frag} (hb : (bsK K).all id = true) : PySem.W.nsIn K mainGlobals "_law_corner" = some (some (.ref (A_f__law_corner K))) := isR_ok (nthB hb 102)
theorem q_d__law_corner {K : PySem.W.Frag} (hb : (bsK K).all id = true) : PySem.W.codeIn K (fdK K (A_f__law_corner K)).code "_law_corner" = true := dok (nthB hb 103)
theorem q_k__law_corner {K : PySem.W.Frag} (hb : (bsK K).all id = true) : PySem.W.keepIn K (.ref (A_f__law_corner K)) = true := dok (nthB hb 104)
theorem q_a__law_barred {K : PySem.W.Frag} (hb : (bsK K).all id = true) : PySem.W.nsIn K mainGlobals "_law_barred" = some (some (.ref (A_f__law_barred K))) := isR_ok (nthB hb 105)
theorem q_d__law_barred {K : PySem.W.Frag} (hb : (bsK K).all id = true) : PySem.W.codeIn K (fdK K (A_f__law_barred K)).code "_law_barred" = true := dok (nthB hb 106)
theorem q_k__law_barred {K : PySem.W.Frag} (hb : (bsK K).all id = true) : PySem.W.keepIn K (.ref (A_f__law_barred K)) = true := dok (nthB hb 107)
theorem q_a__law_point {K : PySem.W.Frag} (hb : (bsK K).all id = true) : PySem.W.nsIn K mainGlobals "_law_point" = some (some (.ref (A_f__law_point K))) := isR_ok (nthB hb 108)
theorem q_d__law_point {K : PySem.W.Frag} (hb : (bsK K).all id = true) : PySem.W.codeIn K (fdK K (A_f__law_point K)).code "_law_point" = true := dok (nthB hb 109)
theorem q_k__law_point {K : PySem.W.Frag} (hb : (bsK K).all id = true) : PySem.W.keepIn K (.ref (A_f__law_point K)) = true := dok (nthB hb 110)
theorem q_a__law_floor {K : PySem.W.Frag} (hb : (bsK K).all id = true) : PySem.W.nsIn K mainGlobals "_law_floor" = some (some (.ref (A_f__law_floor K))) := isR_ok (nthB hb 111)
theorem q_d__law_floor {K : PySem.W.Frag} (hb : (bsK K).all id = true) : PySem.W.codeIn K (fdK K (A_f__law_floor K)).code "_law_floor" = true := dok (nthB hb 112)
theorem q_k__law_floor {K : PySem.W.Frag} (hb : (bsK K).all id = true) : PySem.W.keepIn K (.ref (A_f__law_floor K)) = true := dok (nthB hb 113)
theorem q_a__law_negated {K : PySem.W.Frag} (hb : (bsK K).all id = true) : PySem.W.nsIn K mainGlobals "_law_negated" = some (some (.ref (A_f__law_negated K))) := isR_ok (nthB hb 114)
theorem q_d__law_negated {K : PySem.W.Frag} (hb : (bsK K).all id = true) : PySem.W.codeIn K (fdK K (A_f__law_negated K)).code "_law_negated" = true := dok (nthB hb 115)
theorem q_k__law_negated {K : PySem.W.Frag} (hb : (bsK K).all id = true) : PySem.W.keepIn K (.ref (A_f__law_negated K)) = true := dok (nthB hb 116)
theorem q_a__law_between {K : PySem.W.Frag} (hb : (bsK K).all id = true) : PySem.W.nsIn K mainGlobals "_law_between" = some (some (.ref (A_f__law_between K))) := isR_ok (nthB hb 117)
theorem q_d__law_between {K : PySem.W.Frag} (hb : (bsK K).all id = true) : PySem.W.codeIn K (fdK K (A_f__law_between K)).code "_law_between" = true := dok (nthB hb 118)
theorem q_k__law_between {K : PySem.W.Frag} (hb : (bsK K).all id = true) : PySem.W.keepIn K (.ref (A_f__law_between K)) = true := dok (nthB hb 119)
theorem q_a__law_tiles {K : PySem.W.Frag} (hb : (bsK K).all id = true) : PySem.W.nsIn K mainGlobals "_law_tiles" = some (some (.ref (A_f__law_tiles K))) := isR_ok (nthB hb 120)
theorem q_d__law_tiles {K : PySem.W.Frag} (hb : (bsK K).all id = true) : PySem.W.codeIn K (fdK K (A_f__law_tiles K)).code "_law_tiles" = true := dok (nthB hb 121)
theorem q_k__law_tiles {K : PySem.W.Frag} (hb : (bsK K).all id = true) : PySem.W.keepIn K (.ref (A_f__law_tiles K)) = true := dok (nthB hb 122)
theorem q_a__law_due {K : PySem.W.Frag} (hb : (bsK K).all id = true) : PySem.W.nsIn K mainGlobals "_law_due" = some (some (.ref (A_f__law_due K))) := isR_ok (nthB hb 123)
theorem q_d__law_due {K : PySem.W.Frag} (hb : (bsK K).all id = true) : PySem.W.codeIn K (fdK K (A_f__law_due K)).code "_law_due" = true := dok (nthB hb 124)
theorem q_k__law_due {K : PySem.W.Frag} (hb : (bsK K).all id = true) : PySem.W.keepIn K (.ref (A_f__law_due K)) = true := dok (nthB hb 125)
theorem q_a__law_heap {K : PySem.W.Frag} (hb : (bsK K).all id = true) : PySem.W.nsIn K mainGlobals "_law_heap" = some (some (.ref (A_f__law_heap K))) := isR_ok (nthB hb 126)
theorem q_d__law_heap {K : PySem.W.Frag} (hb : (bsK K).all id = true) : PySem.W.codeIn K (fdK K (A_f__law_heap K)).code "_law_heap" = true := dok (nthB hb 127)
theorem q_k__law_heap {K : PySem.W.Frag} (hb : (bsK K).all id = true) : PySem.W.keepIn K (.ref (A_f__law_heap K)) = true := dok (nthB hb 128)
theorem q_a_wrong_in_row {K : PySem.W.Frag} (hb : (bsK K).all id = true) : PySem.W.nsIn K mainGlobals "wrong_in_row" = some (some (.ref (A_f_wrong_in_row K))) := isR_ok (nthB hb 129)
theorem q_d_wrong_in_row {K : PySem.W.Frag} (hb : (bsK K).all id = true) : PySem.W.codeIn K (fdK K (A_f_wrong_in_row K)).code "wrong_in_row" = true := dok (nthB hb 130)
theorem q_k_wrong_in_row {K : PySem.W.Frag} (hb : (bsK K).all id = true) : PySem.W.keepIn K (.ref (A_f_wrong_in_row K)) = true := dok (nthB hb 131)
theorem q_a_check_heap {K : PySem.W.Frag} (hb : (bsK K).all id = true) : PySem.W.nsIn K mainGlobals "check_heap" = some (some (.ref (A_f_check_heap K))) := isR_ok (nthB hb 132)
theorem q_d_check_heap {K : PySem.W.Frag} (hb : (bsK K).all id = true) : PySem.W.codeIn K (fdK K (A_f_check_heap K)).code "check_heap" = true := dok (nthB hb 133)
theorem q_k_check_heap {K : PySem.W.Frag} (hb : (bsK K).all id = true) : PySem.W.keepIn K (.ref (A_f_check_heap K)) = true := dok (nthB hb 134)
theorem q_a_heap_moved {K : PySem.W.Frag} (hb : (bsK K).all id = true) : PySem.W.nsIn K mainGlobals "heap_moved" = some (some (.ref (A_f_heap_moved K))) := isR_ok (nthB hb 135)
theorem q_d_heap_moved {K : PySem.W.Frag} (hb : (bsK K).all id = true) : PySem.W.codeIn K (fdK K (A_f_heap_moved K)).code "heap_moved" = true := dok (nthB hb 136)
theorem q_k_heap_moved {K : PySem.W.Frag} (hb : (bsK K).all id = true) : PySem.W.keepIn K (.ref (A_f_heap_moved K)) = true := dok (nthB hb 137)
theorem q_a__law_no_tile {K : PySem.W.Frag} (hb : (bsK K).all id = true) : PySem.W.nsIn K mainGlobals "_law_no_tile" = some (some (.ref (A_f__law_no_tile K))) := isR_ok (nthB hb 138)
theorem q_d__law_no_tile {K : PySem.W.Frag} (hb : (bsK K).all id = true) : PySem.W.codeIn K (fdK K (A_f__law_no_tile K)).code "_law_no_tile" = true := dok (nthB hb 139)
theorem q_k__law_no_tile {K : PySem.W.Frag} (hb : (bsK K).all id = true) : PySem.W.keepIn K (.ref (A_f__law_no_tile K)) = true := dok (nthB hb 140)
theorem q_a__law_no_corner {K : PySem.W.Frag} (hb : (bsK K).all id = true) : PySem.W.nsIn K mainGlobals "_law_no_corner" = some (some (.ref (A_f__law_no_corner K))) := isR_ok (nthB hb 141)
theorem q_d__law_no_corner {K : PySem.W.Frag} (hb : (bsK K).all id = true) : PySem.W.codeIn K (fdK K (A_f__law_no_corner K)).code "_law_no_corner" = true := dok (nthB hb 142)
theorem q_k__law_no_corner {K : PySem.W.Frag} (hb : (bsK K).all id = true) : PySem.W.keepIn K (.ref (A_f__law_no_corner K)) = true := dok (nthB hb 143)
theorem q_a__law_asked {K : PySem.W.Frag} (hb : (bsK K).all id = true) : PySem.W.nsIn K mainGlobals "_law_asked" = some (some (.ref (A_f__law_asked K))) := isR_ok (nthB hb 144)
theorem q_d__law_asked {K : PySem.W.Frag} (hb : (bsK K).all id = true) : PySem.W.codeIn K (fdK K (A_f__law_asked K)).code "_law_asked" = true := dok (nthB hb 145)
theorem q_k__law_asked {K : PySem.W.Frag} (hb : (bsK K).all id = true) : PySem.W.keepIn K (.ref (A_f__law_asked K)) = true := dok (nthB hb 146)
theorem q_a__law_refuses {K : PySem.W.Frag} (hb : (bsK K).all id = true) : PySem.W.nsIn K mainGlobals "_law_refuses" = some (some (.ref (A_f__law_refuses K))) := isR_ok (nthB hb 147)
theorem q_d__law_refuses {K : PySem.W.Frag} (hb : (bsK K).all id = true) : PySem.W.codeIn K (fdK K (A_f__law_refuses K)).code "_law_refuses" = true := dok (nthB hb 148)
theorem q_k__law_refuses {K : PySem.W.Frag} (hb : (bsK K).all id = true) : PySem.W.keepIn K (.ref (A_f__law_refuses K)) = true := dok (nthB hb 149)
theorem q_a_law {K : PySem.W.Frag} (hb : (bsK K).all id = true) : PySem.W.nsIn K mainGlobals "law" = some (some (.ref (A_f_law K))) := isR_ok (nthB hb 150)
theorem q_d_law {K : PySem.W.Frag} (hb : (bsK K).all id = true) : PySem.W.codeIn K (fdK K (A_f_law K)).code "law" = true := dok (nthB hb 151)
theorem q_k_law {K : PySem.W.Frag} (hb : (bsK K).all id = true) : PySem.W.keepIn K (.ref (A_f_law K)) = true := dok (nthB hb 152)
end L2.My
open PySem PySem.W PySem.Calls PyProof.Rows in
set_option maxRecDepth 100000 in
set_option maxHeartbeats 0 in
theorem PySem.Challenge.cw_threetiles_k54_heaps_moved_holds : PySem.Challenge.rw_threetiles_k54_heaps_moved.Holds := by
  w_on; o_law
  refine HandSHeadRun.head_imp (r := PySem.W.OpenLaw.row PySem.Challenge.rw_threetiles_k54_heaps_moved) (q := view (PySem.W.OpenLaw.row PySem.Challenge.rw_threetiles_k54_heaps_moved).prog [45]) (H := L2.My.hookF L2.My.nsK L2.My.bsK L2.My.fsK L2.My.wsK) (ob := L2.My.obF L2.My.nsK L2.My.bsK L2.My.fsK) (M := 20000) (loose := L2.My.namesK) (d := HandSHeadRun.topDef (PySem.W.OpenLaw.row PySem.Challenge.rw_threetiles_k54_heaps_moved).prog 45) (kwd := []) L2.My.obF_eq
    L2.My.runH (by kernel_rfl) (by kernel_rfl) (by kernel_rfl) (by rfl) (by first | assumption | decide +kernel) (by decide +kernel) ⟨rfl, rfl, rfl, rfl, rfl, by decide +kernel⟩ ?hw ?hc
  case hw => w_witness2
  case hc =>
    refine L2.My.walk_ofEW (l := PySem.Challenge.rw_threetiles_k54_heaps_moved) (n := 63) (k := 9) (x := "script") (CX := fun w => L2.CX (PySem.Challenge.rw_threetiles_k54_heaps_moved).prog w) rfl (by decide) (by kernel_rfl) ⟨rfl, by decide, by decide⟩ ?F (fun _ _ _ _ _ z => L2.My.cx_no z)
    intro w mg fa h Y G hmg0
    obtain ⟨K, KX, hb, hf⟩ := Y
    have hmg : mg ("law" : PySem.Str) = some (.ref fa) := by
      have e : (HandSHeadRun.topDef (PySem.W.OpenLaw.row PySem.Challenge.rw_threetiles_k54_heaps_moved).prog 45).name = ("law" : PySem.Str) := by kernel_rfl
      rw [← e]
      exact hmg0
    obtain ⟨_, e_L_BadCorner⟩ := L2.My.excB_ok (L2.My.nthB hb 16)
    obtain ⟨_, e_L_BadHeap⟩ := L2.My.excB_ok (L2.My.nthB hb 27)
    obtain ⟨fd, h1, h2⟩ := L2.My.all_mk (P := (PySem.Challenge.rw_threetiles_k54_heaps_moved).prog) (w := w) (c_FloorError := L2.My.A_c_FloorError K) (c_BadCorner := L2.My.A_c_BadCorner K) (c_BadHeap := L2.My.A_c_BadHeap K) (f_is_integral := L2.My.A_f_is_integral K) (f_BadCorner_init := L2.My.A_f_BadCorner_init K) (f_BadHeap_init := L2.My.A_f_BadHeap_init K) (f_is_corner := L2.My.A_f_is_corner K) (f_check_corner := L2.My.A_f_check_corner K) (f_is_tile := L2.My.A_f_is_tile K) (f_plus := L2.My.A_f_plus K) (f_moved_tiles := L2.My.A_f_moved_tiles K) (f__law_sign := L2.My.A_f__law_sign K) (f__law_sum := L2.My.A_f__law_sum K) (f__law_less := L2.My.A_f__law_less K) (f__law_star := L2.My.A_f__law_star K) (f__law_within := L2.My.A_f__law_within K) (f__law_in_window := L2.My.A_f__law_in_window K) (f__law_has := L2.My.A_f__law_has K) (f__law_next := L2.My.A_f__law_next K) (f__law_sides := L2.My.A_f__law_sides K) (f__law_draw := L2.My.A_f__law_draw K) (f__law_pool := L2.My.A_f__law_pool K) (f__law_great := L2.My.A_f__law_great K) (f__law_corner := L2.My.A_f__law_corner K) (f__law_barred := L2.My.A_f__law_barred K) (f__law_point := L2.My.A_f__law_point K) (f__law_floor := L2.My.A_f__law_floor K) (f__law_negated := L2.My.A_f__law_negated K) (f__law_between := L2.My.A_f__law_between K) (f__law_tiles := L2.My.A_f__law_tiles K) (f__law_due := L2.My.A_f__law_due K) (f__law_heap := L2.My.A_f__law_heap K) (f_wrong_in_row := L2.My.A_f_wrong_in_row K) (f_check_heap := L2.My.A_f_check_heap K) (f_heap_moved := L2.My.A_f_heap_moved K) (f__law_no_tile := L2.My.A_f__law_no_tile K) (f__law_no_corner := L2.My.A_f__law_no_corner K) (f__law_asked := L2.My.A_f__law_asked K) (f__law_refuses := L2.My.A_f__law_refuses K) (f_law := L2.My.A_f_law K) KX G hmg (L2.My.q_gi_MOST_TILES hb) (L2.My.q_r_FloorError hb) (L2.My.q_r_BadCorner hb) (L2.My.q_r_BadHeap hb) (L2.My.q_r_all hb) (L2.My.q_r_len hb) (L2.My.q_r_isinstance hb) (L2.My.q_r_tuple hb) (L2.My.q_r_zip hb) (L2.My.q_r_int hb) (L2.My.q_r_range hb) (L2.My.q_r_list hb) (L2.My.q_r_abs hb) (L2.My.q_r_sorted hb) (L2.My.q_r_enumerate hb) (L2.My.q_r_bool hb) e_L_BadCorner (L2.My.q_e_sa_BadCorner hb) (L2.My.q_e_e_BadCorner hb) (L2.My.q_e_t_BadCorner hb) (L2.My.q_e_k_BadCorner hb) (L2.My.q_e_n_BadCorner hb) (L2.My.q_e_ga_BadCorner hb) (L2.My.q_e_gg_BadCorner hb) (L2.My.q_e_hd_BadCorner hb) (L2.My.q_e_ic_BadCorner hb) (L2.My.q_e_s_BadCorner hb) e_L_BadHeap (L2.My.q_e_sa_BadHeap hb) (L2.My.q_e_e_BadHeap hb) (L2.My.q_e_t_BadHeap hb) (L2.My.q_e_k_BadHeap hb) (L2.My.q_e_n_BadHeap hb) (L2.My.q_e_ga_BadHeap hb) (L2.My.q_e_gg_BadHeap hb) (L2.My.q_e_hd_BadHeap hb) (L2.My.q_e_ic_BadHeap hb) (L2.My.q_e_s_BadHeap hb) (L2.My.q_e_o_BadCorner_BadHeap hb) (L2.My.q_e_o_BadHeap_BadCorner hb) (L2.My.q_a_is_integral hb) (L2.My.fn_l (K := K) (f := L2.My.A_f_is_integral K) (n := "is_integral") (q := "is_integral") (st := L2.My.s_is_integral) (L2.My.nthF hf 0)) (L2.My.q_d_is_integral hb) (L2.My.q_k_is_integral hb) (L2.My.q_a_BadCorner_init hb) (L2.My.q_t_BadCorner_init hb) (L2.My.fn_l (K := K) (f := L2.My.A_f_BadCorner_init K) (n := "__init__") (q := "BadCorner.__init__") (st := L2.My.s_BadCorner_init) (L2.My.nthF hf 1)) (L2.My.q_d_BadCorner_init hb) (L2.My.q_k_BadCorner_init hb) (L2.My.q_a_BadHeap_init hb) (L2.My.q_t_BadHeap_init hb) (L2.My.fn_l (K := K) (f := L2.My.A_f_BadHeap_init K) (n := "__init__") (q := "BadHeap.__init__") (st := L2.My.s_BadHeap_init) (L2.My.nthF hf 2)) (L2.My.q_d_BadHeap_init hb) (L2.My.q_k_BadHeap_init hb) (L2.My.q_a_is_corner hb) (L2.My.fn_l (K := K) (f := L2.My.A_f_is_corner K) (n := "is_corner") (q := "is_corner") (st := L2.My.s_is_corner) (L2.My.nthF hf 3)) (L2.My.q_d_is_corner hb) (L2.My.q_k_is_corner hb) (L2.My.q_a_check_corner hb) (L2.My.fn_l (K := K) (f := L2.My.A_f_check_corner K) (n := "check_corner") (q := "check_corner") (st := L2.My.s_check_corner) (L2.My.nthF hf 4)) (L2.My.q_d_check_corner hb) (L2.My.q_k_check_corner hb) (L2.My.q_a_is_tile hb) (L2.My.fn_l (K := K) (f := L2.My.A_f_is_tile K) (n := "is_tile") (q := "is_tile") (st := L2.My.s_is_tile) (L2.My.nthF hf 5)) (L2.My.q_d_is_tile hb) (L2.My.q_k_is_tile hb) (L2.My.q_a_plus hb) (L2.My.fn_l (K := K) (f := L2.My.A_f_plus K) (n := "plus") (q := "plus") (st := L2.My.s_plus) (L2.My.nthF hf 6)) (L2.My.q_d_plus hb) (L2.My.q_k_plus hb) (L2.My.q_a_moved_tiles hb) (L2.My.fn_l (K := K) (f := L2.My.A_f_moved_tiles K) (n := "moved_tiles") (q := "moved_tiles") (st := L2.My.s_moved_tiles) (L2.My.nthF hf 7)) (L2.My.q_d_moved_tiles hb) (L2.My.q_k_moved_tiles hb) (L2.My.q_a__law_sign hb) (L2.My.fn_l (K := K) (f := L2.My.A_f__law_sign K) (n := "_law_sign") (q := "_law_sign") (st := L2.My.s__law_sign) (L2.My.nthF hf 8)) (L2.My.q_d__law_sign hb) (L2.My.q_k__law_sign hb) (L2.My.q_a__law_sum hb) (L2.My.fn_l (K := K) (f := L2.My.A_f__law_sum K) (n := "_law_sum") (q := "_law_sum") (st := L2.My.s__law_sum) (L2.My.nthF hf 9)) (L2.My.q_d__law_sum hb) (L2.My.q_k__law_sum hb) (L2.My.q_a__law_less hb) (L2.My.fn_l (K := K) (f := L2.My.A_f__law_less K) (n := "_law_less") (q := "_law_less") (st := L2.My.s__law_less) (L2.My.nthF hf 10)) (L2.My.q_d__law_less hb) (L2.My.q_k__law_less hb) (L2.My.q_a__law_star hb) (L2.My.fn_l (K := K) (f := L2.My.A_f__law_star K) (n := "_law_star") (q := "_law_star") (st := L2.My.s__law_star) (L2.My.nthF hf 11)) (L2.My.q_d__law_star hb) (L2.My.q_k__law_star hb) (L2.My.q_a__law_within hb) (L2.My.fn_l (K := K) (f := L2.My.A_f__law_within K) (n := "_law_within") (q := "_law_within") (st := L2.My.s__law_within) (L2.My.nthF hf 12)) (L2.My.q_d__law_within hb) (L2.My.q_k__law_within hb) (L2.My.q_a__law_in_window hb) (L2.My.fn_l (K := K) (f := L2.My.A_f__law_in_window K) (n := "_law_in_window") (q := "_law_in_window") (st := L2.My.s__law_in_window) (L2.My.nthF hf 13)) (L2.My.q_d__law_in_window hb) (L2.My.q_k__law_in_window hb) (L2.My.q_a__law_has hb) (L2.My.fn_l (K := K) (f := L2.My.A_f__law_has K) (n := "_law_has") (q := "_law_has") (st := L2.My.s__law_has) (L2.My.nthF hf 14)) (L2.My.q_d__law_has hb) (L2.My.q_k__law_has hb) (L2.My.q_a__law_next hb) (L2.My.fn_l (K := K) (f := L2.My.A_f__law_next K) (n := "_law_next") (q := "_law_next") (st := L2.My.s__law_next) (L2.My.nthF hf 15)) (L2.My.q_d__law_next hb) (L2.My.q_k__law_next hb) (L2.My.q_a__law_sides hb) (L2.My.fn_l (K := K) (f := L2.My.A_f__law_sides K) (n := "_law_sides") (q := "_law_sides") (st := L2.My.s__law_sides) (L2.My.nthF hf 16)) (L2.My.q_d__law_sides hb) (L2.My.q_k__law_sides hb) (L2.My.q_a__law_draw hb) (L2.My.fn_l (K := K) (f := L2.My.A_f__law_draw K) (n := "_law_draw") (q := "_law_draw") (st := L2.My.s__law_draw) (L2.My.nthF hf 17)) (L2.My.q_d__law_draw hb) (L2.My.q_k__law_draw hb) (L2.My.q_a__law_pool hb) (L2.My.fn_l (K := K) (f := L2.My.A_f__law_pool K) (n := "_law_pool") (q := "_law_pool") (st := L2.My.s__law_pool) (L2.My.nthF hf 18)) (L2.My.q_d__law_pool hb) (L2.My.q_k__law_pool hb) (L2.My.q_a__law_great hb) (L2.My.fn_l (K := K) (f := L2.My.A_f__law_great K) (n := "_law_great") (q := "_law_great") (st := L2.My.s__law_great) (L2.My.nthF hf 19)) (L2.My.q_d__law_great hb) (L2.My.q_k__law_great hb) (L2.My.q_a__law_corner hb) (L2.My.fn_l (K := K) (f := L2.My.A_f__law_corner K) (n := "_law_corner") (q := "_law_corner") (st := L2.My.s__law_corner) (L2.My.nthF hf 20)) (L2.My.q_d__law_corner hb) (L2.My.q_k__law_corner hb) (L2.My.q_a__law_barred hb) (L2.My.fn_l (K := K) (f := L2.My.A_f__law_barred K) (n := "_law_barred") (q := "_law_barred") (st := L2.My.s__law_barred) (L2.My.nthF hf 21)) (L2.My.q_d__law_barred hb) (L2.My.q_k__law_barred hb) (L2.My.q_a__law_point hb) (L2.My.fn_l (K := K) (f := L2.My.A_f__law_point K) (n := "_law_point") (q := "_law_point") (st := L2.My.s__law_point) (L2.My.nthF hf 22)) (L2.My.q_d__law_point hb) (L2.My.q_k__law_point hb) (L2.My.q_a__law_floor hb) (L2.My.fn_l (K := K) (f := L2.My.A_f__law_floor K) (n := "_law_floor") (q := "_law_floor") (st := L2.My.s__law_floor) (L2.My.nthF hf 23)) (L2.My.q_d__law_floor hb) (L2.My.q_k__law_floor hb) (L2.My.q_a__law_negated hb) (L2.My.fn_l (K := K) (f := L2.My.A_f__law_negated K) (n := "_law_negated") (q := "_law_negated") (st := L2.My.s__law_negated) (L2.My.nthF hf 24)) (L2.My.q_d__law_negated hb) (L2.My.q_k__law_negated hb) (L2.My.q_a__law_between hb) (L2.My.fn_l (K := K) (f := L2.My.A_f__law_between K) (n := "_law_between") (q := "_law_between") (st := L2.My.s__law_between) (L2.My.nthF hf 25)) (L2.My.q_d__law_between hb) (L2.My.q_k__law_between hb) (L2.My.q_a__law_tiles hb) (L2.My.fn_l (K := K) (f := L2.My.A_f__law_tiles K) (n := "_law_tiles") (q := "_law_tiles") (st := L2.My.s__law_tiles) (L2.My.nthF hf 26)) (L2.My.q_d__law_tiles hb) (L2.My.q_k__law_tiles hb) (L2.My.q_a__law_due hb) (L2.My.fn_l (K := K) (f := L2.My.A_f__law_due K) (n := "_law_due") (q := "_law_due") (st := L2.My.s__law_due) (L2.My.nthF hf 27)) (L2.My.q_d__law_due hb) (L2.My.q_k__law_due hb) (L2.My.q_a__law_heap hb) (L2.My.fn_l (K := K) (f := L2.My.A_f__law_heap K) (n := "_law_heap") (q := "_law_heap") (st := L2.My.s__law_heap) (L2.My.nthF hf 28)) (L2.My.q_d__law_heap hb) (L2.My.q_k__law_heap hb) (L2.My.q_a_wrong_in_row hb) (L2.My.fn_l (K := K) (f := L2.My.A_f_wrong_in_row K) (n := "wrong_in_row") (q := "wrong_in_row") (st := L2.My.s_wrong_in_row) (L2.My.nthF hf 29)) (L2.My.q_d_wrong_in_row hb) (L2.My.q_k_wrong_in_row hb) (L2.My.q_a_check_heap hb) (L2.My.fn_l (K := K) (f := L2.My.A_f_check_heap K) (n := "check_heap") (q := "check_heap") (st := L2.My.s_check_heap) (L2.My.nthF hf 30)) (L2.My.q_d_check_heap hb) (L2.My.q_k_check_heap hb) (L2.My.q_a_heap_moved hb) (L2.My.fn_l (K := K) (f := L2.My.A_f_heap_moved K) (n := "heap_moved") (q := "heap_moved") (st := L2.My.s_heap_moved) (L2.My.nthF hf 31)) (L2.My.q_d_heap_moved hb) (L2.My.q_k_heap_moved hb) (L2.My.q_a__law_no_tile hb) (L2.My.fn_l (K := K) (f := L2.My.A_f__law_no_tile K) (n := "_law_no_tile") (q := "_law_no_tile") (st := L2.My.s__law_no_tile) (L2.My.nthF hf 32)) (L2.My.q_d__law_no_tile hb) (L2.My.q_k__law_no_tile hb) (L2.My.q_a__law_no_corner hb) (L2.My.fn_l (K := K) (f := L2.My.A_f__law_no_corner K) (n := "_law_no_corner") (q := "_law_no_corner") (st := L2.My.s__law_no_corner) (L2.My.nthF hf 33)) (L2.My.q_d__law_no_corner hb) (L2.My.q_k__law_no_corner hb) (L2.My.q_a__law_asked hb) (L2.My.fn_l (K := K) (f := L2.My.A_f__law_asked K) (n := "_law_asked") (q := "_law_asked") (st := L2.My.s__law_asked) (L2.My.nthF hf 34)) (L2.My.q_d__law_asked hb) (L2.My.q_k__law_asked hb) (L2.My.q_a__law_refuses hb) (L2.My.fn_l (K := K) (f := L2.My.A_f__law_refuses K) (n := "_law_refuses") (q := "_law_refuses") (st := L2.My.s__law_refuses) (L2.My.nthF hf 35)) (L2.My.q_d__law_refuses hb) (L2.My.q_k__law_refuses hb) (L2.My.q_a_law hb) (L2.My.fn_l (K := K) (f := L2.My.A_f_law K) (n := "law") (q := "law") (st := L2.My.s_law) (L2.My.nthF hf 36)) (L2.My.q_d_law hb) (L2.My.q_k_law hb)
    exact ⟨K, fd, L2.My.spTop K, KX, h1, fun H a ns _ _ hS => ⟨a, ns, rfl, hS, fun _ => rfl⟩, h2⟩

