import PyProof.Rows.All
import Wide.All
import OpenK.AllK
import Wide.FinOn
import HandS.ForMost
import HandS.ForExc
import HandS.SlotsOwn
import KE.KMathG
import KE.KOpsOwn
import HandS.ExcInit
import HandS.ExcField
import HandS.ExcIs
import HandS.IsInst
import HandS.OwnEq
import HandS.Gcd
import HandS.Wide
import HandS.Codes
import HandS.Style
import HandS.DictComp
import PySem.Challenge.RW_threetiles_k00_root_in_lowest_terms
set_option Elab.async false
set_option linter.all false
set_option maxRecDepth 100000
set_option maxHeartbeats 4000000

/-! W0: what all my proofs share: callees by name (Has), steps that walk a reading (walk_at "w"), wide rules. -/
namespace L2.My
open PySem PySem.Spec PyProof.Rows

/-! ### callees by name -/
section
variable (P : Program) (w : World) (K : PySem.W.Frag) (mg : Str → Option Value) (base : Heap)
/-- a def of the module that keeps a promise -/
def Has (x : Str) (k : Nat) (ps : List Str) (sp : Sp) : Prop :=
  ∃ f fd, FnOk P w K mg base (L2.CX P w) k f fd ps sp ∧ mg x = some (.ref f) ∧ PySem.W.keepIn K (.ref f) = true ∧ Binds K fd ps []
/-- a method -/
def HasM (C : Addr) (m : Str) (k : Nat) (ps : List Str) (sp : Sp) : Prop :=
  ∃ f fd, FnOk P w K mg base (L2.CX P w) k f fd ps sp ∧ Meth K C m f ∧ Binds K fd ps []
/-- a class that is made -/
def HasC (x : Str) (C : Addr) (k : Nat) (ps : List Str) (sp : Sp) : Prop :=
  ∃ f fd, FnOk P w K mg base (L2.CX P w) k f fd ps sp ∧ Mk K C f ∧ mg x = some (.ref C) ∧ Binds K fd ps []
end
section
variable {X : Cx} {x m : Str} {k j : Nat} {ps : List Str} {sp : Sp} {E : St → XK} {e o : Expr} {es : List Expr} {t : TA} {ta : TE} {p pos apos : Pos} {C f : Addr} {fd : FuncData}
/-- nothing is let out -/
theorem pa0 : ∀ σ, PassesAt (L2.CX X.prog X.w) X σ ((fun _ => E0 : St → XK) σ) := fun σ pins H s e s' I h => passL pins σ H s e s' I h
/-- what is wished at the slots -/
theorem paW {W : WX} (tk : Takes X W) : ∀ σ, PassesAt (L2.CX X.prog X.w) X σ (WE W σ) := fun σ => passAt tk σ
/-- what the def wishes of an exception -/
abbrev ED (E : XK) : St → XK := WE (fun cls d _ H => E cls d H)
theorem pe_h (h : Has X.prog X.w X.K X.mg X.base x k ps sp) (hr : Room j X.A) (hx : ∀ σ, PassesAt (L2.CX X.prog X.w) X σ (E σ)) (ha : PA X (e :: es) t) (hj : k ≤ j := by decide) (hg : Gl X x := by rfl) (hdb : (x == ("__debug__" : Str)) = false := by decide)
    (he : starEach (e :: es) X.env = (false, eval e X.env) :: starEach es X.env := by rfl) (hpl : (backTo pos (starEach es X.env)).any (·.1) = false := by rfl) :
    PE X (.Call (.Name x p) (e :: es) [] pos) (tCallS sp E t) := by
  obtain ⟨f, fd, F, hm, hk, hb⟩ := h
  exact pe_callS F (hr.mono hj) hg hm hk hb hx ha hdb he hpl
theorem pe_h0 (h : Has X.prog X.w X.K X.mg X.base x k ps sp) (hr : Room j X.A) (hx : ∀ σ, PassesAt (L2.CX X.prog X.w) X σ (E σ)) (hj : k ≤ j := by decide) (hg : Gl X x := by rfl) (hdb : (x == ("__debug__" : Str)) = false := by decide) :
    PE X (.Call (.Name x p) [] [] pos) (tCallS sp E tNil) := by
  obtain ⟨f, fd, F, hm, hk, hb⟩ := h
  refine ⟨fun pins s σ H Q I hh => ?_⟩
  refine wpAny_Call_Name_kw (ld_glob I hg hm ?_ hdb)
  exact PySem.W.callWith_K0 I.kIn hk (run_fnS (us := []) F (hr.mono hj) hb (hx σ) I .nil hh)
/-- C(..) -/
theorem run_makeS {pins : List (Addr × Obj)} {σ : St} {H : Hp} {s : Shared} {Q : VK} {us : List Value} {vs : List V} (M : Mk X.K C f) (F : FnOk X.prog X.w X.K X.mg X.base (L2.CX X.prog X.w) k f fd ps sp) (hr : Room (k + 1) X.A) (hb : Binds X.K fd ps [])
    (hx : PassesAt (L2.CX X.prog X.w) X σ (E σ)) (I : Inv X pins σ H s) (r : Vals vs us)
    (h : ∀ x dx, H x = none → H dx = none → dx ≠ x → sp (.ref x :: vs) (upd (upd H dx (.own x)) x (.ins C dx [])) (fun v H2 => v = .non ∧ Q (.ref x) H2) (E σ)) :
    wpAny (model X.prog X.w) X.A (call (.ref C) us) (EP X pins σ Q) X.xe s := by
  have hq := h (s.heap.objs.size + 1) s.heap.objs.size (I.hok.fresh (Nat.le_succ _)) (I.hok.fresh (Nat.le_refl _)) (Nat.ne_of_lt (Nat.lt_succ_self _))
  have I2 := Inv.made (C := C) I
  have r2 : Vals (V.ref (s.heap.objs.size + 1) :: vs) (Value.ref (s.heap.objs.size + 1) :: us) := .cons rfl r
  have hl : (Value.ref (s.heap.objs.size + 1) :: us).length = ps.length := by
    have e := r2.length
    rw [F.len _ _ _ _ hq] at e
    exact e.symm
  have bb := hb _ (Value.ref (s.heap.objs.size + 1) :: us) I2.kIn (by rw [List.append_nil]; exact hl)
  rw [List.append_nil] at bb
  refine wpAny_call (make_map (f := f) I.kIn M.makes M.init (beq_iff_eq.mp M.fn) (codeAny_mono (F.run _ X.stack _ _ ⟨Value.ref (s.heap.objs.size + 1) :: us, []⟩ (Value.ref (s.heap.objs.size + 1) :: us) _ _ (E σ) (hr.make C us [])
    (I2.env0.make C us []) bb r2 hq) fun r s' hq' => ?_))
  cases r with
  | error e => exact hx pins _ _ e s' I2 hq'
  | ok fl =>
    cases fl with
    | ret u =>
      obtain ⟨v, H', I3, rv, ev, q3⟩ := I2.after hq'
      subst ev
      exact ⟨rv, ⟨V.ref (s.heap.objs.size + 1), H', I3, rfl, q3⟩⟩
    | next => exact False.elim hq'
    | brk => exact False.elim hq'
    | cont => exact False.elim hq'
def tMakeS (C : Addr) (sp : Sp) (E : St → XK) (t : TA) : TE := fun σ H Q => t σ H fun vs H1 => ∀ x dx, H1 x = none → H1 dx = none → dx ≠ x →
  sp (.ref x :: vs) (upd (upd H1 dx (.own x)) x (.ins C dx [])) (fun v H2 => v = .non ∧ Q (.ref x) H2) (E σ)
theorem pe_hc (h : HasC X.prog X.w X.K X.mg X.base x C k ps sp) (hr : Room j X.A) (hx : ∀ σ, PassesAt (L2.CX X.prog X.w) X σ (E σ)) (ha : PA X (e :: es) t) (hj : k + 1 ≤ j := by decide) (hg : Gl X x := by rfl) (hdb : (x == ("__debug__" : Str)) = false := by decide)
    (he : starEach (e :: es) X.env = (false, eval e X.env) :: starEach es X.env := by rfl) (hpl : (backTo pos (starEach es X.env)).any (·.1) = false := by rfl) :
    PE X (.Call (.Name x p) (e :: es) [] pos) (tMakeS C sp E t) := by
  obtain ⟨f, fd, F, M, hm, hb⟩ := h
  refine ⟨fun pins s σ H Q I h => ?_⟩
  refine wpAny_Call_Name_kw (ld_glob I hg hm ?_ hdb)
  refine PySem.W.callWith_K (h₀ := X.base) I.ok.mod.kin M.kp (thn (ha.run pos pins s σ H _ I h) fun us s1 ⟨vs, H1, I1, r, q⟩ => ⟨I1.kIn, ?_⟩) he hpl
  exact run_makeS M F (hr.mono hj) hb (hx σ) I1 r q
/-- o.m(..) -/
def tMethS (C : Addr) (m : Str) (sp : Sp) (E : St → XK) (ta : TE) (t : TA) : TE := fun σ H Q => ta σ H fun x H1 => ∃ a dx fs, x = .ref a ∧ H1 a = some (.ins C dx fs) ∧ fs.lookup m = none ∧
  t σ H1 fun vs H2 => sp (x :: vs) H2 Q (E σ)
theorem pe_hm {pl : Sem Bool} (h : HasM X.prog X.w X.K X.mg X.base C m k ps sp) (c : Cls X.K C) (hr : Room j X.A) (hx : ∀ σ, PassesAt (L2.CX X.prog X.w) X σ (E σ)) (ho : PE X o ta) (ha : PA X (e :: es) t) (hj : k ≤ j := by decide)
    (hst : starEach (e :: es) X.env = (false, eval e X.env) :: starEach es X.env := by rfl) (hpl : (backTo pos (starEach es X.env)).any (·.1) = false := by rfl)
    (ht : eval (.Call (.Attribute o m apos) (e :: es) [] pos) X.env = (do
      let ov ← eval o X.env
      standAt apos.atName
      let (f, first) ← holding [ov] (getMethod ov m pl)
      callWith pos f first (backTo pos (starEach (e :: es) X.env)) (backToKw pos (keywordEach [] X.env))) := by rfl) :
    PE X (.Call (.Attribute o m apos) (e :: es) [] pos) (tMethS C m sp E ta t) := by
  obtain ⟨f, fd, F, hm, hb⟩ := h
  refine ⟨fun pins s σ H Q I h => ?_⟩
  refine PySem.W.methodCall_KW (pl := pl) (thn (ho.run pins s σ H _ I h) fun u s1 ⟨x, H1, I1, rx, a, dx, fs, ex, ea, l, q⟩ => ?_) ht
  subst ex
  obtain rfl : u = Value.ref a := rx
  refine getmeth_ok I1 ea c hm l ?_
  refine PySem.W.callWith_K (first := [.ref a]) (h₀ := X.base) I.ok.mod.kin hm.kp (thn (ha.run pos pins s1 σ H1 _ I1 q) fun us s2 ⟨vs, H2, I2, r, q2⟩ => ⟨I2.kIn, ?_⟩) hst hpl
  exact run_fnS (us := .ref a :: us) (vs := .ref a :: vs) F (hr.mono hj) hb (hx σ) I2 (.cons rfl r) q2
theorem pe_hm0 {pl : Sem Bool} (h : HasM X.prog X.w X.K X.mg X.base C m k ps sp) (c : Cls X.K C) (hr : Room j X.A) (hx : ∀ σ, PassesAt (L2.CX X.prog X.w) X σ (E σ)) (ho : PE X o ta) (hj : k ≤ j := by decide)
    (ht : eval (.Call (.Attribute o m apos) [] [] pos) X.env = (do
      let ov ← eval o X.env
      standAt apos.atName
      let (f, first) ← holding [ov] (getMethod ov m pl)
      callWith pos f first (backTo pos (starEach [] X.env)) (backToKw pos (keywordEach [] X.env))) := by rfl) :
    PE X (.Call (.Attribute o m apos) [] [] pos) (tMethS C m sp E ta tNil) := by
  obtain ⟨f, fd, F, hm, hb⟩ := h
  refine ⟨fun pins s σ H Q I h => ?_⟩
  refine PySem.W.methodCall_KW (pl := pl) (thn (ho.run pins s σ H _ I h) fun u s1 ⟨x, H1, I1, rx, a, dx, fs, ex, ea, l, q⟩ => ?_) ht
  subst ex
  obtain rfl : u = Value.ref a := rx
  refine getmeth_ok I1 ea c hm l ?_
  exact PySem.W.callWith_K0 (first := [.ref a]) I1.kIn hm.kp (run_fnS (us := [.ref a]) (vs := [.ref a]) F (hr.mono hj) hb (hx σ) I1 (.cons rfl .nil) q)
end

/-! ### numbers of any size -/
/-- // by what is not 0, below 2 ^ 9000 in size -/
def CDivN9 (_ j : Int) : Prop := j ≠ 0 ∧ j.natAbs.log2 < 9000
section
variable {X : Cx}
theorem op_fdivV : OpR X (binaryOp .FloorDiv) (rI CDivN9 fun i j => .int (i.fdiv j)) := opI fun i j _ _ _ _ _ hc q =>
  floordiv_int hc.1 q (.inl (PyProof.noPylong_of_log2 hc.2))
end

/-! ### steps that walk a reading -/
section
variable {σ σ' : St} {H : Hp} {v x y : V} {i j : Int} {n : Nat} {b : Bool} {ta tb te : TE} {t u : TT} {ts us : TS} {r : R2} {D : Ends} {Q : VK} {QB : Bool → Hp → Prop} {QL : List V → Hp → Prop} {tl : TA}
theorem w_var (h : σ[n]? = some (some v)) (q : Q v H) : tVar n σ H Q := ⟨v, h, q⟩
theorem w_c (q : Q v H) : tC v σ H Q := q
theorem w_op (q : ta σ H fun x H1 => tb σ H1 fun y H2 => r x y H2 Q) : tOp r ta tb σ H Q := q
theorem w_un {r : V → Hp → VK → Prop} (q : ta σ H fun x H1 => r x H1 Q) : tUn r ta σ H Q := q
theorem w_I0 {g : Int → Int → V} (q : Q (g i j) H) : rI0 g (.int i) (.int j) H Q := ⟨i, j, rfl, rfl, q⟩
theorem w_I {C : Int → Int → Prop} {g : Int → Int → V} (c : C i j) (q : Q (g i j) H) : rI C g (.int i) (.int j) H Q := ⟨i, j, rfl, rfl, c, q⟩
theorem w_U {g : Int → V} (q : Q (g i) H) : rU g (.int i) H Q := ⟨i, rfl, q⟩
theorem w_eq (h : scal x y = true) (q : Q (.bl (decide (x = y))) H) : rEq x y H Q := ⟨h, q⟩
theorem w_ne (h : scal x y = true) (q : Q (.bl (!decide (x = y))) H) : rNe x y H Q := ⟨h, q⟩
theorem w_test (q : te σ H fun x H' => ∃ k, x = .bl k ∧ QB k H') : tTest te σ H QB := q
theorem w_B (q : te σ H fun x H' => ∃ k, x = .bl k ∧ QB k H') : tB te σ H QB := q
theorem w_bl (q : QB b H) : ∃ k, V.bl b = .bl k ∧ QB k H := ⟨b, rfl, q⟩
theorem w_and (q : t σ H fun c H1 => if c = true then u σ H1 QB else QB false H1) : tAnd t u σ H QB := q
theorem w_or (q : t σ H fun c H1 => if c = true then QB true H1 else u σ H1 QB) : tOr t u σ H QB := q
theorem w_not (q : t σ H fun c H1 => QB (!c) H1) : tNot t σ H QB := q
theorem w_andV (q : ta σ H fun x H1 => ∃ c, x = .bl c ∧ if c = true then tb σ H1 Q else Q (.bl false) H1) : tAndV ta tb σ H Q := q
theorem w_orV (q : ta σ H fun x H1 => ∃ c, x = .bl c ∧ if c = true then Q (.bl true) H1 else tb σ H1 Q) : tOrV ta tb σ H Q := q
theorem w_notV (q : ta σ H fun x H1 => ∃ c, x = .bl c ∧ Q (.bl (!c)) H1) : tNotV ta σ H Q := q
theorem w_blV {p : Bool → Prop} (q : p b) : ∃ c, V.bl b = .bl c ∧ p c := ⟨b, rfl, q⟩
theorem w_seq {nx bk ct : L2.St → Hp → Prop} {rt : VK} (q : ts ⟨us ⟨nx, rt, bk, ct⟩, rt, bk, ct⟩ σ H) : tSeq ts us ⟨nx, rt, bk, ct⟩ σ H := q
theorem w_next {nx bk ct : L2.St → Hp → Prop} {rt : VK} (q : nx σ H) : tNext ⟨nx, rt, bk, ct⟩ σ H := q
theorem w_asg {g : TG} {nx bk ct : L2.St → Hp → Prop} {rt : VK} (q : te σ H fun x H1 => g x σ H1 nx) : tAsg te g ⟨nx, rt, bk, ct⟩ σ H := q
theorem w_drop {nx bk ct : L2.St → Hp → Prop} {rt : VK} (q : te σ H fun _ H1 => nx σ H1) : tDrop te ⟨nx, rt, bk, ct⟩ σ H := q
theorem w_ret {nx bk ct : L2.St → Hp → Prop} {rt : VK} (q : te σ H rt) : tRet te ⟨nx, rt, bk, ct⟩ σ H := q
theorem w_if {c : TT} (q : c σ H fun b H1 => if b = true then ts D σ H1 else us D σ H1) : tIfS c ts us D σ H := q
theorem w_name {N : St → Hp → Prop} (h : σ.set n (some v) = σ') (q : N σ' H) : gName n v σ H N := by rw [← h] at q; exact q
theorem w_nil (q : QL [] H) : tNil σ H QL := q
theorem w_cons (q : te σ H fun x H1 => tl σ H1 fun xs H2 => QL (x :: xs) H2) : tCons te tl σ H QL := q
theorem w_T {A B : Prop} {c : Bool} (h : c = true) (q : A) : if c = true then A else B := by rw [h]; exact iteT q
theorem w_F {A B : Prop} {c : Bool} (h : c = false) (q : B) : if c = true then A else B := by rw [h]; exact iteF q
theorem w_ite {c A B : Prop} [Decidable c] (h1 : c → A) (h2 : ¬ c → B) : if decide c = true then A else B := by
  by_cases h : c
  · rw [decide_eq_true h]; exact iteT (h1 h)
  · rw [decide_eq_false h]; exact iteF (h2 h)
theorem w_call {sp : Sp} {E : St → XK} (q : tl σ H fun vs H1 => sp vs H1 Q (E σ)) : tCallS sp E tl σ H Q := q
theorem w_cb {r : List V → Hp → VK → Prop} (q : tl σ H fun vs H1 => r vs H1 Q) : tCB r tl σ H Q := q
theorem set0 {a0 : Option V} {l : St} : (a0 :: l).set 0 (some v) = some v :: l := rfl
theorem set1 {a0 a1 : Option V} {l : St} : (a0 :: a1 :: l).set 1 (some v) = a0 :: some v :: l := rfl
theorem set2 {a0 a1 a2 : Option V} {l : St} : (a0 :: a1 :: a2 :: l).set 2 (some v) = a0 :: a1 :: some v :: l := rfl
theorem set3 {a0 a1 a2 a3 : Option V} {l : St} : (a0 :: a1 :: a2 :: a3 :: l).set 3 (some v) = a0 :: a1 :: a2 :: some v :: l := rfl
theorem set4 {a0 a1 a2 a3 a4 : Option V} {l : St} : (a0 :: a1 :: a2 :: a3 :: a4 :: l).set 4 (some v) = a0 :: a1 :: a2 :: a3 :: some v :: l := rfl
theorem set5 {a0 a1 a2 a3 a4 a5 : Option V} {l : St} : (a0 :: a1 :: a2 :: a3 :: a4 :: a5 :: l).set 5 (some v) = a0 :: a1 :: a2 :: a3 :: a4 :: some v :: l := rfl
theorem set6 {a0 a1 a2 a3 a4 a5 a6 : Option V} {l : St} : (a0 :: a1 :: a2 :: a3 :: a4 :: a5 :: a6 :: l).set 6 (some v) = a0 :: a1 :: a2 :: a3 :: a4 :: a5 :: some v :: l := rfl
theorem set7 {a0 a1 a2 a3 a4 a5 a6 a7 : Option V} {l : St} : (a0 :: a1 :: a2 :: a3 :: a4 :: a5 :: a6 :: a7 :: l).set 7 (some v) = a0 :: a1 :: a2 :: a3 :: a4 :: a5 :: a6 :: some v :: l := rfl
theorem set8 {a0 a1 a2 a3 a4 a5 a6 a7 a8 : Option V} {l : St} : (a0 :: a1 :: a2 :: a3 :: a4 :: a5 :: a6 :: a7 :: a8 :: l).set 8 (some v) = a0 :: a1 :: a2 :: a3 :: a4 :: a5 :: a6 :: a7 :: some v :: l := rfl
theorem set9 {a0 a1 a2 a3 a4 a5 a6 a7 a8 a9 : Option V} {l : St} : (a0 :: a1 :: a2 :: a3 :: a4 :: a5 :: a6 :: a7 :: a8 :: a9 :: l).set 9 (some v) = a0 :: a1 :: a2 :: a3 :: a4 :: a5 :: a6 :: a7 :: a8 :: some v :: l := rfl
theorem set10 {a0 a1 a2 a3 a4 a5 a6 a7 a8 a9 a10 : Option V} {l : St} : (a0 :: a1 :: a2 :: a3 :: a4 :: a5 :: a6 :: a7 :: a8 :: a9 :: a10 :: l).set 10 (some v) = a0 :: a1 :: a2 :: a3 :: a4 :: a5 :: a6 :: a7 :: a8 :: a9 :: some v :: l := rfl
theorem set11 {a0 a1 a2 a3 a4 a5 a6 a7 a8 a9 a10 a11 : Option V} {l : St} : (a0 :: a1 :: a2 :: a3 :: a4 :: a5 :: a6 :: a7 :: a8 :: a9 :: a10 :: a11 :: l).set 11 (some v) = a0 :: a1 :: a2 :: a3 :: a4 :: a5 :: a6 :: a7 :: a8 :: a9 :: a10 :: some v :: l := rfl
theorem set12 {a0 a1 a2 a3 a4 a5 a6 a7 a8 a9 a10 a11 a12 : Option V} {l : St} : (a0 :: a1 :: a2 :: a3 :: a4 :: a5 :: a6 :: a7 :: a8 :: a9 :: a10 :: a11 :: a12 :: l).set 12 (some v) = a0 :: a1 :: a2 :: a3 :: a4 :: a5 :: a6 :: a7 :: a8 :: a9 :: a10 :: a11 :: some v :: l := rfl
theorem set13 {a0 a1 a2 a3 a4 a5 a6 a7 a8 a9 a10 a11 a12 a13 : Option V} {l : St} : (a0 :: a1 :: a2 :: a3 :: a4 :: a5 :: a6 :: a7 :: a8 :: a9 :: a10 :: a11 :: a12 :: a13 :: l).set 13 (some v) = a0 :: a1 :: a2 :: a3 :: a4 :: a5 :: a6 :: a7 :: a8 :: a9 :: a10 :: a11 :: a12 :: some v :: l := rfl
theorem set14 {a0 a1 a2 a3 a4 a5 a6 a7 a8 a9 a10 a11 a12 a13 a14 : Option V} {l : St} : (a0 :: a1 :: a2 :: a3 :: a4 :: a5 :: a6 :: a7 :: a8 :: a9 :: a10 :: a11 :: a12 :: a13 :: a14 :: l).set 14 (some v) = a0 :: a1 :: a2 :: a3 :: a4 :: a5 :: a6 :: a7 :: a8 :: a9 :: a10 :: a11 :: a12 :: a13 :: some v :: l := rfl
theorem set15 {a0 a1 a2 a3 a4 a5 a6 a7 a8 a9 a10 a11 a12 a13 a14 a15 : Option V} {l : St} : (a0 :: a1 :: a2 :: a3 :: a4 :: a5 :: a6 :: a7 :: a8 :: a9 :: a10 :: a11 :: a12 :: a13 :: a14 :: a15 :: l).set 15 (some v) = a0 :: a1 :: a2 :: a3 :: a4 :: a5 :: a6 :: a7 :: a8 :: a9 :: a10 :: a11 :: a12 :: a13 :: a14 :: some v :: l := rfl
theorem set16 {a0 a1 a2 a3 a4 a5 a6 a7 a8 a9 a10 a11 a12 a13 a14 a15 a16 : Option V} {l : St} : (a0 :: a1 :: a2 :: a3 :: a4 :: a5 :: a6 :: a7 :: a8 :: a9 :: a10 :: a11 :: a12 :: a13 :: a14 :: a15 :: a16 :: l).set 16 (some v) = a0 :: a1 :: a2 :: a3 :: a4 :: a5 :: a6 :: a7 :: a8 :: a9 :: a10 :: a11 :: a12 :: a13 :: a14 :: a15 :: some v :: l := rfl
theorem set17 {a0 a1 a2 a3 a4 a5 a6 a7 a8 a9 a10 a11 a12 a13 a14 a15 a16 a17 : Option V} {l : St} : (a0 :: a1 :: a2 :: a3 :: a4 :: a5 :: a6 :: a7 :: a8 :: a9 :: a10 :: a11 :: a12 :: a13 :: a14 :: a15 :: a16 :: a17 :: l).set 17 (some v) = a0 :: a1 :: a2 :: a3 :: a4 :: a5 :: a6 :: a7 :: a8 :: a9 :: a10 :: a11 :: a12 :: a13 :: a14 :: a15 :: a16 :: some v :: l := rfl
theorem set18 {a0 a1 a2 a3 a4 a5 a6 a7 a8 a9 a10 a11 a12 a13 a14 a15 a16 a17 a18 : Option V} {l : St} : (a0 :: a1 :: a2 :: a3 :: a4 :: a5 :: a6 :: a7 :: a8 :: a9 :: a10 :: a11 :: a12 :: a13 :: a14 :: a15 :: a16 :: a17 :: a18 :: l).set 18 (some v) = a0 :: a1 :: a2 :: a3 :: a4 :: a5 :: a6 :: a7 :: a8 :: a9 :: a10 :: a11 :: a12 :: a13 :: a14 :: a15 :: a16 :: a17 :: some v :: l := rfl
theorem set19 {a0 a1 a2 a3 a4 a5 a6 a7 a8 a9 a10 a11 a12 a13 a14 a15 a16 a17 a18 a19 : Option V} {l : St} : (a0 :: a1 :: a2 :: a3 :: a4 :: a5 :: a6 :: a7 :: a8 :: a9 :: a10 :: a11 :: a12 :: a13 :: a14 :: a15 :: a16 :: a17 :: a18 :: a19 :: l).set 19 (some v) = a0 :: a1 :: a2 :: a3 :: a4 :: a5 :: a6 :: a7 :: a8 :: a9 :: a10 :: a11 :: a12 :: a13 :: a14 :: a15 :: a16 :: a17 :: a18 :: some v :: l := rfl
theorem set20 {a0 a1 a2 a3 a4 a5 a6 a7 a8 a9 a10 a11 a12 a13 a14 a15 a16 a17 a18 a19 a20 : Option V} {l : St} : (a0 :: a1 :: a2 :: a3 :: a4 :: a5 :: a6 :: a7 :: a8 :: a9 :: a10 :: a11 :: a12 :: a13 :: a14 :: a15 :: a16 :: a17 :: a18 :: a19 :: a20 :: l).set 20 (some v) = a0 :: a1 :: a2 :: a3 :: a4 :: a5 :: a6 :: a7 :: a8 :: a9 :: a10 :: a11 :: a12 :: a13 :: a14 :: a15 :: a16 :: a17 :: a18 :: a19 :: some v :: l := rfl
theorem set21 {a0 a1 a2 a3 a4 a5 a6 a7 a8 a9 a10 a11 a12 a13 a14 a15 a16 a17 a18 a19 a20 a21 : Option V} {l : St} : (a0 :: a1 :: a2 :: a3 :: a4 :: a5 :: a6 :: a7 :: a8 :: a9 :: a10 :: a11 :: a12 :: a13 :: a14 :: a15 :: a16 :: a17 :: a18 :: a19 :: a20 :: a21 :: l).set 21 (some v) = a0 :: a1 :: a2 :: a3 :: a4 :: a5 :: a6 :: a7 :: a8 :: a9 :: a10 :: a11 :: a12 :: a13 :: a14 :: a15 :: a16 :: a17 :: a18 :: a19 :: a20 :: some v :: l := rfl
theorem set22 {a0 a1 a2 a3 a4 a5 a6 a7 a8 a9 a10 a11 a12 a13 a14 a15 a16 a17 a18 a19 a20 a21 a22 : Option V} {l : St} : (a0 :: a1 :: a2 :: a3 :: a4 :: a5 :: a6 :: a7 :: a8 :: a9 :: a10 :: a11 :: a12 :: a13 :: a14 :: a15 :: a16 :: a17 :: a18 :: a19 :: a20 :: a21 :: a22 :: l).set 22 (some v) = a0 :: a1 :: a2 :: a3 :: a4 :: a5 :: a6 :: a7 :: a8 :: a9 :: a10 :: a11 :: a12 :: a13 :: a14 :: a15 :: a16 :: a17 :: a18 :: a19 :: a20 :: a21 :: some v :: l := rfl
theorem set23 {a0 a1 a2 a3 a4 a5 a6 a7 a8 a9 a10 a11 a12 a13 a14 a15 a16 a17 a18 a19 a20 a21 a22 a23 : Option V} {l : St} : (a0 :: a1 :: a2 :: a3 :: a4 :: a5 :: a6 :: a7 :: a8 :: a9 :: a10 :: a11 :: a12 :: a13 :: a14 :: a15 :: a16 :: a17 :: a18 :: a19 :: a20 :: a21 :: a22 :: a23 :: l).set 23 (some v) = a0 :: a1 :: a2 :: a3 :: a4 :: a5 :: a6 :: a7 :: a8 :: a9 :: a10 :: a11 :: a12 :: a13 :: a14 :: a15 :: a16 :: a17 :: a18 :: a19 :: a20 :: a21 :: a22 :: some v :: l := rfl
end
end L2.My

/-! W1: own ==, reflected ==, own minus in front; gcd of three; raising an own error; is of bools. -/
namespace L2.My
open PySem PySem.Spec PyProof.Rows PySem.SeqAt
open AutoSeq1 (wpAny_loadPart')

/-! ### the type of a value that is known -/
section
variable {X : Cx} {pins : List (Addr × Obj)} {σ : St} {H : Hp} {s : Shared} {y : V} {u t : Value}
theorem looks_ty (I : Inv X pins σ H s) (ru : RelV y u) (ty : TyX X.K H y t) : PySem.W.Looks (model X.prog X.w) s.heap (typeOf u) t := by
  obtain ⟨P, Z, p, _⟩ := kit_of I ru ty
  exact Z.ty _ _ I.kIn p
end

/-! ### x op y by x's own def -/
section
variable {X : Cx} {C : Addr} {k j : Nat} {ps : List Str} {sp : Sp} {E : XK} {m : Str}
def rOwnC (K : PySem.W.Frag) (C : Addr) (sp : Sp) (E : XK) : R2 := fun x y H Q => ∃ a dx fs t, x = .ref a ∧ H a = some (.ins C dx fs) ∧ TyX K H y t ∧ PySem.W.notFirst K C t = true ∧ sp [x, y] H Q E
theorem op_ownC {op : CmpOp} (hop : ∀ a b, compareOp op a b = richCompare op a b) (h : HasM X.prog X.w X.K X.mg X.base C (cmpInfo op).2.1 k ps sp) (hr : Room j X.A) (hx : Passes (L2.CX X.prog X.w) X E) (hj : k ≤ j := by decide) :
    OpR X (compareOp op) (rOwnC X.K C sp E) := by
  obtain ⟨f, fd, Fo, hm, hb⟩ := h
  intro pins s σ H x y v u Q I rx ry hh
  obtain ⟨a, dx, fs, t, rfl, ha, ty, hn, q⟩ := hh
  cases (show v = Value.ref a from rx)
  obtain ⟨mA, O, _⟩ := ins_get I.hok ha
  obtain ⟨od, J, _⟩ := O.look
  have hb' := looks_ty I ry ty
  obtain ⟨m, hF⟩ := I.fr
  rw [hop]
  refine PySem.W.cmp_K (op := op) (tb := t) hr.units0 hF I.ok.mod.kin J hb' hn hm.at_ hm.fn ?_
  refine wpAny_mono (run_fn Fo (hr.mono hj) hb .nil hx I (.cons rx (.cons ry .nil)) q) (fun w s' z => ?_) fun _ _ x => x
  obtain ⟨z', H', I', rz, qz⟩ := z
  exact SlX.cmpback rz ⟨z', H', I', rz, qz⟩
theorem op_eqC (h : HasM X.prog X.w X.K X.mg X.base C "__eq__" k ps sp) (hr : Room j X.A) (hx : Passes (L2.CX X.prog X.w) X E) (hj : k ≤ j := by decide) :
    OpR X (compareOp .Eq) (rOwnC X.K C sp E) := op_ownC (fun _ _ => rfl) h hr hx hj

/-! ### an int or a bool == an instance: the instance's own def, turned about -/
theorem int_eq_declines_ins_int (b : Int) (u : Tok) (l C dx : Addr) :
    Meets (Builtin.«int.__eq__» ⟨[.int b u, .ref l], []⟩) (fun _ R s => s.heap.get? l = some (PySem.W.instObj C dx) ∧ R (.ok (.ret .notImplemented)) s) :=
  .of_wp fun prog w A R s h => by obtain ⟨hp, g, d, tk, os⟩ := s; obtain ⟨hl, h⟩ := h; wp_walk using wpAny_loadPart' hl, wpAny_load hl; exact ⟨_, rfl, h⟩
theorem int_eq_declines_ins_bool (b : Bool) (l C dx : Addr) :
    Meets (Builtin.«int.__eq__» ⟨[.bool b, .ref l], []⟩) (fun _ R s => s.heap.get? l = some (PySem.W.instObj C dx) ∧ R (.ok (.ret .notImplemented)) s) :=
  .of_wp fun prog w A R s h => by obtain ⟨hp, g, d, tk, os⟩ := s; obtain ⟨hl, h⟩ := h; wp_walk using wpAny_loadPart' hl, wpAny_load hl; exact ⟨_, rfl, h⟩

theorem rc_refl {prog : Program} {w : World} {A : Around} {E : Value → Shared → Prop} {s : Shared} {K : PySem.W.Frag} {x C f : Addr} {ox : Obj} {od : Option Obj} {b : Value} {T : String} {Q : Value → Shared → Prop} (hu : A.units < cLine) (X : K.In s.heap) (I : PySem.W.InstAt s.heap x ox C od)
    (hb : s.TypeIs b T) (hsub : PySem.W.subIn K (.ref C) (.type T) = some false) (hs : PySem.W.findIn K (.ref C) "__eq__" = some (some (.ref f))) (hf : PySem.W.isFn K (.ref f) = true)
    (hd : ∀ Q' : Option Value → Shared → Prop, Q' none s → wpAny (model prog w) A (tryCompare b "__eq__" (.ref x)) Q' E s)
    (h : wpAny (model prog w) A (call (.ref f) [.ref x, b]) (PySem.W.CmpBack Q) E s) : wpAny (model prog w) A (richCompare .Eq b (.ref x)) Q E s := by
  have one : wpAny (model prog w) A (tryCompare (.ref x) "__eq__" b) (fun r s' => ∃ v, r = some v ∧ Q v s') E s := by
    unfold tryCompare
    refine wpAny_bind (PySem.W.ifBound_K X I hs hf (wpAny_mono h (fun v s' hv => ?_) fun _ _ e => e))
    cases v <;> first | exact hv.elim | exact wpAny_pure ⟨_, rfl, hv⟩
  have ot : oneThing? .Eq b (.ref x) = none := hb.oneThing_none _ _
  have hne : (Value.type T != Value.ref C) = true := rfl
  unfold richCompare
  rw [ot]
  refine wpAny_holding (wpAny_bind (wpAny_cRoomFor hu ?_))
  refine wpAny_bind (wpAny_typeOf hb (wpAny_bind (I.type.here ?_)))
  simp only [hne, if_true]
  refine wpAny_bind ((PySem.W.looks_subIn X hsub).here ?_)
  simp only [cmpInfo, Bool.false_eq_true, if_false, Bool.not_false, if_true]
  refine wpAny_bind (hd _ ?_)
  refine wpAny_bind (wpAny_mono one (fun r s' z => ?_) fun _ _ e => e)
  obtain ⟨v, rfl, hq⟩ := z
  exact wpAny_pure hq

def rOwnR (K : PySem.W.Frag) (C : Addr) (sp : Sp) (E : XK) : R2 := fun x y H Q => ∃ a dx fs, y = .ref a ∧ H a = some (.ins C dx fs) ∧
  ((∃ i, x = .int i) ∧ PySem.W.subIn K (.ref C) (.type "int") = some false ∨ (∃ b, x = .bl b) ∧ PySem.W.subIn K (.ref C) (.type "bool") = some false) ∧ sp [y, x] H Q E
theorem op_eqR (h : HasM X.prog X.w X.K X.mg X.base C "__eq__" k ps sp) (hr : Room j X.A) (hx : Passes (L2.CX X.prog X.w) X E) (hj : k ≤ j := by decide) :
    OpR X (compareOp .Eq) (rOwnR X.K C sp E) := by
  obtain ⟨f, fd, Fo, hm, hb⟩ := h
  intro pins s σ H x y v u Q I rx ry hh
  obtain ⟨a, dx, fs, rfl, ha, hxx, q⟩ := hh
  cases (show u = Value.ref a from ry)
  obtain ⟨mA, O, _⟩ := ins_get I.hok ha
  obtain ⟨od, J, _⟩ := O.look
  have call_ : wpAny (model X.prog X.w) X.A (call (.ref f) [.ref a, v]) (PySem.W.CmpBack (EP X pins σ Q)) X.xe s := by
    refine wpAny_mono (run_fn Fo (hr.mono hj) hb .nil hx I (.cons ry (.cons rx .nil)) q) (fun w s' z => ?_) fun _ _ x => x
    obtain ⟨z', H', I', rz, qz⟩ := z
    exact SlX.cmpback rz ⟨z', H', I', rz, qz⟩
  rcases hxx with ⟨⟨i, rfl⟩, hsub⟩ | ⟨⟨b, rfl⟩, hsub⟩
  · obtain ⟨t, rfl⟩ := (show ∃ t, v = Value.int i t from rx)
    exact rc_refl hr.units0 I.kIn J (typeIs_int s i t) hsub hm.at_ hm.fn (fun Q' hq => wpAny_tryCompare_declines (typeIs_int s i t) F.slot_int_eq
      (call_meets F.slot_int_eq (typeIs_int s i t) F.entry_int_eq (F.args_int_eq_2 _ _) (int_eq_declines_ins_int i t a C dx) ⟨O.obj, rfl, hq⟩)) call_
  · cases (show v = Value.bool b from rx)
    exact rc_refl hr.units0 I.kIn J (show s.TypeIs (.bool b) "bool" from rfl) hsub hm.at_ hm.fn (fun Q' hq => wpAny_tryCompare_declines (show s.TypeIs (.bool b) "bool" from rfl) F.slot_bool_eq
      (call_meets F.slot_bool_eq rfl F.entry_int_eq (F.args_int_eq_2 _ _) (int_eq_declines_ins_bool b a C dx) ⟨O.obj, rfl, hq⟩)) call_

/-! ### -x by x's own def -/
def rOwnU (C : Addr) (sp : Sp) (E : XK) : V → Hp → VK → Prop := fun x H Q => ∃ a dx fs, x = .ref a ∧ H a = some (.ins C dx fs) ∧ sp [x] H Q E
theorem un_own (h : HasM X.prog X.w X.K X.mg X.base C "__neg__" k ps sp) (hr : Room j X.A) (hx : Passes (L2.CX X.prog X.w) X E) (hj : k ≤ j := by decide) :
    UnR X (unaryOp .USub) (rOwnU C sp E) := by
  obtain ⟨f, fd, Fo, hm, hb⟩ := h
  intro pins s σ H x v Q I rx hh
  obtain ⟨a, dx, fs, rfl, ha, q⟩ := hh
  cases (show v = Value.ref a from rx)
  obtain ⟨mA, O, _⟩ := ins_get I.hok ha
  obtain ⟨od, J, _⟩ := O.look
  obtain ⟨m, hF⟩ := I.fr
  exact PySem.W.ksp_neg hF I.ok.mod.kin J hm.at_ hm.fn (run_fn Fo (hr.mono hj) hb .nil hx I (.cons rx .nil) q)

/-! ### math.gcd of three -/
theorem args_gcd3 (a b c : Value) : argsOk "math.gcd" ⟨[a, b, c], []⟩ := by unfold argsOk; kernel_rfl
theorem mg_run_gcd3 (a : Int) (t : Tok) (b : Int) (u : Tok) (c : Int) (w : Tok) :
    Gives (Builtin.«math.gcd» ⟨[.int a t, .int b u, .int c w], []⟩) (.int ((((Nat.gcd 0 a.natAbs).gcd b.natAbs).gcd c.natAbs : Nat) : Int)) :=
  .of_wp fun M A E s Q h => by obtain ⟨hp, g, d, tk, os⟩ := s; wp_walk; exact ⟨_, rfl, h⟩
def rGcd3 : List V → Hp → VK → Prop := fun vs H Q => ∃ a b c : Int, vs = [.int a, .int b, .int c] ∧ Q (.int (((a.natAbs.gcd b.natAbs).gcd c.natAbs : Nat) : Int)) H
theorem cr_gcd3 : CallR X (.builtin "math.gcd") rGcd3 := by
  intro pins s σ H vs us Q I r h
  obtain ⟨a, b, c, rfl, q⟩ := h
  cases r with
  | cons ra r =>
    cases r with
    | cons rb r =>
      cases r with
      | cons rc r =>
        cases r
        obtain ⟨t, rfl⟩ := ra
        obtain ⟨u, rfl⟩ := rb
        obtain ⟨w, rfl⟩ := rc
        have g := mg_run_gcd3 a t b u c w
        rw [Nat.gcd_zero_left] at g
        exact call_function_meets PySem.W.MGF.kind_gcd PySem.W.MGF.plain_gcd PySem.W.MGF.entry_gcd (args_gcd3 _ _ _) g.meets ⟨.int _, H, I.tok _, ⟨_, rfl⟩, q⟩
end
end L2.My

/-! W2: where defs stand, what is known of things, Roots. -/
namespace L2.My
open PySem PySem.Spec PyProof.Rows
/-! ### where a def of the text stands behind the top -/
def AtF (K : PySem.W.Frag) (mg : Str → Option Value) (x qual : Str) (st : Stmt) (ps : List Str) : Prop := ∃ f fd, Fun K x qual st f fd ∧ Binds K fd ps [] ∧ mg x = some (.ref f)
def AtM (K : PySem.W.Frag) (C : Addr) (m qual : Str) (st : Stmt) (ps : List Str) : Prop := ∃ f fd, Fun K m qual st f fd ∧ Binds K fd ps [] ∧ Meth K C m f
def AtC (K : PySem.W.Frag) (mg : Str → Option Value) (x : Str) (C : Addr) (qual : Str) (st : Stmt) (ps : List Str) : Prop := ∃ f fd, Fun K "__init__" qual st f fd ∧ Binds K fd ps [] ∧ Mk K C f ∧ mg x = some (.ref C)
def AtX (K : PySem.W.Frag) (mg : Str → Option Value) (x : Str) (C : Addr) (qual : Str) (st : Stmt) (ps : List Str) : Prop := ∃ f fd, Fun K "__init__" qual st f fd ∧ Binds K fd ps [] ∧ mg x = some (.ref C) ∧
  PySem.W.findIn K (.ref C) "__init__" = some (some (.ref f)) ∧ PySem.W.typeIn K (.ref f) = some (.type "function")
section
variable {P : Program} {w : World} {K : PySem.W.Frag} {mg : Str → Option Value} {base : Heap} {x m qual : Str} {st : Stmt} {N ps : List Str} {k : Nat} {sp : Sp} {C : Addr}
abbrev BodyOk (P : Program) (w : World) (K : PySem.W.Frag) (mg : Str → Option Value) (base : Heap) (N : List Str) (qual : Str) (st : Stmt) (k : Nat) (sp : Sp) (f : Addr) : Prop :=
  ∀ (cdv : Value) (A : Around) (outer : List Env) (s : Shared) (H : Hp) (vs : List V) (Q : VK) (E : XK), Room k (A.deeper (envOfC qual (defScope st) s.heap.objs.size f cdv)) → sp vs H Q E →
    ∃ t, PSs (cxOf (L2.CX P w) P w K mg base N qual (defScope st) f cdv A outer s H E) (defBody st) t ∧ t { nx := fun _ H' => Q .non H', rt := Q } (start N vs) H
theorem AtF.ok (D : AtF K mg x qual st ps) (S : FnScope N ps (defScope st)) (len : ∀ vs H Q E, sp vs H Q E → vs.length = ps.length) (h : ∀ {f : Addr}, BodyOk P w K mg base N qual st k sp f) : Has P w K mg base x (k + 1) ps sp := by
  obtain ⟨f, fd, Fo, b, g⟩ := D
  exact ⟨f, fd, Fo.okX S len h, g, Fo.kp, b⟩
theorem AtM.ok (D : AtM K C m qual st ps) (S : FnScope N ps (defScope st)) (len : ∀ vs H Q E, sp vs H Q E → vs.length = ps.length) (h : ∀ {f : Addr}, BodyOk P w K mg base N qual st k sp f) : HasM P w K mg base C m (k + 1) ps sp := by
  obtain ⟨f, fd, Fo, b, g⟩ := D
  exact ⟨f, fd, Fo.okX S len h, g, b⟩
theorem AtC.ok (D : AtC K mg x C qual st ps) (S : FnScope N ps (defScope st)) (len : ∀ vs H Q E, sp vs H Q E → vs.length = ps.length) (h : ∀ {f : Addr}, BodyOk P w K mg base N qual st k sp f) : HasC P w K mg base x C (k + 1) ps sp := by
  obtain ⟨f, fd, Fo, b, g, h2⟩ := D
  exact ⟨f, fd, Fo.okX S len h, g, h2, b⟩
/-- an own error class that is made -/
def HasX (P : Program) (w : World) (K : PySem.W.Frag) (mg : Str → Option Value) (base : Heap) (x : Str) (C : Addr) (k : Nat) (ps : List Str) (sp : Sp) : Prop :=
  ∃ f fd, FnOk P w K mg base (L2.CX P w) k f fd ps sp ∧ mg x = some (.ref C) ∧ PySem.W.findIn K (.ref C) "__init__" = some (some (.ref f)) ∧ PySem.W.typeIn K (.ref f) = some (.type "function") ∧ Binds K fd ps []
theorem AtX.ok (D : AtX K mg x C qual st ps) (S : FnScope N ps (defScope st)) (len : ∀ vs H Q E, sp vs H Q E → vs.length = ps.length) (h : ∀ {f : Addr}, BodyOk P w K mg base N qual st k sp f) : HasX P w K mg base x C (k + 1) ps sp := by
  obtain ⟨f, fd, Fo, b, g, h2, h3⟩ := D
  exact ⟨f, fd, Fo.okX S len h, g, h2, h3, b⟩
end
/-- making an own error, to be raised -/
theorem pm_h {X : Cx} {x : Str} {C : Addr} {k j : Nat} {ps : List Str} {sp : Sp} {e : Expr} {es : List Expr} {ta : TA} {p pos : Pos} (T : OexC X.K C) (h : HasX X.prog X.w X.K X.mg X.base x C k ps sp) (hr : Room j X.A) (ha : PA X (e :: es) ta) (hj : k + 1 ≤ j := by decide) (hg : Gl X x := by rfl)
    (hdb : (x == ("__debug__" : Str)) = false := by decide) (he : starEach (e :: es) X.env = (false, eval e X.env) :: starEach es X.env := by rfl) (hpl : (backTo pos (starEach es X.env)).any (·.1) = false := by rfl) :
    PMk X (.Call (.Name x p) (e :: es) [] pos) (tMkO C sp [] ta) := by
  obtain ⟨f, fd, Fo, hm, iC, tI, hb⟩ := h
  exact pmk_oex T iC tI Fo (hr.mono hj) hb .nil passL hg hm ha hdb he hpl
/-! ### what is known of things -/
/-- what stands is as it was, but for the object at p -/
def SameX (p : Addr) (H H' : Hp) : Prop := ∀ b o, b ≠ p → H b = some o → H' b = some o
theorem Same.x {p : Addr} {H H' : Hp} (h : Same H H') : SameX p H H' := fun b o _ e => h b o e
theorem SameX.trans {p : Addr} {H H1 H2 : Hp} (a : SameX p H H1) (b : SameX p H1 H2) : SameX p H H2 := fun c o n e => b c o n (a c o n e)
theorem SameX.upd {p : Addr} {H H1 : Hp} {o : HO} (a : SameX p H H1) : SameX p H (upd H1 p o) := fun c u n e => by rw [upd_ne n]; exact a c u n e
theorem Same.new {H : Hp} {p : Addr} {o : HO} (h : H p = none) : Same H (upd H p o) := fun a u e => by rw [upd_ne (ne_of_none e h)]; exact e
def rootF (t r b : Int) : List (Str × V) := [("top", .int t), ("root", .int r), ("bottom", .int b)]
/-- a number as the package keeps it -/
def RootAt (c : Addr) (H : Hp) (v : V) (t r b : Int) : Prop := ∃ a dx, v = .ref a ∧ H a = some (.ins c dx (rootF t r b))
theorem RootAt.same {c : Addr} {H H' : Hp} {v : V} {t r b : Int} (h : RootAt c H v t r b) (s : Same H H') : RootAt c H' v t r b := by
  obtain ⟨a, dx, rfl, e⟩ := h
  exact ⟨a, dx, rfl, s _ _ e⟩
/-- a thing of a kind that is known -/
inductive Th (c : Addr) (H : Hp) : V → Prop
  | non : Th c H .non
  | bl (b : Bool) : Th c H (.bl b)
  | int (i : Int) : Th c H (.int i)
  | str (s : Str) : Th c H (.str s)
  | lst (a : Addr) (xs : List V) (e : H a = some (.lst xs)) : Th c H (.ref a)
  | tup (a : Addr) (xs : List V) (e : H a = some (.tup xs)) : Th c H (.ref a)
  | dK (a : Addr) (kvs : List (Key × V)) (e : H a = some (.dK kvs)) : Th c H (.ref a)
  | root (a dx : Addr) (t r b : Int) (e : H a = some (.ins c dx (rootF t r b))) : Th c H (.ref a)
theorem Th.same {c : Addr} {H H' : Hp} {v : V} (h : Th c H v) (s : Same H H') : Th c H' v := by
  cases h with
  | non => exact .non
  | bl b => exact .bl b
  | int i => exact .int i
  | str s => exact .str s
  | lst a xs e => exact .lst a xs (s _ _ e)
  | tup a xs e => exact .tup a xs (s _ _ e)
  | dK a xs e => exact .dK a xs (s _ _ e)
  | root a dx t r b e => exact .root a dx t r b (s _ _ e)
def isI : V → Bool
  | .int _ => true
  | _ => false
def isB : V → Bool
  | .bl _ => true
  | _ => false
def isC (c : Addr) (H : Hp) : V → Bool
  | .ref a => match H a with
    | some (.ins C _ _) => decide (C = c)
    | _ => false
  | _ => false
/-- what isinstance says of the kinds, for the class at C -/
structure KiT (K : PySem.W.Frag) (c : Addr) : Prop where
  ty : Cls K c
  ha : PySem.W.findIn K (.ref c) "__class__" = some (some (.builtin "object.__class__"))
  hn : PySem.W.specialIn K (.builtin "object.__class__") "__get__" = some (some (.builtin "getset_descriptor.__get__"))
  htk : PySem.W.takesIn K (.builtin "object.__class__") = some true
  hm : PySem.W.mroIn K c (.type "object") = some true
  i : PySem.W.kitOne K (.ref c) (.type "int") = some false
  b : PySem.W.kitOne K (.ref c) (.type "bool") = some false
  cc : PySem.W.kitOne K (.ref c) (.ref c) = some true
  k1 : PySem.W.kitOne K (.type "NoneType") (.ref c) = some false
  k2 : PySem.W.kitOne K (.type "bool") (.ref c) = some false
  k3 : PySem.W.kitOne K (.type "int") (.ref c) = some false
  k4 : PySem.W.kitOne K (.type "str") (.ref c) = some false
  k5 : PySem.W.kitOne K (.type "list") (.ref c) = some false
  k6 : PySem.W.kitOne K (.type "tuple") (.ref c) = some false
  k7 : PySem.W.kitOne K (.type "dict") (.ref c) = some false
  n1 : PySem.W.subIn K (.type "NoneType") (.ref c) = some false
  n2 : PySem.W.subIn K (.type "bool") (.ref c) = some false
  n3 : PySem.W.subIn K (.type "int") (.ref c) = some false
  n4 : PySem.W.subIn K (.type "str") (.ref c) = some false
  n5 : PySem.W.subIn K (.type "list") (.ref c) = some false
  n6 : PySem.W.subIn K (.type "tuple") (.ref c) = some false
  n7 : PySem.W.subIn K (.type "dict") (.ref c) = some false
  s1 : PySem.W.subIn K (.ref c) (.type "int") = some false
  s2 : PySem.W.subIn K (.ref c) (.type "bool") = some false
theorem Th.ty {K : PySem.W.Frag} {c : Addr} {H : Hp} {v : V} (h : Th c H v) (T : KiT K c) : ∃ t, TyX K H v t ∧ PySem.W.kitOne K t (.type "int") = some (isI v || isB v) ∧ PySem.W.kitOne K t (.type "bool") = some (isB v) ∧
    PySem.W.kitOne K t (.ref c) = some (isC c H v) ∧ PySem.W.notFirst K c t = true := by
  have nf : ∀ t, PySem.W.subIn K t (.ref c) = some false → PySem.W.notFirst K c t = true := fun t e => by
    unfold PySem.W.notFirst
    rw [e]
    simp
  have kb : ∀ (a b : String) (r : Bool), kitB a b = some r → PySem.W.kitOne K (.type a) (.type b) = some r := fun _ _ _ h => kit_ty h
  have ib : ∀ {a : Addr} {o : HO} (_ : H a = some o) (_ : ∀ C dx fs, o ≠ .ins C dx fs), isC c H (.ref a) = false := fun {a o} e n => by
    show (match H a with | some (.ins C _ _) => decide (C = c) | _ => false) = false
    rw [e]
    cases o <;> first | rfl | exact absurd rfl (n _ _ _)
  cases h with
  | non => exact ⟨_, .base .non, kb "NoneType" "int" false (by decide +kernel), kb "NoneType" "bool" false (by decide +kernel), T.k1, nf _ T.n1⟩
  | bl b => exact ⟨_, .base (.bl b), kb "bool" "int" true (by decide +kernel), kb "bool" "bool" true (by decide +kernel), T.k2, nf _ T.n2⟩
  | int i => exact ⟨_, .base (.int i), kb "int" "int" true (by decide +kernel), kb "int" "bool" false (by decide +kernel), T.k3, nf _ T.n3⟩
  | str s => exact ⟨_, .base (.str s), kb "str" "int" false (by decide +kernel), kb "str" "bool" false (by decide +kernel), T.k4, nf _ T.n4⟩
  | lst a xs e => exact ⟨_, .base (.lst e), kb "list" "int" false (by decide +kernel), kb "list" "bool" false (by decide +kernel), (by rw [ib e (by intros; intro q; cases q)]; exact T.k5), nf _ T.n5⟩
  | tup a xs e => exact ⟨_, .base (.tup e), kb "tuple" "int" false (by decide +kernel), kb "tuple" "bool" false (by decide +kernel), (by rw [ib e (by intros; intro q; cases q)]; exact T.k6), nf _ T.n6⟩
  | dK a xs e => exact ⟨_, .base (.dK e), kb "dict" "int" false (by decide +kernel), kb "dict" "bool" false (by decide +kernel), (by rw [ib e (by intros; intro q; cases q)]; exact T.k7), nf _ T.n7⟩
  | root a dx t r b e =>
    have ic : isC c H (.ref a) = true := by
      show (match H a with | some (.ins C _ _) => decide (C = c) | _ => false) = true
      rw [e]
      exact decide_eq_true rfl
    exact ⟨_, .base (.ins e T.ty T.ha T.hn T.htk T.hm), T.i, T.b, (by rw [ic]; exact T.cc), (by unfold PySem.W.notFirst; simp)⟩
theorem w_isi {K : PySem.W.Frag} {H : Hp} {x : V} {n : String} {t : Value} {b : Bool} {Q : VK} (ty : TyX K H x t) (k : PySem.W.kitOne K t (.type n) = some b) (q : Q (.bl b) H) : rIsi K [x, .ty n] H Q := ⟨x, .ty n, t, _, b, rfl, .ty n, ty, k, q⟩
theorem w_isiC {K : PySem.W.Frag} {H : Hp} {x : V} {c : Addr} {t : Value} {b : Bool} {Q : VK} (ty : TyX K H x t) (k : PySem.W.kitOne K t (.ref c) = some b) (q : Q (.bl b) H) : rIsi K [x, .ref c] H Q := ⟨x, .ref c, t, _, b, rfl, .own c, ty, k, q⟩

/-! ### more steps -/
section
variable {K : PySem.W.Frag} {σ : St} {H : Hp} {Q : VK} {te : TE} {tl : TA} {a : Addr} {xs : List V} {i : Int} {v : V}
theorem sz1000 {n : Nat} (h : n ≤ 1000) : n ≤ sizeLine := Nat.le_trans h (by decide)
theorem Same.upd_new {H H1 : Hp} {p : Addr} {o : HO} (s : Same H H1) (h : H1 p = none) : Same H (upd H1 p o) := s.trans (Same.new h)
/-- a new tuple, a new list: what is asked -/
def NewT (xs : List V) (H : Hp) (Q : VK) : Prop := xs.length ≤ sizeLine ∧ ∀ p, H p = none → Q (.ref p) (upd H p (.tup xs))
def NewL (xs : List V) (H : Hp) (Q : VK) : Prop := xs.length ≤ sizeLine ∧ ∀ p, H p = none → Q (.ref p) (upd H p (.lst xs))
theorem k_tup (hl : Nat.ble xs.length 1000 = true) (q : ∀ p H2, H p = none → Same H H2 → H2 p = some (.tup xs) → Q (.ref p) H2) : NewT xs H Q :=
  ⟨sz1000 (Nat.le_of_ble_eq_true hl), fun p hp => q p _ hp (Same.new hp) upd_same⟩
theorem k_lst (hl : Nat.ble xs.length 1000 = true) (q : ∀ p H2, H p = none → Same H H2 → H2 p = some (.lst xs) → Q (.ref p) H2) : NewL xs H Q :=
  ⟨sz1000 (Nat.le_of_ble_eq_true hl), fun p hp => q p _ hp (Same.new hp) upd_same⟩
theorem w_tup (q : tl σ H fun xs H1 => NewT xs H1 Q) : tTup tl σ H Q := q
theorem w_lst (q : tl σ H fun xs H1 => NewL xs H1 Q) : tLst tl σ H Q := q
theorem w_ixL (h : H a = some (.lst xs)) (e : atI xs i = some v) (q : Q v H) : rIx K (.ref a) (.int i) H Q := .inl ⟨a, xs, i, v, rfl, rfl, SqL.of h, e, q⟩
theorem w_ixT (h : H a = some (.tup xs)) (e : atI xs i = some v) (q : Q v H) : rIx K (.ref a) (.int i) H Q := .inr (.inl ⟨a, xs, i, v, rfl, rfl, SqT.of h, e, q⟩)
/-- a field of an instance: what is asked -/
def FldP (K : PySem.W.Frag) (f : Str) (x : V) (H : Hp) (Q : VK) : Prop := ∃ a C dx fs v, x = .ref a ∧ H a = some (.ins C dx fs) ∧ Cls K C ∧ NoAttr K C f ∧ fs.lookup f = some v ∧ Q v H
theorem w_fld {C dx : Addr} {fs : List (Str × V)} {f : Str} (h : H a = some (.ins C dx fs)) (hc : Cls K C) (hn : NoAttr K C f) (l : fs.lookup f = some v) (q : Q v H) : FldP K f (.ref a) H Q :=
  ⟨a, C, dx, fs, v, rfl, h, hc, hn, l, q⟩
theorem w_fldE {f : Str} (q : te σ H fun x H1 => FldP K f x H1 Q) : tFld K te f σ H Q := q
/-- a field stored: what is asked -/
def StoP (K : PySem.W.Frag) (f : Str) (y x : V) (H : Hp) (N : Hp → Prop) : Prop := ∃ a C dx fs, x = .ref a ∧ H a = some (.ins C dx fs) ∧ Cls K C ∧ NoAttr K C f ∧ fs.length < 1000 ∧ N (upd H a (.ins C dx (putF f y fs)))
theorem w_sto {C dx : Addr} {fs : List (Str × V)} {f : Str} {N : Hp → Prop} (h : H a = some (.ins C dx fs)) (hc : Cls K C) (hn : NoAttr K C f) (l : Nat.blt fs.length 1000 = true) (q : ∀ H', SameX a H H' → H' a = some (.ins C dx (putF f v fs)) → N H') : StoP K f v (.ref a) H N :=
  ⟨a, C, dx, fs, rfl, h, hc, hn, by simpa using l, q _ (SameX.upd fun _ _ _ e => e) upd_same⟩
theorem w_stoE {f : Str} {tv : TE} {nx bk ct : L2.St → Hp → Prop} {rt : VK} (q : tv σ H fun y H1 => te σ H1 fun x H2 => StoP K f y x H2 fun H3 => nx σ H3) : sFld K te tv f ⟨nx, rt, bk, ct⟩ σ H := q
theorem rf_top (t r b : Int) : (rootF t r b).lookup ("top" : Str) = some (.int t) := by simp [rootF, List.lookup]
theorem rf_root (t r b : Int) : (rootF t r b).lookup ("root" : Str) = some (.int r) := by
  have : (("root" : Str) == "top") = false := by decide +kernel
  simp [rootF, List.lookup, this]
theorem rf_bottom (t r b : Int) : (rootF t r b).lookup ("bottom" : Str) = some (.int b) := by
  have h1 : (("bottom" : Str) == "top") = false := by decide +kernel
  have h2 : (("bottom" : Str) == "root") = false := by decide +kernel
  simp [rootF, List.lookup, h1, h2]
theorem put_root (t r b : Int) : putF "bottom" (.int b) (putF "root" (.int r) (putF "top" (.int t) [])) = rootF t r b := by
  have h1 : ¬ (("top" : Str) = "root") := by decide +kernel
  have h2 : ¬ (("top" : Str) = "bottom") := by decide +kernel
  have h3 : ¬ (("root" : Str) = "bottom") := by decide +kernel
  simp [putF, rootF, h1, h2, h3]
theorem put1 (v : V) : putF "top" v [] = [(("top" : Str), v)] := rfl
theorem put2 (u v : V) : putF "root" v [(("top" : Str), u)] = [(("top" : Str), u), ("root", v)] := by
  have h1 : ¬ (("top" : Str) = "root") := by decide +kernel
  simp [putF, h1]
theorem put3 (t r b : Int) : putF "bottom" (.int b) [(("top" : Str), .int t), ("root", .int r)] = rootF t r b := by
  have h2 : ¬ (("top" : Str) = "bottom") := by decide +kernel
  have h3 : ¬ (("root" : Str) = "bottom") := by decide +kernel
  simp [putF, rootF, h2, h3]
theorem rf_eq {t r b t' r' b' : Int} : rootF t r b = rootF t' r' b' ↔ t = t' ∧ r = r' ∧ b = b' := by simp [rootF]
end
/-! ### loops and comprehensions: the thing that is walked is known -/
section
variable {K : PySem.W.Frag} {σ : St} {H : Hp} {Q : VK} {tl : TE} {ta : TA} {g : TG} {tb : TS} {D : Ends} {p : Addr} {xs : List V} {tt : TT} {te : TE} {ws : List Nat}
def ForT (K : PySem.W.Frag) (g : TG) (tb : TS) (D : Ends) (σ : St) (x : V) (H : Hp) : Prop := tFor (iTup K (tC x)) g tb D σ H
def ForL (K : PySem.W.Frag) (g : TG) (tb : TS) (D : Ends) (σ : St) (x : V) (H : Hp) : Prop := tFor (iList K (tC x)) g tb D σ H
def ForR (g : TG) (tb : TS) (D : Ends) (σ : St) (vs : List V) (H : Hp) : Prop := tFor (iRng1 fun _ H Q => Q vs H) g tb D σ H
def ForR2 (g : TG) (tb : TS) (D : Ends) (σ : St) (vs : List V) (H : Hp) : Prop := tFor (iRng2 fun _ H Q => Q vs H) g tb D σ H
def CompL (K : PySem.W.Frag) (g : TG) (tt : TT) (te : TE) (ws : List Nat) (σ : St) (x : V) (H : Hp) (Q : VK) : Prop := tLc (iList K (tC x)) g tt te ws σ H Q
def CompT (K : PySem.W.Frag) (g : TG) (tt : TT) (te : TE) (ws : List Nat) (σ : St) (x : V) (H : Hp) (Q : VK) : Prop := tLc (iTup K (tC x)) g tt te ws σ H Q
def CompR (g : TG) (tt : TT) (te : TE) (ws : List Nat) (σ : St) (vs : List V) (H : Hp) (Q : VK) : Prop := tLc (iRng1 fun _ H Q => Q vs H) g tt te ws σ H Q
theorem w_forT (q : tl σ H fun x H1 => ForT K g tb D σ x H1) : tFor (iTup K tl) g tb D σ H := q
theorem w_forL (q : tl σ H fun x H1 => ForL K g tb D σ x H1) : tFor (iList K tl) g tb D σ H := q
theorem w_forR (q : ta σ H fun vs H1 => ForR g tb D σ vs H1) : tFor (iRng1 ta) g tb D σ H := q
theorem w_forR2 (q : ta σ H fun vs H1 => ForR2 g tb D σ vs H1) : tFor (iRng2 ta) g tb D σ H := q
theorem w_lcL (q : tl σ H fun x H1 => CompL K g tt te ws σ x H1 Q) : tLc (iList K tl) g tt te ws σ H Q := q
theorem w_lcT (q : tl σ H fun x H1 => CompT K g tt te ws σ x H1 Q) : tLc (iTup K tl) g tt te ws σ H Q := q
theorem w_lcR (q : ta σ H fun vs H1 => CompR g tt te ws σ vs H1 Q) : tLc (iRng1 ta) g tt te ws σ H Q := q
theorem k_forT {nx bk ct : L2.St → Hp → Prop} {rt : VK} (Pv : Nat → St → Hp → Prop) (h : H p = some (.tup xs)) (h0 : Pv 0 σ H) (hl : ∀ i σ H, Pv i σ H → H p = some (.tup xs))
    (hs : ∀ i x σ H, xs[i]? = some x → Pv i σ H → g x σ H fun σ2 H2 => tb ⟨Pv (i + 1), rt, nx, Pv (i + 1)⟩ σ2 H2) (hd : ∀ σ H, Pv xs.length σ H → nx σ H) : ForT K g tb ⟨nx, rt, bk, ct⟩ σ (.ref p) H :=
  ⟨p, rfl, ⟨_, SqT.of h⟩, for_tup (xs := xs) Pv h0 (fun i σ H _ q => SqT.of (hl i σ H q)) hs hd⟩
theorem k_forL {nx bk ct : L2.St → Hp → Prop} {rt : VK} (Pv : Nat → St → Hp → Prop) (h : SqL K H p xs) (h0 : Pv 0 σ H) (hl : ∀ i σ H, Pv i σ H → SqL K H p xs)
    (hs : ∀ i x σ H, xs[i]? = some x → Pv i σ H → g x σ H fun σ2 H2 => tb ⟨Pv (i + 1), rt, nx, Pv (i + 1)⟩ σ2 H2) (hd : ∀ σ H, Pv xs.length σ H → nx σ H) : ForL K g tb ⟨nx, rt, bk, ct⟩ σ (.ref p) H :=
  ⟨p, rfl, ⟨_, h⟩, for_list (xs := xs) Pv h0 (fun i σ H _ q => hl i σ H q) hs hd⟩
theorem k_forR {nx bk ct : L2.St → Hp → Prop} {rt : VK} {n : Int} (Pv : Nat → St → Hp → Prop) (h1 : -(2 ^ 62) ≤ n) (h2 : n < 2 ^ 62) (h0 : Pv 0 σ H)
    (hs : ∀ i σ H, i < n.toNat → Pv i σ H → g (.int (0 + (i : Nat))) σ H fun σ2 H2 => tb ⟨Pv (i + 1), rt, nx, Pv (i + 1)⟩ σ2 H2) (hd : ∀ σ H, Pv n.toNat σ H → nx σ H) : ForR g tb ⟨nx, rt, bk, ct⟩ σ [.int n] H :=
  ⟨n, rfl, h1, h2, for_range (lo := 0) (n := n.toNat) Pv h0 hs hd⟩
theorem k_lcR {n : Int} (Pv : Nat → Addr → Hp → Prop) (h1 : -(2 ^ 62) ≤ n) (h2 : n < 2 ^ 62) (h0 : ∀ D, H D = none → Pv 0 D (upd H D (.lst [])))
    (hs : ∀ i D H, i < n.toNat → Pv i D H → g (.int (0 + (i : Nat))) (wipe σ ws) H fun σ2 H2 => wipe σ2 ws = wipe σ ws ∧ tt σ2 H2 fun b H3 =>
      if b = true then te σ2 H3 fun y H4 => ∃ acc, H4 D = some (.lst acc) ∧ acc.length < sizeLine ∧ Pv (i + 1) D (upd H4 D (.lst (acc ++ [y]))) else Pv (i + 1) D H3) (hd : ∀ D H, Pv n.toNat D H → Q (.ref D) H) : CompR g tt te ws σ [.int n] H Q :=
  ⟨n, rfl, h1, h2, fun D hD => lc_range (lo := 0) (n := n.toNat) (fun i H => Pv i D H) (h0 D hD) (fun i H hi q => hs i D H hi q) (fun H q => hd D H q)⟩
theorem k_lcL (Pv : Nat → Addr → Hp → Prop) (h : SqL K H p xs) (h0 : ∀ D, H D = none → Pv 0 D (upd H D (.lst []))) (hl : ∀ i D H, Pv i D H → SqL K H p xs)
    (hs : ∀ i x D H, xs[i]? = some x → Pv i D H → g x (wipe σ ws) H fun σ2 H2 => wipe σ2 ws = wipe σ ws ∧ tt σ2 H2 fun b H3 =>
      if b = true then te σ2 H3 fun y H4 => ∃ acc, H4 D = some (.lst acc) ∧ acc.length < sizeLine ∧ Pv (i + 1) D (upd H4 D (.lst (acc ++ [y]))) else Pv (i + 1) D H3) (hd : ∀ D H, Pv xs.length D H → Q (.ref D) H) : CompL K g tt te ws σ (.ref p) H Q :=
  ⟨p, rfl, ⟨_, h⟩, fun D hD => lc_list (xs := xs) (fun i H => Pv i D H) (h0 D hD) (fun i H _ q => hl i D H q) (fun i x H hx q => hs i x D H hx q) (fun H q => hd D H q)⟩
end
/-! ### instances made -/
/-- C(..): what is asked -/
def MkC (C : Addr) (sp : Sp) (E : XK) (vs : List V) (H : Hp) (Q : VK) : Prop := ∀ x dx, H x = none → H dx = none → dx ≠ x →
  sp (.ref x :: vs) (upd (upd H dx (.own x)) x (.ins C dx [])) (fun v H2 => v = .non ∧ Q (.ref x) H2) E
theorem w_mkC {C : Addr} {sp : Sp} {E : L2.St → XK} {tl : TA} {σ : L2.St} {H : Hp} {Q : VK} (q : tl σ H fun vs H1 => MkC C sp (E σ) vs H1 Q) : tMakeS C sp E tl σ H Q := q
/-- o.m(..): what is asked of o -/
def MethP (C : Addr) (m : Str) (x : V) (H : Hp) (N : Hp → Prop) : Prop := ∃ a dx fs, x = .ref a ∧ H a = some (.ins C dx fs) ∧ fs.lookup m = none ∧ N H
theorem w_meth {C : Addr} {m : Str} {sp : Sp} {E : L2.St → XK} {ta : TE} {tl : TA} {σ : L2.St} {H : Hp} {Q : VK} (q : ta σ H fun x H1 => MethP C m x H1 fun H2 => tl σ H2 fun vs H3 => sp (x :: vs) H3 Q (E σ)) : tMethS C m sp E ta tl σ H Q := q
theorem k_meth {C a dx : Addr} {m : Str} {fs : List (Str × V)} {H : Hp} {N : Hp → Prop} (h : H a = some (.ins C dx fs)) (l : fs.lookup m = none) (q : N H) : MethP C m (.ref a) H N := ⟨a, dx, fs, rfl, h, l, q⟩
theorem rf_none {t r b : Int} {m : Str} (h1 : (m == ("top" : Str)) = false) (h2 : (m == ("root" : Str)) = false) (h3 : (m == ("bottom" : Str)) = false) : (rootF t r b).lookup m = none := by simp [rootF, List.lookup, h1, h2, h3]
/-! ### own errors with one field -/
def spX (C : Addr) (f : Str) : Sp := fun vs H Q _ => ∃ (a : Addr) (v : V), vs = [.ref a, v] ∧ H a = some (exo a C none) ∧ ∀ d, H d = none → d ≠ a → Q .non (upd (upd H d (exd d [(f, v)])) a (exo a C (some d)))
/-- an own error made: what is asked -/
def MkOP (C : Addr) (sp : Sp) (vs : List V) (H : Hp) (Q : XK) : Prop := vs.length ≤ 1000 ∧ ∀ a, H a = none → sp (.ref a :: (vs ++ [])) (upd H a (exo a C none))
    (fun v H2 => v = .non ∧ ∃ (d : Addr) (fs : List (Str × V)), H2 a = some (exo a C (some d)) ∧ H2 d = some (exd d fs) ∧ H d = none ∧ Q (.ref C) (some d) (upd (del H2 a) d (.xd fs))) (fun _ _ _ => False)
theorem w_mkO {C : Addr} {sp : Sp} {tl : TA} {σ : St} {H : Hp} {Q : XK} (q : tl σ H fun vs H1 => MkOP C sp vs H1 Q) : tMkO C sp [] tl σ H Q := q
theorem k_mkO {C : Addr} {f : Str} {v : V} {H : Hp} {Q : XK} (h : ∀ d H2, H d = none → Same H H2 → H2 d = some (.xd [(f, v)]) → Q (.ref C) (some d) H2) : MkOP C (spX C f) [v] H Q := by
  refine ⟨by simp, fun a ha => ⟨a, v, rfl, upd_same, fun d hd hn => ⟨rfl, d, [(f, v)], upd_same, ?_, ?_, ?_⟩⟩⟩
  · rw [upd_ne hn, upd_same]
  · rw [upd_ne hn] at hd; exact hd
  · have hd' : H d = none := by rw [upd_ne hn] at hd; exact hd
    refine h d _ hd' (fun b o e => ?_) upd_same
    have n1 : b ≠ d := ne_of_none e hd'
    have n2 : b ≠ a := ne_of_none e ha
    rw [upd_ne n1, del_ne n2, upd_ne n2, upd_ne n1, upd_ne n2]
    exact e
end L2.My

/-! W3: built-ins by name, stores into lists, products, the state that laws draw from. -/
namespace L2.My
open PySem PySem.Spec PyProof.Rows
section
variable {X : Cx} {K : PySem.W.Frag} {σ : L2.St} {H : Hp} {Q : VK} {te : TE} {tl : TA} {a p : Addr} {xs : List V} {i j : Int} {v : V}
def rInt : List V → Hp → VK → Prop := fun vs H Q => (∃ i, vs = [.int i] ∧ Q (.int i) H) ∨ ∃ k, vs = [.bl k] ∧ Q (.int (if k then 1 else 0)) H
theorem cn_int : CallR X (.type "int") rInt := call_int1
theorem w_int (q : Q (.int i) H) : rInt [.int i] H Q := .inl ⟨i, rfl, q⟩
theorem w_intB {b : Bool} (q : Q (.int (if b then 1 else 0)) H) : rInt [.bl b] H Q := .inr ⟨b, rfl, q⟩
def rAbs : List V → Hp → VK → Prop := fun vs H Q => ∃ i, vs = [.int i] ∧ Q (.int (if i < 0 then -i else i)) H
theorem cn_abs : CallR X (.builtin "abs") rAbs := call_abs
theorem w_abs (q : Q (.int (i.natAbs : Int)) H) : rAbs [.int i] H Q := ⟨i, rfl, by
  have e : (if i < 0 then -i else i) = (i.natAbs : Int) := by split <;> omega
  rw [e]; exact q⟩
def rLen (K : PySem.W.Frag) : List V → Hp → VK → Prop := fun vs H Q => ∃ x n, vs = [x] ∧ LenV K x H n ∧ Q (.int n) H
theorem cn_len : CallR X (.builtin "len") (rLen X.K) := call_len
theorem w_lenL (h : SqL K H a xs) (q : Q (.int (xs.length : Nat)) H) : rLen K [.ref a] H Q := ⟨_, _, rfl, .inl ⟨_, h, rfl⟩, q⟩
theorem w_lenT (h : SqT K H a xs) (q : Q (.int (xs.length : Nat)) H) : rLen K [.ref a] H Q := ⟨_, _, rfl, .inr ⟨_, h, rfl⟩, q⟩
def rListOf (K : PySem.W.Frag) : List V → Hp → VK → Prop := fun vs H Q => ∃ p ys, vs = [.ref p] ∧ (SqL K H p ys ∨ SqT K H p ys) ∧ ∀ l, H l = none → Q (.ref l) (upd H l (.lst ys))
theorem cn_list : CallR X (.type "list") (rListOf X.K) := call_list_of
theorem w_listL (h : SqL K H a xs) (q : ∀ l H2, H l = none → Same H H2 → H2 l = some (.lst xs) → Q (.ref l) H2) : rListOf K [.ref a] H Q := ⟨a, xs, rfl, .inl h, fun l hl => q l _ hl (Same.new hl) upd_same⟩
theorem w_listT (h : SqT K H a xs) (q : ∀ l H2, H l = none → Same H H2 → H2 l = some (.lst xs) → Q (.ref l) H2) : rListOf K [.ref a] H Q := ⟨a, xs, rfl, .inr h, fun l hl => q l _ hl (Same.new hl) upd_same⟩
def NewD (H : Hp) (Q : VK) : Prop := ∀ p, H p = none → Q (.ref p) (upd H p (.dK []))
theorem w_dnew (q : NewD H Q) : tDNewK σ H Q := q
theorem k_dnew (q : ∀ p H2, H p = none → Same H H2 → H2 p = some (.dK []) → Q (.ref p) H2) : NewD H Q := fun p hp => q p _ hp (Same.new hp) upd_same
/-- a slice of a list -/
def SlP (r : V → Option Int → Option Int → Hp → VK → Prop) (x : V) (lo hi : Option Int) (H : Hp) (Q : VK) : Prop := r x lo hi H Q
theorem w_sl {r : V → Option Int → Option Int → Hp → VK → Prop} {t1 t2 : TO} (q : te σ H fun x H1 => t1 σ H1 fun l H2 => t2 σ H2 fun u H3 => SlP r x l u H3 Q) : tSl r te t1 t2 σ H Q := q
theorem k_slL {lo hi : Option Int} (h : SqL K H a xs) (q : ∀ l H2, H l = none → Same H H2 → H2 l = some (.lst (cutV xs lo hi)) → Q (.ref l) H2) : SlP (rSlL K) (.ref a) lo hi H Q := ⟨a, xs, rfl, h, fun l hl => q l _ hl (Same.new hl) upd_same⟩
theorem w_poN {QO : Option Int → Hp → Prop} (q : QO none H) : tNoPart σ H QO := q
theorem w_poS {QO : Option Int → Hp → Prop} (q : te σ H fun x H1 => ∃ i, x = .int i ∧ QO (some i) H1) : tPart te σ H QO := q
theorem w_exI {p : Int → Prop} (q : p i) : ∃ k, V.int i = .int k ∧ p k := ⟨i, rfl, q⟩
/-- xs[i] = v -/
theorem w_gsub {to ti : TE} {t : TSet} {N : L2.St → Hp → Prop} (q : to σ H fun o H1 => ti σ H1 fun i H2 => t o i v H2 fun H3 => N σ H3) : gSub to ti t v σ H N := q
theorem w_setL {N : Hp → Prop} {n : Nat} (h : H a = some (.lst xs)) (e : ixN xs.length i = some n) (q : ∀ H2, SameX a H H2 → H2 a = some (.lst (xs.set n v)) → N H2) : rSetL (.ref a) (.int i) v H N :=
  ⟨a, xs, i, n, rfl, rfl, h, e, q _ (SameX.upd fun _ _ _ e => e) upd_same⟩
theorem w_yes {QB : Bool → Hp → Prop} (q : QB true H) : tYes σ H QB := q
/-- ways meet behind a statement -/
theorem w_cut {ts us : TS} {nx bk ct : L2.St → Hp → Prop} {rt : VK} (Mid : L2.St → Hp → Prop) (h : ts ⟨Mid, rt, bk, ct⟩ σ H) (q : ∀ σ' H', Mid σ' H' → us ⟨nx, rt, bk, ct⟩ σ' H') : C8.tCut ts us ⟨nx, rt, bk, ct⟩ σ H := ⟨Mid, h, q⟩
theorem w_cutE {ts us : TS} {nx bk ct : L2.St → Hp → Prop} {rt : VK} {σ' : L2.St} {H' : Hp} (h : ts ⟨fun σ1 H1 => σ1 = σ' ∧ H1 = H', rt, bk, ct⟩ σ H) (q : us ⟨nx, rt, bk, ct⟩ σ' H') : C8.tCut ts us ⟨nx, rt, bk, ct⟩ σ H := ⟨_, h, fun _ _ e => by rw [e.1, e.2]; exact q⟩
/-- products: one factor is small, or both together are not too large -/
def CMulS (i j : Int) : Prop := (-18446744073709551616 < i ∧ i < 18446744073709551616) ∨ (-18446744073709551616 < j ∧ j < 18446744073709551616) ∨ CMulW i j
theorem op_mulS : OpR X (binaryOp .Mult) (rI CMulS fun i j => .int (i * j)) := opI fun _ _ _ _ _ _ _ hc q => by
  rcases hc with h | h | h
  · exact mul_int q (CMul.ok (.inl h))
  · exact mul_int q (CMul.ok (.inr h))
  · exact mul_int q h.ok
theorem atI_ints {ns : List Int} {k : Int} (h0 : 0 ≤ k) (h1 : k < (ns.length : Int)) : ∃ z, atI (ns.map V.int) k = some (.int z) := by
  obtain ⟨n, rfl⟩ := Int.eq_ofNat_of_zero_le h0
  have hn : n < ns.length := by omega
  exact ⟨ns[n], atI_nat (by simp [hn])⟩
theorem cut_ints (ns : List Int) (lo hi : Option Int) : ∃ ms : List Int, cutV (ns.map V.int) lo hi = ms.map V.int := by
  unfold cutV
  exact ⟨((ns.drop (HT.sIx (ns.map V.int).length 0 lo)).take (HT.sIx (ns.map V.int).length (ns.map V.int).length hi - HT.sIx (ns.map V.int).length 0 lo)), by rw [List.map_take, List.map_drop]⟩
/-- a number that is not too great; omega doesn't see into it -/
def Bd (x : Int) : Prop := x.natAbs < 2 ^ 8000
/-! ### data compared -/
theorem dp_ints : ∀ ns : List Int, DpAll K H (ns.map V.int) (ns.map PyData.int)
  | [] => .nil
  | n :: ns => .cons (.int n) (dp_ints ns)
theorem can_ints : ∀ ns : List Int, PyData.canLayAll0 (ns.map PyData.int) = true
  | [] => rfl
  | n :: ns => by simp only [List.map_cons, PyData.canLayAll0, PyData.canLay0, can_ints ns, Bool.and_self]
theorem depth_ints : ∀ ns : List Int, PyData.depthAll (ns.map PyData.int) = 0
  | [] => rfl
  | n :: ns => by simp only [List.map_cons, PyData.depthAll, PyData.depth, depth_ints ns]; rfl
theorem eqv_ints : ∀ ns ms : List Int, PyData.eqvAll (ns.map PyData.int) (ms.map PyData.int) = decide (ns = ms)
  | [], [] => rfl
  | [], _ :: _ => rfl
  | _ :: _, [] => rfl
  | n :: ns, m :: ms => by
    simp only [List.map_cons, PyData.eqvAll, PyData.eqv, eqv_ints ns ms, List.cons.injEq, Bool.decide_and]
    rfl
theorem shaped_ints (ns : List Int) : SeqAt.shaped (.tuple (ns.map PyData.int)) = true := by
  simp only [SeqAt.shaped, PyData.canLay0, can_ints, PyData.depth, depth_ints]; decide
theorem w_eqT {b : Addr} {ns ms : List Int} (h1 : H a = some (.tup (ns.map V.int))) (h2 : H b = some (.tup (ms.map V.int))) (q : Q (.bl (decide (ns = ms))) H) : rEqD K (.ref a) (.ref b) H Q :=
  ⟨.tuple (ns.map .int), .tuple (ms.map .int), .tup (SqT.of h1) (dp_ints ns), .tup (SqT.of h2) (dp_ints ms), shaped_ints _, shaped_ints _, by rw [PyData.eqv, eqv_ints]; exact q⟩
/-- == of plain things: data of any depth, dicts -/
def rEqU (K : PySem.W.Frag) : R2 := fun x y H Q => rEqD K x y H Q ∨ rEqDA x y H Q
theorem op_eqU (hu : X.A.units + 64 < cLine) : OpR X (compareOp .Eq) (rEqU X.K) := (op_eqD hu).or (op_eq_dictA (by omega))
/-- a thing that == finds equal to itself -/
inductive Selfy (H : Hp) : V → Prop
  | non : Selfy H .non
  | int (i : Int) : Selfy H (.int i)
  | str (s : Str) (h : SeqAt.shaped (.str s) = true) : Selfy H (.str s)
  | lst (a : Addr) (ns : List Int) (e : H a = some (.lst (ns.map V.int))) : Selfy H (.ref a)
  | tup (a : Addr) (ns : List Int) (e : H a = some (.tup (ns.map V.int))) : Selfy H (.ref a)
  | dK (a : Addr) (e : H a = some (.dK [])) : Selfy H (.ref a)
theorem shaped_intsL (ns : List Int) : SeqAt.shaped (.list (ns.map PyData.int)) = true := by
  simp only [SeqAt.shaped, PyData.canLay0, can_ints, PyData.depth, depth_ints]; decide
theorem w_eqSelf (h : Selfy H v) (q : Q (.bl true) H) : rEqU K v v H Q := by
  have go : ∀ d, Dp K H v d → SeqAt.shaped d = true → rEqU K v v H Q := fun d hd sd => .inl ⟨d, d, hd, hd, sd, sd, by rw [SeqAt.eqv_refl d (SeqAt.canLay_of_shaped sd)]; exact q⟩
  cases h with
  | non => exact go _ .non (by decide +kernel)
  | int i => exact go _ (.int i) rfl
  | str s h => exact go _ (.str s) h
  | lst a ns e => exact go _ (.lst (SqL.of e) (dp_ints ns)) (shaped_intsL ns)
  | tup a ns e => exact go _ (.tup (SqT.of e) (dp_ints ns)) (shaped_ints ns)
  | dK a e => exact .inr ⟨a, a, [], [], rfl, rfl, e, e, rfl, (fun _ h => nomatch h), q⟩
/-- a thing of the law's own: a kind that is known, and if it is no int, one that is found equal to itself -/
structure Odd (c : Addr) (H : Hp) (v : V) : Prop where
  th : Th c H v
  eq : isI v = false → (∃ b, v = .bl b) ∨ isB v = false ∧ Selfy H v
theorem Odd.sx {c p : Addr} {H H' : Hp} (h : Odd c H v) (h3 : ∀ a, v = .ref a → a ≠ p) (s : SameX p H H') : Odd c H' v := by
  obtain ⟨h1, h2⟩ := h
  refine ⟨?_, fun z => ?_⟩
  · cases h1 with
    | non => exact .non
    | bl b => exact .bl b
    | int i => exact .int i
    | str s => exact .str s
    | lst a xs e => exact .lst a xs (s _ _ (h3 a rfl) e)
    | tup a xs e => exact .tup a xs (s _ _ (h3 a rfl) e)
    | dK a xs e => exact .dK a xs (s _ _ (h3 a rfl) e)
    | root a dx t r b e => exact .root a dx t r b (s _ _ (h3 a rfl) e)
  · rcases h2 z with h | ⟨hb, h⟩
    · exact .inl h
    · refine .inr ⟨hb, ?_⟩
      cases h with
      | non => exact .non
      | int i => exact .int i
      | str s h => exact .str s h
      | lst a ns e => exact .lst a ns (s _ _ (h3 a rfl) e)
      | tup a ns e => exact .tup a ns (s _ _ (h3 a rfl) e)
      | dK a e => exact .dK a (s _ _ (h3 a rfl) e)
theorem Odd.int {c : Addr} (i : Int) : Odd c H (.int i) := ⟨.int i, fun e => by cases e⟩
theorem w_Tself {α : Type} [DecidableEq α] {x : α} {A B : Prop} (q : A) : if decide (x = x) = true then A else B := by rw [decide_eq_true rfl]; exact iteT q
theorem w_Fself {α : Type} [DecidableEq α] {x : α} {A B : Prop} (q : B) : if (!decide (x = x)) = true then A else B := by rw [decide_eq_true rfl]; exact iteF q
theorem w_isB {b c : Bool} (q : Q (.bl (decide (b = c))) H) : rIsB (.bl b) (.bl c) H Q := ⟨b, c, rfl, rfl, q⟩
/-- the state that a law draws from stands at p, its cells at q -/
def StA (H : Hp) (p q : Addr) : Prop := ∃ (ns : List Int) (at_ pend : Int), H p = some (.lst [.ref q, .int at_, .int pend]) ∧ H q = some (.lst (ns.map V.int)) ∧ q ≠ p ∧ 0 ≤ at_ ∧ 0 ≤ pend
theorem StA.same {H H' : Hp} {p q : Addr} (h : StA H p q) (s : Same H H') : StA H' p q := by
  obtain ⟨ns, at_, pend, h1, h2, h3⟩ := h
  exact ⟨ns, at_, pend, s _ _ h1, s _ _ h2, h3⟩
theorem sz_lt {n : Nat} (h : n < 1000) : n < sizeLine := Nat.lt_of_lt_of_le h (by decide)
/-- a new object is another one -/
theorem StA.new {H : Hp} {p q b : Addr} (h : StA H p q) (e : H b = none) : b ≠ p ∧ b ≠ q := by
  obtain ⟨ns, at_, pend, h1, h2, _⟩ := h
  exact ⟨fun z => (by rw [z, h1] at e; cases e), fun z => (by rw [z, h2] at e; cases e)⟩
/-- a change elsewhere -/
theorem StA.other {H : Hp} {p q b : Addr} {o : HO} (h : StA H p q) (n : b ≠ p ∧ b ≠ q) : StA (upd H b o) p q := by
  obtain ⟨ns, at_, pend, h1, h2, h3⟩ := h
  exact ⟨ns, at_, pend, by rw [upd_ne (Ne.symm n.1)]; exact h1, by rw [upd_ne (Ne.symm n.2)]; exact h2, h3⟩
theorem StA.otherX {H H' : Hp} {p q b : Addr} (h : StA H p q) (n : b ≠ p ∧ b ≠ q) (s : SameX b H H') : StA H' p q := by
  obtain ⟨ns, at_, pend, h1, h2, h3⟩ := h
  exact ⟨ns, at_, pend, s _ _ (Ne.symm n.1) h1, s _ _ (Ne.symm n.2) h2, h3⟩
/-- another object than the state -/
theorem StA.ne {H : Hp} {p q b : Addr} {o : HO} (h : StA H p q) (e : H b = some o) (n : ∀ xs, o ≠ .lst xs) : b ≠ p := by
  obtain ⟨ns, at_, pend, h1, _⟩ := h
  exact ne_of e h1 (n _)
/-- a comprehension over a range whose turns draw: ints of which P holds -/
theorem k_lcDraw {st sc : Addr} {n : Int} {ws : List Nat} {slot : Nat} {te : TE} {P : Int → Prop} (h1 : -(2 ^ 62) ≤ n) (h2 : n ≤ 500) (hs : StA H st sc)
    (hw : ∀ z, wipe ((wipe σ ws).set slot (some (.int z))) ws = wipe σ ws)
    (turn : ∀ z H', StA H' st sc → SameX st H H' → ∀ N : VK, (∀ y H2, P y → SameX st H' H2 → StA H2 st sc → N (.int y) H2) → te ((wipe σ ws).set slot (some (.int z))) H' N)
    (hd : ∀ (D : Addr) (H' : Hp) (ms : List Int), H' D = some (.lst (ms.map V.int)) → ms.length = n.toNat → (∀ z ∈ ms, P z) → D ≠ st ∧ D ≠ sc → StA H' st sc → SameX st H H' → Q (.ref D) H') : CompR (gName slot) tYes te ws σ [.int n] H Q := by
  refine k_lcR (fun i D H' => H D = none ∧ ∃ ms : List Int, H' D = some (.lst (ms.map V.int)) ∧ ms.length = i ∧ (∀ z ∈ ms, P z) ∧ (D ≠ st ∧ D ≠ sc) ∧ StA H' st sc ∧ SameX st H H') h1 (by omega) (fun D hD => ⟨hD, [], upd_same, rfl, (fun _ h => nomatch h), hs.new hD, hs.same (Same.new hD), Same.x (Same.new hD)⟩) ?_ ?_
  · rintro i D H' hi ⟨hD, ms, e1, e2, e3, e4, e5, e6⟩
    refine ⟨hw _, ?_⟩
    refine w_yes (w_T rfl ?_)
    refine turn _ H' e5 e6 _ fun y H2 py s2 st2 => ?_
    refine ⟨_, s2 _ _ e4.1 e1, by rw [List.length_map, e2]; exact sz_lt (by omega), hD, ms ++ [y], by rw [List.map_append]; exact upd_same, by rw [List.length_append, e2]; rfl, ?_, e4, st2.other e4, fun b o nb e => ?_⟩
    · intro m hm
      rcases List.mem_append.mp hm with h | h
      · exact e3 m h
      · obtain rfl : m = y := by simpa using h
        exact py
    · rw [upd_ne (ne_of_none e hD)]
      exact s2 _ _ nb (e6 _ _ nb e)
  · rintro D H' ⟨hD, ms, e1, e2, e3, e4, e5, e6⟩
    exact hd D H' ms e1 e2 e3 e4 e5 e6
/-- a comprehension over a list of ints, without draws: ints again -/
theorem k_lcInts {p : Addr} {ns : List Int} {ws : List Nat} {slot : Nat} {te : TE} {f : Int → Int} (h : SqL K H p (ns.map V.int)) (hl : ns.length ≤ 500)
    (hw : ∀ z, wipe ((wipe σ ws).set slot (some (.int z))) ws = wipe σ ws) (hsame : ∀ H', Same H H' → SqL K H' p (ns.map V.int))
    (turn : ∀ z H', z ∈ ns → Same H H' → ∀ N : VK, N (.int (f z)) H' → te ((wipe σ ws).set slot (some (.int z))) H' N)
    (hd : ∀ D H', H D = none → Same H H' → H' D = some (.lst ((ns.map f).map V.int)) → Q (.ref D) H') : CompL K (gName slot) tYes te ws σ (.ref p) H Q := by
  refine k_lcL (xs := ns.map V.int) (fun i D H' => H D = none ∧ Same H H' ∧ H' D = some (.lst (((ns.take i).map f).map V.int))) h (fun D hD => ⟨hD, Same.new hD, upd_same⟩) (fun i D H' e => hsame H' e.2.1) ?_ ?_
  · rintro i x D H' hx ⟨hD, s1, e1⟩
    have hi : i < ns.length := by
      have := (List.getElem?_eq_some_iff.mp hx).1
      rwa [List.length_map] at this
    obtain rfl : x = V.int ns[i] := by
      rw [List.getElem?_map, List.getElem?_eq_getElem hi] at hx
      exact (Option.some.inj hx).symm
    refine ⟨hw _, ?_⟩
    refine w_yes (w_T rfl ?_)
    refine turn _ H' (List.getElem_mem hi) s1 _ ?_
    refine ⟨_, e1, by rw [List.length_map, List.length_map, List.length_take]; exact sz_lt (by omega), hD, fun b o e => ?_, ?_⟩
    · rw [upd_ne (ne_of_none e hD)]
      exact s1 b o e
    · have e : ns.take (i + 1) = ns.take i ++ [ns[i]] := by rw [List.take_add_one, List.getElem?_eq_getElem hi]; rfl
      rw [upd_same, e, List.map_append, List.map_append]
      rfl
  · rintro D H' ⟨hD, s1, e1⟩
    rw [List.length_map, List.take_length] at e1
    exact hd D H' hD s1 e1
end
end L2.My

/-! W4: isinstance of a caught own error that bears a field. -/
namespace PySem.W
open PySem PySem.Spec PySem.Calls PyProof.Rows
section
variable {prog : Program} {w : World} {A : Around} {E : Value → Shared → Prop} {s : Shared} {K : Frag} {x D : Addr} {ox od : Obj}
/-- what the class of such an error says -/
structure XiC (K : Frag) (D : Addr) : Prop where
  hga : findIn K (.ref D) "__getattribute__" = some (some (.builtin "BaseException.__getattribute__"))
  hgt : findIn K (.ref D) "__getattr__" = some none
  hsub : subIn K (.ref D) (.type "BaseException") = some true
  hdct : hasDictIn K D = true
  ha : findIn K (.ref D) "__class__" = some (some (.builtin "object.__class__"))
  hn : specialIn K (.builtin "object.__class__") "__get__" = some (some (.builtin "getset_descriptor.__get__"))
  htk : takesIn K (.builtin "object.__class__") = some true
  hm : mroIn K D (.type "object") = some true
theorem xi_class {Q : Option Value → Shared → Prop} (T : XiC K D) (X : K.In s.heap) (I : InstAt s.heap x ox D (some od)) (h : Q (some (.ref D)) { s with toks := s.toks + 1 }) : wpAny (model prog w) A (getAttr? (.ref x) "__class__") Q E s := by
  have fnd : findObj K D (some od) "__class__" = some (.bind (.builtin "getset_descriptor.__get__") (.builtin "object.__class__")) := findObj_data (by obtain ⟨cd, hc, _⟩ := any_some T.hdct; rw [hc]; rfl) T.ha T.hn T.htk
  obtain ⟨hp, g, d, t, os⟩ := s
  have l0 := I.type (M := model prog w)
  have l1 := looks_findIn (M := model prog w) X T.hga
  have l2 := looks_findIn (M := model prog w) X T.hgt
  have l3 := looks_find (M := model prog w) X I fnd
  have sb : Looks (model prog w) hp (isInstance (.ref x) (.type "BaseException")) true := l0.andThen (looks_subIn X T.hsub)
  have n0 : (false && onTheHeap (Value.builtin "BaseException.__getattribute__")) = false := rfl
  have n2 : (Value.builtin "BaseException.__getattribute__" == Value.builtin "object.__getattribute__") = false := by decide +kernel
  have n1 : (onTheHeap (Value.ref D) && Value.builtin "BaseException.__getattribute__" == Value.builtin "object.__getattribute__") = false := by rw [n2]; rfl
  unfold getAttr? getAttrBy? getAttrBy
  refine wpAny_bind (wpAny_mkText (wpAny_bind (wpAny_attempt (wpAny_holding (wpAny_bind (l0.at (wpAny_bind (l1.at ?_))))))))
  dsimp only
  rw [n1, if_neg Bool.false_ne_true]
  unfold getAttrByItsOwn hookBefore
  refine wpAny_bind ?_
  rw [if_pos (show onTheHeap (Value.ref D) = true from rfl)]
  refine l2.at (wpAny_bind (wpAny_attempt (wpAny_holding ?_)))
  unfold callGetattribute
  rw [n0, if_neg Bool.false_ne_true]
  unfold boundAndCalled
  rw [PySem.F.excAttr_ValueError.ga.bind (.ref x)]
  refine wpAny_bind (wpAny_pure ?_)
  show wpAny _ _ (call (.builtin "BaseException.__getattribute__") [.ref x, .str "__class__" t]) _ _ _
  refine wpAny_call (codeAny_call_builtin PySem.F.excAttr_ValueError.ga.plain PySem.F.entry_bexc_ga ?_)
  refine @check_slot (model prog w) _ _ ⟨hp, g, d, t + 1, os⟩ "BaseException.__getattribute__" "BaseException" "__getattribute__" (.ref x) [.str "__class__" t] [] _ (by decide +kernel) (by decide +kernel) sb (PySem.F.args_bexc_ga (.ref x) (.str "__class__" t)) ?_
  unfold Builtin.«object.__getattribute__»
  refine wpAny_bind (wpAny_of_eq (a := ((Value.ref x : Value), [Value.str "__class__" t])) (by first | rfl | (simp only [slotArgs]; rfl)) ?_)
  refine wpAny_bind (wpAny_pure (wpAny_bind (l0.at (wpAny_bind (l3.at ?_)))))
  show wpAny _ _ (holding [Value.builtin "object.__class__"] (call (.builtin "getset_descriptor.__get__") [.builtin "object.__class__", .ref x, .ref D]) >>= ret) _ _ _
  refine wpAny_bind (wpAny_holding (wpAny_call (class_get (s := ⟨hp, g, d, t + 1, os⟩) (ox := ox) (od := some od) X I T.hm ?_)))
  refine wpAny_pure ?_
  show wpAny _ _ (handedOut (.ref D)) _ _ _
  rw [handedOut_of (v := .ref D) rfl]
  first
    | exact wpAny_pure (wpAny_pure h)
    | exact wpAny_pure h
    | exact wpAny_pure (wpAny_bind (wpAny_pure (wpAny_pure h)))
theorem xi_kitx (T : XiC K D) : KitX K (.ref x) (.ref D) (fun h => ∃ ox od, InstAt h x ox D (some od)) where
  ty := fun _ _ _ ⟨_, _, I⟩ => I.type
  it := fun _ _ X _ => by
    obtain ⟨cdD, hcD, _⟩ := any_some T.hdct
    unfold clsIn at hcD
    split at hcD
    · rename_i c' d' cd' sl' ho
      intro A' Q' E' s' k q
      unfold isType loadHead
      exact wpAny_bind (wpAny_loadPart (k _ _ (X _ _ ho)) (wpAny_pure q))
    · cases hcD
  ne := fun h tp dd its n sl X htp => by
    obtain ⟨cdD, hcD, _⟩ := any_some T.hdct
    refine Bool.eq_false_iff.mpr fun q => ?_
    have e : D = tp := Value.ref.inj (beq_iff_eq.mp q)
    subst e
    unfold clsIn at hcD
    split at hcD
    · rename_i c' d' cd' sl' ho
      have z := (X _ _ ho).symm.trans htp
      cases z
    · cases hcD
  ca := fun X ⟨_, _, I⟩ k => xi_class T X I k
end
end PySem.W
namespace L2.My
open PySem PySem.Spec PyProof.Rows
/-- isinstance(e, c), e the own error that the suite holds -/
def rIsX (K : PySem.W.Frag) (D a : Addr) (cls : Value) (d : Option Addr) : List V → Hp → VK → Prop := fun xs H Q => ∃ (c : V) (cv : Value) (b : Bool) (dd : Addr) (fs : List (Str × V)), xs = [.ref a, c] ∧ cls = .ref D ∧ d = some dd ∧ H dd = some (.xd fs) ∧
  (∀ u, RelV c u → u = cv) ∧ PySem.W.kitOne K (.ref D) cv = some b ∧ Q (.bl b) H
theorem cn_isX {X : Cx} {a D : Addr} {cls : Value} {d : Option Addr} {oe : Obj} {pn : List (Addr × Obj)} (T : PySem.W.XiC X.K D) (hz : Zc cls d oe) (hf : ∃ vs, oe.data = .fields vs) : CallR (X.suite a ((a, oe) :: pn)) (.builtin "isinstance") (rIsX X.K D a cls d) := by
  intro pins s σ H xs us Q I r h
  obtain ⟨c, cv, b, dd, fs, rfl, rfl, rfl, ea, hcv, e, q⟩ := h
  obtain ⟨u1, u2, rfl, r1, r2⟩ := vals2 r
  cases (show u1 = Value.ref a from r1)
  have ec := hcv _ r2
  subst ec
  obtain ⟨hget, _⟩ := I.pin (a, oe) (List.mem_append_left _ List.mem_cons_self)
  obtain ⟨vs, hd⟩ := hf
  obtain ⟨mA, hns, hr⟩ := (show ObjOk X.prog X.w H s.heap dd (.xd fs) from I.hok dd _ ea)
  obtain ⟨od, ho, hl⟩ := lookIn_ns hns
  have J : PySem.W.InstAt s.heap a oe D (some od) := ⟨hget, hz.1, by unfold PySem.W.notCls; rw [hd] <;> rfl, by rw [hz.2]; exact ho⟩
  exact PySem.W.kia_one (PySem.W.xi_kitx T) I.kIn ⟨oe, od, J⟩ e (fun z => nomatch z) fun tk => ⟨.bl b, H, I.tok tk, rfl, q⟩
theorem w_isX {K : PySem.W.Frag} {D a : Addr} {d : Addr} {fs : List (Str × V)} {H : Hp} {Q : VK} {b : Bool} {C : Addr} (h : H d = some (.xd fs)) (k : PySem.W.kitOne K (.ref D) (.ref C) = some b) (q : Q (.bl b) H) : rIsX K D a (.ref D) (some d) [.ref a, .ref C] H Q :=
  ⟨.ref C, .ref C, b, d, fs, rfl, rfl, rfl, h, fun u r => r, k, q⟩
theorem w_isXT {K : PySem.W.Frag} {D a : Addr} {d : Addr} {fs : List (Str × V)} {H : Hp} {Q : VK} {b : Bool} {n : String} (h : H d = some (.xd fs)) (k : PySem.W.kitOne K (.ref D) (.type n) = some b) (q : Q (.bl b) H) : rIsX K D a (.ref D) (some d) [.ref a, .ty n] H Q :=
  ⟨.ty n, .type n, b, d, fs, rfl, rfl, rfl, h, fun u r => r, k, q⟩
/-- e.f in the suite: what is asked -/
def XfP (a : Addr) (cls : Value) (d : Option Addr) (C : Addr) (f : Str) (x : V) (H : Hp) (Q : VK) : Prop := x = .ref a ∧ cls = .ref C ∧ ∃ (dd : Addr) (fs : List (Str × V)) (v : V), d = some dd ∧ H dd = some (.xd fs) ∧ fs.lookup f = some v ∧ Q v H
theorem w_xf {a : Addr} {cls : Value} {d : Option Addr} {C : Addr} {f : Str} {te : TE} {σ : L2.St} {H : Hp} {Q : VK} (q : te σ H fun x H1 => XfP a cls d C f x H1 Q) : tXf a cls d C f te σ H Q := q
theorem k_xf {a d C : Addr} {f : Str} {v : V} {H : Hp} {Q : VK} (h : H d = some (.xd [(f, v)])) (q : Q v H) : XfP a (.ref C) (some d) C f (.ref a) H Q := ⟨rfl, rfl, d, _, v, rfl, h, by simp [List.lookup], q⟩
end L2.My

/-! W5: from what the head tells to what the walks ask. -/
namespace L2.My
open PySem PySem.Spec PyProof.Rows
theorem kit_eq {K : PySem.W.Frag} {t : Value} {C : Addr} (ic : PySem.W.isClsIn K C = true) (tc : PySem.W.typeIn K (.ref C) = some (.type "type")) : PySem.W.kitCls K t (.ref C) = PySem.W.subIn K t (.ref C) := by
  have e : ((PySem.W.clsIn K C).isSome && PySem.W.typeIn K (.ref C) == some (.type "type")) = true := by
    have h2' : (PySem.W.clsIn K C).isSome = true := ic
    rw [h2', tc] <;> rfl
  show (if ((PySem.W.clsIn K C).isSome && PySem.W.typeIn K (.ref C) == some (.type "type")) = true then PySem.W.subIn K t (.ref C) else none) = _
  rw [if_pos e]
theorem kit_ref {K : PySem.W.Frag} {t : Value} {C : Addr} (ic : PySem.W.isClsIn K C = true) (tc : PySem.W.typeIn K (.ref C) = some (.type "type")) (h : PySem.W.subIn K t (.ref C) = some true) : PySem.W.kitOne K t (.ref C) = some true := by
  unfold PySem.W.kitOne
  rw [kit_eq ic tc, h]
  split <;> rfl
theorem kit_ref0 {K : PySem.W.Frag} {t : Value} {C : Addr} (ic : PySem.W.isClsIn K C = true) (tc : PySem.W.typeIn K (.ref C) = some (.type "type")) (h : PySem.W.subIn K t (.ref C) = some false) (hn : (t == .ref C) = false) : PySem.W.kitOne K t (.ref C) = some false := by
  unfold PySem.W.kitOne
  rw [kit_eq ic tc, h, hn]
  rfl
theorem kit_type {K : PySem.W.Frag} {C : Addr} {T : String} {b : Bool} (km : PySem.W.kitMeta T = true) (h : PySem.W.subIn K (.ref C) (.type T) = some b) : PySem.W.kitOne K (.ref C) (.type T) = some b := by
  unfold PySem.W.kitOne
  have e : ((Value.ref C) == Value.type T) = false := rfl
  rw [e, if_neg Bool.false_ne_true]
  show (if PySem.W.kitMeta T = true then PySem.W.subIn K (.ref C) (.type T) else none) = some b
  rw [if_pos km, h]
theorem exm_mk {K : PySem.W.Frag} {S : Addr} (h1 : PySem.W.subIn K (.ref S) (.type "BaseException") = some true) (h2 : PySem.W.isClsIn K S = true) (h3 : PySem.W.typeIn K (.ref S) = some (.type "type")) (h4 : PySem.W.subIn K (.ref S) (.ref S) = some true) :
    PySem.W.exmOne K (.ref S) (.ref S) = some true := by
  have e1 : (PySem.W.subIn K (.ref S) (.type "BaseException") == some true) = true := by rw [h1] <;> rfl
  show (if (PySem.W.subIn K (.ref S) (.type "BaseException") == some true) = true then PySem.W.kitCls K (.ref S) (.ref S) else none) = some true
  rw [if_pos e1, kit_eq h2 h3, h4]
theorem ki_mk {K : PySem.W.Frag} {c : Addr} (ty : Cls K c) (ha : PySem.W.findIn K (.ref c) "__class__" = some (some (.builtin "object.__class__"))) (hm : PySem.W.mroIn K c (.type "object") = some true)
    (ic : PySem.W.isClsIn K c = true) (tc : PySem.W.typeIn K (.ref c) = some (.type "type")) (s1 : PySem.W.mroIn K c (.type "int") = some false) (s2 : PySem.W.mroIn K c (.type "bool") = some false) : KiT K c where
  ty := ty
  ha := ha
  hn := rfl
  htk := rfl
  hm := hm
  i := kit_type (by decide +kernel) s1
  b := kit_type (by decide +kernel) s2
  cc := by
    unfold PySem.W.kitOne
    have e : ((Value.ref c) == Value.ref c) = true := by simp
    rw [e, if_pos rfl]
  k1 := kit_ref0 ic tc rfl rfl
  k2 := kit_ref0 ic tc rfl rfl
  k3 := kit_ref0 ic tc rfl rfl
  k4 := kit_ref0 ic tc rfl rfl
  k5 := kit_ref0 ic tc rfl rfl
  k6 := kit_ref0 ic tc rfl rfl
  k7 := kit_ref0 ic tc rfl rfl
  n1 := rfl
  n2 := rfl
  n3 := rfl
  n4 := rfl
  n5 := rfl
  n6 := rfl
  n7 := rfl
  s1 := s1
  s2 := s2
theorem ref_ne {K : PySem.W.Frag} {a b : Addr} (h1 : PySem.W.mroIn K a (.ref a) = some true) (h2 : PySem.W.mroIn K a (.ref b) = some false) : (Value.ref a == Value.ref b) = false := by
  cases e : (Value.ref a == Value.ref b) with
  | false => rfl
  | true =>
    have : Value.ref a = Value.ref b := by simpa using e
    cases this
    rw [h1] at h2
    cases h2
theorem cx_no {P : Program} {w : World} {H : Hp} {s s' : Shared} {e : Value} (z : L2.CX P w [] H s (fun _ _ _ => False) e s') : False := by
  obtain ⟨_, _, _, _, _, _, _, _, _, _, _, _, h⟩ := z
  exact h
end L2.My

/-! W6: own + - * of instances and ints, both ways. -/
namespace L2.My
open PySem PySem.Spec PyProof.Rows PySem.SeqAt
open AutoSeq1 (wpAny_loadPart')
/-! ### own + - * of two instances, of one and an int, and of an int and one -/
theorem int_add_declines (b : Int) (u : Tok) (l C dx : Addr) :
    Meets (Builtin.«int.__add__» ⟨[.int b u, .ref l], []⟩) (fun _ R s => s.heap.get? l = some (PySem.W.instObj C dx) ∧ R (.ok (.ret .notImplemented)) s) :=
  .of_wp fun prog w A R s h => by obtain ⟨hp, g, d, tk, os⟩ := s; obtain ⟨hl, h⟩ := h; wp_walk using wpAny_loadPart' hl, wpAny_load hl; exact ⟨_, rfl, h⟩
theorem int_sub_declines (b : Int) (u : Tok) (l C dx : Addr) :
    Meets (Builtin.«int.__sub__» ⟨[.int b u, .ref l], []⟩) (fun _ R s => s.heap.get? l = some (PySem.W.instObj C dx) ∧ R (.ok (.ret .notImplemented)) s) :=
  .of_wp fun prog w A R s h => by obtain ⟨hp, g, d, tk, os⟩ := s; obtain ⟨hl, h⟩ := h; wp_walk using wpAny_loadPart' hl, wpAny_load hl; exact ⟨_, rfl, h⟩
theorem int_mul_declines (b : Int) (u : Tok) (l C dx : Addr) :
    Meets (Builtin.«int.__mul__» ⟨[.int b u, .ref l], []⟩) (fun _ R s => s.heap.get? l = some (PySem.W.instObj C dx) ∧ R (.ok (.ret .notImplemented)) s) :=
  .of_wp fun prog w A R s h => by obtain ⟨hp, g, d, tk, os⟩ := s; obtain ⟨hl, h⟩ := h; wp_walk using wpAny_loadPart' hl, wpAny_load hl; exact ⟨_, rfl, h⟩

/-- int op instance: the instance's own reflected def -/
theorem bin_refl {prog : Program} {w : World} {A : Around} {E : Value → Shared → Prop} {s : Shared} {K : PySem.W.Frag} {x C f g : Addr} {ox : Obj} {od : Option Obj} {op : Operator} {b : Int} {t : Tok} {id : String} {Q : Value → Shared → Prop}
    (X : K.In s.heap) (I : PySem.W.InstAt s.heap x ox C od) (sf : PySem.W.selfFirst K C = true) (hsub : PySem.W.subIn K (.ref C) (.type "int") = some false)
    (hg : PySem.W.findIn K (.ref C) (PySem.dunder op.info.2) = some (some (.ref g))) (hs : PySem.W.findIn K (.ref C) (PySem.dunderR op.info.2) = some (some (.ref f))) (hf : PySem.W.isFn K (.ref f) = true)
    (fi : fillsNumberSlot (.type "int") op.info.2 = pure true) (sl : Slot "int" (PySem.dunder op.info.2) id)
    (hd : ∀ Q' : Value → Shared → Prop, Q' .notImplemented s → wpAny (model prog w) A (call (.builtin id) [.int b t, .ref x]) Q' E s)
    (h : wpAny (model prog w) A (call (.ref f) [.ref x, .int b t]) (PySem.W.CmpBack Q) E s) : wpAny (model prog w) A (binaryOp op (.int b t) (.ref x)) Q E s := by
  obtain ⟨cd, rest, e1, e2⟩ := PySem.W.ksp_first sf
  have fC : PySem.W.Looks (model prog w) s.heap (fillsNumberSlot (.ref C) op.info.2) true := PySem.W.fills_K X e1 e2 hg
  have hne : (Value.type "int" == Value.ref C) = false := rfl
  have ti : s.TypeIs (.int b t) "int" := typeIs_int s b t
  have one : wpAny (model prog w) A (binaryOp1 op.info.2 (.int b t) (.ref x)) (fun r s' => ∃ v, r = some v ∧ Q v s') E s := by
    unfold binaryOp1
    refine wpAny_bind (wpAny_typeOf ti (wpAny_bind (I.type.here ?_)))
    rw [fi]
    refine wpAny_bind (wpAny_pure ?_)
    simp only [hne, Bool.false_eq_true, if_false]
    refine wpAny_bind (fC.here ?_)
    simp only [Bool.and_self, if_true]
    refine wpAny_bind ((PySem.W.looks_subIn X hsub).here ?_)
    simp only [Bool.false_eq_true, if_false, Bool.and_self, Bool.not_false, if_true]
    refine wpAny_bind ?_
    show wpAny _ _ (pure false) _ _ _
    refine wpAny_pure ?_
    simp only [Bool.false_eq_true, if_false]
    refine wpAny_bind (wpAny_tryMethod_declines ti sl (hd _ ⟨rfl, ?_⟩))
    refine wpAny_bind (wpAny_mono (PySem.W.ksp_try X I hs hf h) (fun r s' z => ?_) fun _ _ e => e)
    obtain ⟨v, rfl, hq⟩ := z
    exact wpAny_bind (wpAny_rule (wpAny_pure ⟨_, rfl, hq⟩))
  unfold binaryOp
  refine wpAny_holding ?_
  refine wpAny_bind (wpAny_mono one (fun r s' z => ?_) fun _ _ e => e)
  obtain ⟨v, rfl, hq⟩ := z
  exact wpAny_pure hq
section
variable {X : Cx} {C : Addr} {k k' j : Nat} {ps ps' : List Str} {sp spr : Sp} {E : XK} {m mr : Str}
/-- x op y, where one of both is an instance of C and the other one an instance of C or an int -/
def rOwnB (C : Addr) (sp spr : Sp) (E : XK) : R2 := fun x y H Q =>
  (∃ a dx fs, x = .ref a ∧ H a = some (.ins C dx fs) ∧ ((∃ i, y = .int i) ∨ ∃ a' dx' fs', y = .ref a' ∧ H a' = some (.ins C dx' fs')) ∧ sp [x, y] H Q E) ∨
  (∃ i a dx fs, x = .int i ∧ y = .ref a ∧ H a = some (.ins C dx fs) ∧ spr [y, x] H Q E)
/-- what an own operator needs of the class -/
structure OwnB (K : PySem.W.Frag) (C : Addr) : Prop where
  sf : PySem.W.selfFirst K C = true
  si : PySem.W.subIn K (.ref C) (.type "int") = some false
theorem op_ownB {op : Operator} {id : String} {fo ro : Option Value} (T : OwnB X.K C) (fi : fillsNumberSlot (.type "int") op.info.2 = pure true) (sl : Slot "int" (PySem.dunder op.info.2) id)
    (ef : PySem.W.findIn X.K (.type "int") (PySem.dunder op.info.2) = some fo) (er : PySem.W.findIn X.K (.type "int") (PySem.dunderR op.info.2) = some ro)
    (hd : ∀ {A : Around} {s : Shared} {E' : Value → Shared → Prop} (b : Int) (t : Tok) (l dx : Addr) (Q' : Value → Shared → Prop), s.heap.get? l = some (PySem.W.instObj C dx) → Q' .notImplemented s → wpAny (model X.prog X.w) A (call (.builtin id) [.int b t, .ref l]) Q' E' s)
    (h : HasM X.prog X.w X.K X.mg X.base C (PySem.dunder op.info.2) k ps sp) (h' : HasM X.prog X.w X.K X.mg X.base C (PySem.dunderR op.info.2) k' ps' spr) (hr : Room j X.A) (hx : Passes (L2.CX X.prog X.w) X E) (hj : k ≤ j := by decide) (hj' : k' ≤ j := by decide) :
    OpR X (binaryOp op) (rOwnB C sp spr E) := by
  obtain ⟨f, fd, Fo, hm, hb⟩ := h
  obtain ⟨f', fd', Fo', hm', hb'⟩ := h'
  intro pins s σ H x y v u Q I rx ry hh
  obtain ⟨m, hF⟩ := I.fr
  rcases hh with ⟨a, dx, fs, rfl, ha, hy, q⟩ | ⟨i, a, dx, fs, rfl, rfl, ha, q⟩
  · cases (show v = Value.ref a from rx)
    obtain ⟨mA, O, _⟩ := ins_get I.hok ha
    obtain ⟨od, J, _⟩ := O.look
    have cl : wpAny (model X.prog X.w) X.A (call (.ref f) [.ref a, u]) (PySem.W.CmpBack (EP X pins σ Q)) X.xe s := by
      refine wpAny_mono (run_fn Fo (hr.mono hj) hb .nil hx I (.cons rx (.cons ry .nil)) q) (fun w s' z => ?_) fun _ _ x => x
      obtain ⟨z', H', I', rz, qz⟩ := z
      exact SlX.cmpback rz ⟨z', H', I', rz, qz⟩
    rcases hy with ⟨i, rfl⟩ | ⟨a', dx', fs', rfl, ha'⟩
    · obtain ⟨t, rfl⟩ := (show ∃ t, u = Value.int i t from ry)
      exact PySem.W.ksp_binT hF I.ok.mod.kin J rfl T.sf hm.at_ hm.fn hm'.at_ (.inr ⟨_, rfl⟩) ef er rfl cl
    · cases (show u = Value.ref a' from ry)
      obtain ⟨mA', O', _⟩ := ins_get I.hok ha'
      obtain ⟨od', J', _⟩ := O'.look
      exact PySem.W.binop_K hF I.ok.mod.kin J J'.type T.sf hm.at_ hm.fn cl
  · obtain ⟨t, rfl⟩ := (show ∃ t, v = Value.int i t from rx)
    cases (show u = Value.ref a from ry)
    obtain ⟨mA, O, _⟩ := ins_get I.hok ha
    obtain ⟨od, J, _⟩ := O.look
    refine bin_refl I.kIn J T.sf T.si hm.at_ hm'.at_ hm'.fn fi sl (fun Q' hq => hd i t a dx Q' O.obj hq) ?_
    refine wpAny_mono (run_fn Fo' (hr.mono hj') hb' .nil hx I (.cons ry (.cons rx .nil)) q) (fun w s' z => ?_) fun _ _ x => x
    obtain ⟨z', H', I', rz, qz⟩ := z
    exact SlX.cmpback rz ⟨z', H', I', rz, qz⟩
theorem op_addB (T : OwnB X.K C) (h : HasM X.prog X.w X.K X.mg X.base C "__add__" k ps sp) (h' : HasM X.prog X.w X.K X.mg X.base C "__radd__" k' ps' spr) (hr : Room j X.A) (hx : Passes (L2.CX X.prog X.w) X E) (hj : k ≤ j := by decide) (hj' : k' ≤ j := by decide) :
    OpR X (binaryOp .Add) (rOwnB C sp spr E) :=
  op_ownB (op := .Add) T F.fills_int_add F.slot_int_add rfl rfl (fun b t l dx Q' hl hq => call_meets F.slot_int_add (typeIs_int _ b t) F.entry_int_add (F.args_int_add_2 _ _) (int_add_declines b t l C dx) ⟨hl, hq⟩) h h' hr hx hj hj'
theorem op_subB (T : OwnB X.K C) (h : HasM X.prog X.w X.K X.mg X.base C "__sub__" k ps sp) (h' : HasM X.prog X.w X.K X.mg X.base C "__rsub__" k' ps' spr) (hr : Room j X.A) (hx : Passes (L2.CX X.prog X.w) X E) (hj : k ≤ j := by decide) (hj' : k' ≤ j := by decide) :
    OpR X (binaryOp .Sub) (rOwnB C sp spr E) :=
  op_ownB (op := .Sub) T F.fills_int_sub F.slot_int_sub rfl rfl (fun b t l dx Q' hl hq => call_meets F.slot_int_sub (typeIs_int _ b t) F.entry_int_sub (by first | exact F.args_int_sub_2 _ _ | (unfold argsOk; kernel_rfl)) (int_sub_declines b t l C dx) ⟨hl, hq⟩) h h' hr hx hj hj'
theorem op_mulB (T : OwnB X.K C) (h : HasM X.prog X.w X.K X.mg X.base C "__mul__" k ps sp) (h' : HasM X.prog X.w X.K X.mg X.base C "__rmul__" k' ps' spr) (hr : Room j X.A) (hx : Passes (L2.CX X.prog X.w) X E) (hj : k ≤ j := by decide) (hj' : k' ≤ j := by decide) :
    OpR X (binaryOp .Mult) (rOwnB C sp spr E) :=
  op_ownB (op := .Mult) T F.fills_int_mul F.slot_int_mul rfl rfl (fun b t l dx Q' hl hq => call_meets F.slot_int_mul (typeIs_int _ b t) F.entry_int_mul (F.args_int_mul_2 _ _) (int_mul_declines b t l C dx) ⟨hl, hq⟩) h h' hr hx hj hj'
end
end L2.My

local macro_rules | `(tactic| walk_at "side") => `(tactic| first | (exact Or.inl ⟨by omega, by omega⟩) | (exact Or.inr (Or.inl ⟨by omega, by omega⟩)) | (exact ⟨by decide, by decide⟩) | (show (0 : Int) < _; omega) | assumption | (exact ⟨by decide, by decide, by decide⟩))
local macro_rules | `(tactic| walk_at "st") => `(tactic| first | with_reducible exact L2.My.set0 | with_reducible exact L2.My.set1 | with_reducible exact L2.My.set2 | with_reducible exact L2.My.set3 | with_reducible exact L2.My.set4 | with_reducible exact L2.My.set5 | with_reducible exact L2.My.set6 | with_reducible exact L2.My.set7 | with_reducible exact L2.My.set8 | with_reducible exact L2.My.set9 | with_reducible exact L2.My.set10 | with_reducible exact L2.My.set11 | with_reducible exact L2.My.set12 | with_reducible exact L2.My.set13 | with_reducible exact L2.My.set14 | with_reducible exact L2.My.set15 | with_reducible exact L2.My.set16 | with_reducible exact L2.My.set17 | with_reducible exact L2.My.set18 | with_reducible exact L2.My.set19 | with_reducible exact L2.My.set20 | with_reducible exact L2.My.set21 | with_reducible exact L2.My.set22 | with_reducible exact L2.My.set23 | exact L2.My.set0 | exact L2.My.set1 | exact L2.My.set2 | exact L2.My.set3 | exact L2.My.set4 | exact L2.My.set5 | exact L2.My.set6 | exact L2.My.set7 | exact L2.My.set8 | exact L2.My.set9 | exact L2.My.set10 | exact L2.My.set11 | exact L2.My.set12 | exact L2.My.set13 | exact L2.My.set14 | exact L2.My.set15 | exact L2.My.set16 | exact L2.My.set17 | exact L2.My.set18 | exact L2.My.set19 | exact L2.My.set20 | exact L2.My.set21 | exact L2.My.set22 | exact L2.My.set23)
local macro_rules | `(tactic| walk_at "s") => `(tactic| first
  | with_reducible refine L2.My.w_seq ?_ | with_reducible refine L2.My.w_asg ?_ | with_reducible refine L2.My.w_op ?_ | with_reducible refine L2.My.w_ret ?_ | with_reducible refine L2.My.w_if ?_
  | ((with_reducible refine' L2.My.w_var ?hv ?_); (case hv => exact rfl)) | with_reducible refine L2.My.w_c ?_ | with_reducible refine L2.My.w_I0 ?_ | with_reducible refine L2.My.w_U ?_
  | ((with_reducible refine' L2.My.w_name ?hs ?_); (case hs => walk_at "st")) | with_reducible refine L2.My.w_next ?_ | with_reducible refine L2.My.w_drop ?_
  | with_reducible refine L2.My.w_test ?_ | with_reducible refine L2.My.w_B ?_ | with_reducible refine L2.My.w_bl ?_ | with_reducible refine L2.My.w_blV ?_ | with_reducible refine L2.My.w_and ?_ | with_reducible refine L2.My.w_or ?_ | with_reducible refine L2.My.w_not ?_
  | with_reducible refine L2.My.w_andV ?_ | with_reducible refine L2.My.w_orV ?_ | with_reducible refine L2.My.w_notV ?_ | with_reducible refine L2.My.w_un ?_
  | ((with_reducible refine' L2.My.w_T ?hc ?_); (case hc => exact rfl)) | ((with_reducible refine' L2.My.w_F ?hc ?_); (case hc => exact rfl))
  | with_reducible refine L2.My.w_cons ?_ | with_reducible refine L2.My.w_nil ?_ | with_reducible refine L2.My.w_call ?_ | with_reducible refine L2.My.w_cb ?_
  | with_reducible refine L2.My.w_tup ?_ | with_reducible refine L2.My.w_lst ?_ | with_reducible refine L2.My.w_fldE ?_ | with_reducible refine L2.My.w_mkO ?_ | with_reducible refine L2.My.w_int ?_ | with_reducible refine L2.My.w_intB ?_ | with_reducible refine L2.My.w_abs ?_ | with_reducible refine L2.My.w_yes ?_ | with_reducible refine L2.My.w_Tself ?_ | with_reducible refine L2.My.w_Fself ?_ | with_reducible refine L2.My.w_sl ?_ | with_reducible refine L2.My.w_dnew ?_ | with_reducible refine L2.My.w_isB ?_ | with_reducible refine L2.My.w_gsub ?_ | with_reducible refine L2.My.w_poN ?_ | with_reducible refine L2.My.w_poS ?_ | with_reducible refine L2.My.w_exI ?_
  | ((with_reducible refine' L2.My.w_I ?hc ?_); (case hc => walk_at "side"))
  | ((with_reducible refine' L2.My.w_ixL ?hh ?he ?_); (case hh => assumption); (case he => exact rfl)) | ((with_reducible refine' L2.My.w_ixT ?hh ?he ?_); (case hh => assumption); (case he => exact rfl))
  | with_reducible refine L2.My.w_xf ?_ | with_reducible refine L2.My.w_stoE ?_ | with_reducible refine L2.My.w_mkC ?_ | with_reducible refine L2.My.w_meth ?_
  | with_reducible refine L2.My.w_forT ?_ | with_reducible refine L2.My.w_forL ?_ | with_reducible refine L2.My.w_forR ?_ | with_reducible refine L2.My.w_forR2 ?_ | with_reducible refine L2.My.w_lcL ?_ | with_reducible refine L2.My.w_lcT ?_ | with_reducible refine L2.My.w_lcR ?_
  | with_reducible refine L2.My.w_eq rfl ?_ | with_reducible refine L2.My.w_ne rfl ?_)
local macro_rules | `(tactic| walk_at "W") => `(tactic| repeat (walk_at "s"))

namespace L2.My
open PySem PySem.Spec PyProof.Rows
def top (i : Nat) : Stmt := PySem.Challenge.pw_threetiles_k00_root_in_lowest_terms.main.body.getD i (.Pass ⟨0, 0, 0, 0⟩)
/-- where the classes stand -/
structure Zs where
  K : PySem.W.Frag
  c_FloorError : Addr
  c_BadNumber : Addr
  c_BadPoint : Addr
  c_Root : Addr

/-- what the top has left -/
structure Txt (Z : Zs) (mg : Str → Option Value) : Prop where
  n_isinstance : mg "isinstance" = none
  n_int : mg "int" = none
  n_bool : mg "bool" = none
  n_list : mg "list" = none
  n_range : mg "range" = none
  n_len : mg "len" = none
  n_abs : mg "abs" = none
  g_gcd : mg "gcd" = some (.builtin "math.gcd")
  g_Root : mg "Root" = some (.ref Z.c_Root)
  g_BadNumber : mg "BadNumber" = some (.ref Z.c_BadNumber)
  g_FloorError : mg "FloorError" = some (.ref Z.c_FloorError)
  g_BadPoint : mg "BadPoint" = some (.ref Z.c_BadPoint)
  n_ValueError : mg "ValueError" = none
  ki : KiT Z.K Z.c_Root
  nf_top : NoAttr Z.K Z.c_Root "top"
  nf_root : NoAttr Z.K Z.c_Root "root"
  nf_bottom : NoAttr Z.K Z.c_Root "bottom"
  x_BadNumber : OexC Z.K Z.c_BadNumber
  xn_BadNumber : PySem.W.findIn Z.K (.ref Z.c_BadNumber) "value" = some none
  xf_BadNumber : XfC Z.K Z.c_BadNumber
  xi_BadNumber : PySem.W.XiC Z.K Z.c_BadNumber
  xm_BadNumber : PySem.W.exmOne Z.K (.ref Z.c_BadNumber) (.ref Z.c_BadNumber) = some true
  x1 : PySem.W.kitOne Z.K (.ref Z.c_BadNumber) (.ref Z.c_FloorError) = some true
  x2 : PySem.W.kitOne Z.K (.ref Z.c_BadNumber) (.type "ValueError") = some true
  x3 : PySem.W.kitOne Z.K (.ref Z.c_BadNumber) (.ref Z.c_BadPoint) = some false
theorem Txt.c_Root {Z : Zs} {mg : Str → Option Value} (T : Txt Z mg) : Cls Z.K Z.c_Root := T.ki.ty
variable {P : Program} {w : World} {mg : Str → Option Value} {base : Heap} {Z : Zs}
abbrev s_is_integral : Stmt := top 7
theorem sc_is_integral : FnScope ["thing"] ["thing"] (defScope s_is_integral) := ⟨rfl, rfl, rfl, by decide +kernel, rfl, by decide +kernel, by decide +kernel⟩

def sp_is_integral (Z : Zs) : Sp := fun vs H Q E =>
  ∃ v, vs = [v] ∧ Th Z.c_Root H v ∧ Q (.bl (isI v)) H
theorem ok_is_integral (T : Txt Z mg)  (D : AtF Z.K mg "is_integral" "is_integral" s_is_integral ["thing"]) : Has P w Z.K mg base "is_integral" 1 ["thing"] (sp_is_integral Z) := by
  refine D.ok sc_is_integral (fun vs H Q E h => ?_) (fun cdv A outer s H vs Q E hr h => ?_)
  · obtain ⟨v, rfl, _⟩ := h
    rfl
  · refine ⟨_, (pss_one (ps_ret (pe_and (pe_callB call_isi rfl T.n_isinstance (by decide +kernel) (pa_cons (pv 0) (pa_cons (pe_bltn (v := .ty "int") rfl T.n_int (by decide +kernel) rfl) pa_nil))) (pe_one (pe_not (pe_callB call_isi rfl T.n_isinstance (by decide +kernel) (pa_cons (pv 0) (pa_cons (pe_bltn (v := .ty "bool") rfl T.n_bool (by decide +kernel) rfl) pa_nil)))))))), ?_⟩
    try simp only [cxOf]
    obtain ⟨v, rfl, hv, q⟩ := h
    obtain ⟨t, ty, k1, k2, _⟩ := hv.ty T.ki
    walk_at "W"
    refine w_isi ty k1 ?_
    walk_at "W"
    cases e : isI v || isB v
    · walk_at "W"
      have : isI v = false := by cases v <;> simp_all [isI, isB]
      rw [this] at q; exact q
    · walk_at "W"
      refine w_isi ty k2 ?_
      walk_at "W"
      have : (!isB v) = isI v := by cases v <;> simp_all [isI, isB]
      rw [this]; exact q
abbrev s_BadNumber_init : Stmt := inClass (top 4) 0
theorem sc_BadNumber_init : FnScope ["self", "value"] ["self", "value"] (defScope s_BadNumber_init) := ⟨rfl, rfl, rfl, by decide +kernel, rfl, by decide +kernel, by decide +kernel⟩

def sp_BadNumber_init (Z : Zs) : Sp := fun vs H Q E =>
  spX Z.c_BadNumber "value" vs H Q E
theorem ok_BadNumber_init (T : Txt Z mg)  (D : AtX Z.K mg "BadNumber" Z.c_BadNumber "BadNumber.__init__" s_BadNumber_init ["self", "value"]) : HasX P w Z.K mg base "BadNumber" Z.c_BadNumber 1 ["self", "value"] (sp_BadNumber_init Z) := by
  refine D.ok sc_BadNumber_init (fun vs H Q E h => ?_) (fun cdv A outer s H vs Q E hr h => ?_)
  · obtain ⟨a, v, rfl, _⟩ := h
    rfl
  · refine ⟨_, (pss_one (ps_ost (pv 0) (pv 1))), ?_⟩
    try simp only [cxOf]
    obtain ⟨a, v, rfl, ha, q⟩ := h
    exact ⟨_, rfl, _, rfl, a, Z.c_BadNumber, rfl, T.x_BadNumber, T.xn_BadNumber, Or.inl ⟨ha, fun d hd hn => q d hd hn⟩⟩
/-- the common divisor with the sign that the bottom shall lose -/
def sg (t r b : Int) : Int := if b < 0 then -(((t.natAbs.gcd r.natAbs).gcd b.natAbs : Nat) : Int) else (((t.natAbs.gcd r.natAbs).gcd b.natAbs : Nat) : Int)
def lowT (t r b : Int) : Int := t.fdiv (sg t r b)
def lowR (t r b : Int) : Int := r.fdiv (sg t r b)
def lowB (t r b : Int) : Int := b.fdiv (sg t r b)
/-- the first of three that is no integer, or the last one if it is 0 -/
def badOf (a b c : V) : Option V := if isI a = false then some a else if isI b = false then some b else if isI c = false then some c else if c = .int 0 then some (.int 0) else none
theorem isI_int {v : V} (h : isI v = true) : ∃ i, v = .int i := by cases v <;> simp_all [isI]
theorem sg_ne {t r b : Int} (h : b ≠ 0) : sg t r b ≠ 0 := by
  have : 0 < (t.natAbs.gcd r.natAbs).gcd b.natAbs := Nat.gcd_pos_of_pos_right _ (Int.natAbs_pos.mpr h)
  unfold sg
  split <;> omega
theorem sg_le {t r b : Int} (h : b ≠ 0) : (sg t r b).natAbs ≤ b.natAbs := by
  have : (t.natAbs.gcd r.natAbs).gcd b.natAbs ≤ b.natAbs := Nat.le_of_dvd (Int.natAbs_pos.mpr h) (Nat.gcd_dvd_right _ _)
  unfold sg
  split <;> omega
theorem sg_div {t r b x : Int} (h : b ≠ 0) (hb : Bd b) : CDivN9 x (sg t r b) :=
  ⟨sg_ne h, Nat.lt_of_lt_of_le (PySem.Flt.log2_lt_of (by decide) (Nat.lt_of_le_of_lt (sg_le h) hb)) (by decide)⟩
abbrev s_Root_init : Stmt := inClass (top 12) 0
theorem sc_Root_init : FnScope ["self", "top", "root", "bottom", "value", "shared"] ["self", "top", "root", "bottom"] (defScope s_Root_init) := ⟨rfl, rfl, rfl, by decide +kernel, rfl, by decide +kernel, by decide +kernel⟩

def sp_Root_init (Z : Zs) : Sp := fun vs H Q E =>
  ∃ p dx a b c, vs = [.ref p, a, b, c] ∧ H p = some (.ins Z.c_Root dx []) ∧ Th Z.c_Root H a ∧ Th Z.c_Root H b ∧ Th Z.c_Root H c ∧ (∀ k, c = .int k → Bd k) ∧
    (∀ i j k, a = .int i → b = .int j → c = .int k → k ≠ 0 → ∀ H', SameX p H H' → H' p = some (.ins Z.c_Root dx (rootF (lowT i j k) (lowR i j k) (lowB i j k))) → Q .non H') ∧
    (∀ v, badOf a b c = some v → ∀ d H', H d = none → SameX p H H' → H' d = some (.xd [("value", v)]) → E (.ref Z.c_BadNumber) (some d) H')
theorem ok_Root_init (T : Txt Z mg) (h_BadNumber : HasX P w Z.K mg base "BadNumber" Z.c_BadNumber 1 ["self", "value"] (sp_BadNumber_init Z)) (h_is_integral : Has P w Z.K mg base "is_integral" 1 ["thing"] (sp_is_integral Z)) (D : AtC Z.K mg "Root" Z.c_Root "Root.__init__" s_Root_init ["self", "top", "root", "bottom"]) : HasC P w Z.K mg base "Root" Z.c_Root 3 ["self", "top", "root", "bottom"] (sp_Root_init Z) := by
  refine D.ok sc_Root_init (fun vs H Q E h => ?_) (fun cdv A outer s H vs Q E hr h => ?_)
  · obtain ⟨p, dx, a, b, c, rfl, _⟩ := h
    rfl
  · refine ⟨_, (pss_cons (ps_for (passes_of rfl) rfl (pi_tup (pe_tup (pa_cons (pv 1) (pa_cons (pv 2) (pa_cons (pv 3) pa_nil))))) (pg_name (i := 4) sc_Root_init.nd rfl (Or.inl rfl)) (pss_one (ps_if (pt_not (pt_val (pe_h (E := ED E) h_is_integral hr (paW (takes_of rfl rfl rfl rfl)) (pa_cons (pv 4) pa_nil)))) (pss_one (ps_raise rfl (takes_of rfl rfl rfl rfl) (pm_h T.x_BadNumber h_BadNumber hr (pa_cons (pv 4) pa_nil)))) pss_nil)))
      (pss_cons (ps_if (pt_cmpR op_eq (pv 3) pe_int (nomark _)) (pss_one (ps_raise rfl (takes_of rfl rfl rfl rfl) (pm_h T.x_BadNumber h_BadNumber hr (pa_cons (pv 3) pa_nil)))) pss_nil)
      (pss_cons (ps_set (i := 5) sc_Root_init.nd rfl (Or.inl rfl) (pe_callBfun cr_gcd3 rfl T.g_gcd (pa_cons (pv 1) (pa_cons (pv 2) (pa_cons (pv 3) pa_nil)))))
      (pss_cons (ps_if (pt_cmpR op_lt (pv 3) pe_int (nomark _)) (pss_one (ps_set (i := 5) sc_Root_init.nd rfl (Or.inl rfl) (pe_un un_neg (pv 5)))) pss_nil)
      (pss_cons (ps_fld (pv 0) (pe_op op_fdivV (pv 1) (pv 5)) rfl)
      (pss_cons (ps_fld (pv 0) (pe_op op_fdivV (pv 2) (pv 5)) rfl)
      (pss_one (ps_fld (pv 0) (pe_op op_fdivV (pv 3) (pv 5)) rfl)))))))), ?_⟩
    try simp only [cxOf]
    obtain ⟨p, dx, a, b, c, rfl, hp, ha, hb, hc, hk, ok, er⟩ := h
    walk_at "W"
    refine k_tup rfl fun p0 H1 hp0 s1 e1 => ?_
    refine k_forT (fun i σ H' => ∃ v, σ = [some (.ref p), some a, some b, some c, v, none] ∧ Same H1 H' ∧ ∀ j x, j < i → [a, b, c][j]? = some x → isI x = true) e1 ⟨none, rfl, Same.refl _, fun j x hj => absurd hj (Nat.not_lt_zero _)⟩ (fun i σ H' ⟨_, _, s2, _⟩ => s2 _ _ e1) ?_ ?_
    · rintro i x σ H' hx ⟨v, rfl, s2, hi⟩
      have s3 := s1.trans s2
      have hxT : Th Z.c_Root H' x := by
        rcases i with _ | _ | _ | i
        · cases hx; exact ha.same s3
        · cases hx; exact hb.same s3
        · cases hx; exact hc.same s3
        · simp at hx
      have bad : isI x = false → badOf a b c = some x := fun e => by
        rcases i with _ | _ | _ | i
        · cases hx; unfold badOf; rw [if_pos e]
        · cases hx; unfold badOf; rw [if_neg (by rw [hi 0 a (by decide) rfl]; simp), if_pos e]
        · cases hx; unfold badOf; rw [if_neg (by rw [hi 0 a (by decide) rfl]; simp), if_neg (by rw [hi 1 b (by decide) rfl]; simp), if_pos e]
        · simp at hx
      walk_at "W"
      refine ⟨x, rfl, hxT, ?_⟩
      walk_at "W"
      cases e : isI x
      · walk_at "W"
        refine k_mkO fun d H2 hd s4 e4 => ?_
        exact er x (bad e) d H2 (s3.free hd) (Same.x (s3.trans s4)) e4
      · walk_at "W"
        refine ⟨_, rfl, s2, fun j y hj hy => ?_⟩
        rcases Nat.lt_or_eq_of_le (Nat.lt_succ_iff.mp hj) with h | h
        · exact hi j y h hy
        · subst h; rw [hx] at hy; cases hy; exact e
    · rintro σ H' ⟨v, rfl, s2, hi⟩
      have s3 := s1.trans s2
      obtain ⟨i, rfl⟩ := isI_int (hi 0 a (by simp) rfl)
      obtain ⟨j, rfl⟩ := isI_int (hi 1 b (by simp) rfl)
      obtain ⟨k, rfl⟩ := isI_int (hi 2 c (by simp) rfl)
      walk_at "W"
      refine w_ite (fun h => ?_) (fun h => ?_)
      · obtain rfl : k = 0 := by injection h
        walk_at "W"
        refine k_mkO fun d H2 hd s4 e4 => ?_
        exact er _ rfl d H2 (s3.free hd) (Same.x (s3.trans s4)) e4
      · have hk0 : k ≠ 0 := fun z => h (by rw [z])
        have hkb := hk k rfl
        walk_at "W"
        refine ⟨i, j, k, rfl, ?_⟩
        walk_at "W"
        have hd : ∀ x, CDivN9 x (sg i j k) := fun x => sg_div hk0 hkb
        refine w_ite (fun hn => ?_) (fun hn => ?_)
        · walk_at "W"
          have eg : sg i j k = -(((i.natAbs.gcd j.natAbs).gcd k.natAbs : Nat) : Int) := if_pos hn
          rw [← eg]
          refine w_I (hd i) ?_
          walk_at "W"
          refine w_sto (s3 _ _ hp) T.c_Root T.nf_top rfl fun H3 s5 e5 => ?_
          rw [put1] at e5
          walk_at "W"
          refine w_I (hd j) ?_
          walk_at "W"
          refine w_sto e5 T.c_Root T.nf_root rfl fun H4 s6 e6 => ?_
          rw [put2] at e6
          walk_at "W"
          refine w_I (hd k) ?_
          walk_at "W"
          refine w_sto e6 T.c_Root T.nf_bottom rfl fun H5 s7 e7 => ?_
          rw [put3] at e7
          exact ok i j k rfl rfl rfl hk0 H5 ((Same.x s3).trans (s5.trans (s6.trans s7))) e7
        · walk_at "W"
          have eg : sg i j k = (((i.natAbs.gcd j.natAbs).gcd k.natAbs : Nat) : Int) := if_neg hn
          rw [← eg]
          refine w_I (hd i) ?_
          walk_at "W"
          refine w_sto (s3 _ _ hp) T.c_Root T.nf_top rfl fun H3 s5 e5 => ?_
          rw [put1] at e5
          walk_at "W"
          refine w_I (hd j) ?_
          walk_at "W"
          refine w_sto e5 T.c_Root T.nf_root rfl fun H4 s6 e6 => ?_
          rw [put2] at e6
          walk_at "W"
          refine w_I (hd k) ?_
          walk_at "W"
          refine w_sto e6 T.c_Root T.nf_bottom rfl fun H5 s7 e7 => ?_
          rw [put3] at e7
          exact ok i j k rfl rfl rfl hk0 H5 ((Same.x s3).trans (s5.trans (s6.trans s7))) e7
/-- what == says of a number and a thing -/
def eqRt (H : Hp) (t r b : Int) : V → Bool
  | .int n => decide (r = 0) && (decide (b = 1) && decide (t = n))
  | .ref a => match H a with
    | some (.ins _ _ fs) => decide (fs = rootF t r b)
    | _ => false
  | _ => false
abbrev s_Root_eq : Stmt := inClass (top 12) 1
theorem sc_Root_eq : FnScope ["self", "other"] ["self", "other"] (defScope s_Root_eq) := ⟨rfl, rfl, rfl, by decide +kernel, rfl, by decide +kernel, by decide +kernel⟩

def sp_Root_eq (Z : Zs) : Sp := fun vs H Q E =>
  ∃ v o t r b, vs = [v, o] ∧ RootAt Z.c_Root H v t r b ∧ Th Z.c_Root H o ∧ Q (.bl (eqRt H t r b o)) H
theorem ok_Root_eq (T : Txt Z mg) (h_is_integral : Has P w Z.K mg base "is_integral" 1 ["thing"] (sp_is_integral Z)) (D : AtM Z.K Z.c_Root "__eq__" "Root.__eq__" s_Root_eq ["self", "other"]) : HasM P w Z.K mg base Z.c_Root "__eq__" 2 ["self", "other"] (sp_Root_eq Z) := by
  refine D.ok sc_Root_eq (fun vs H Q E h => ?_) (fun cdv A outer s H vs Q E hr h => ?_)
  · obtain ⟨v, o, t, r, b, rfl, _⟩ := h
    rfl
  · refine ⟨_, (pss_cons (ps_if (pt_val (pe_callB call_isi rfl T.n_isinstance (by decide +kernel) (pa_cons (pv 1) (pa_cons (pe_glob (v := .ref Z.c_Root) rfl T.g_Root rfl) pa_nil)))) (pss_one (ps_ret (pe_and (pe_cmpR op_eq (pe_fld (pv 0) rfl) (pe_fld (pv 1) rfl) (nomark _)) (pe_and (pe_cmpR op_eq (pe_fld (pv 0) rfl) (pe_fld (pv 1) rfl) (nomark _)) (pe_one (pe_cmpR op_eq (pe_fld (pv 0) rfl) (pe_fld (pv 1) rfl) (nomark _))))))) pss_nil)
      (pss_one (ps_ret (pe_and (pe_h (E := ED E) h_is_integral hr (paW (takes_of rfl rfl rfl rfl)) (pa_cons (pv 1) pa_nil)) (pe_and (pe_cmpR op_eq (pe_fld (pv 0) rfl) pe_int (nomark _)) (pe_and (pe_cmpR op_eq (pe_fld (pv 0) rfl) pe_int (nomark _)) (pe_one (pe_cmpR op_eq (pe_fld (pv 0) rfl) (pv 1) (nomark _))))))))), ?_⟩
    try simp only [cxOf]
    obtain ⟨v, o, t, r, b, rfl, ⟨a, dx, rfl, ha⟩, ho, q⟩ := h
    obtain ⟨ty, hty, k1, k2, k3, _⟩ := ho.ty T.ki
    walk_at "W"
    refine w_isiC hty k3 ?_
    walk_at "W"
    cases ho with
    | root a' dx' t' r' b' e =>
      have ic : isC Z.c_Root H (.ref a') = true := by
        show (match H a' with | some (.ins C _ _) => decide (C = Z.c_Root) | _ => false) = true
        rw [e]
        exact decide_eq_true rfl
      have er : eqRt H t r b (.ref a') = (decide (t = t') && (decide (r = r') && decide (b = b'))) := by
        show (match H a' with | some (.ins _ _ fs) => decide (fs = rootF t r b) | _ => false) = _
        rw [e]
        simp only [rf_eq, Bool.decide_and]
        rw [decide_eq_decide.mpr (eq_comm (a := t') (b := t)), decide_eq_decide.mpr (eq_comm (a := r') (b := r)), decide_eq_decide.mpr (eq_comm (a := b') (b := b))]
      rw [ic]
      rw [er] at q
      walk_at "W"
      refine w_fld ha T.c_Root T.nf_top (rf_top _ _ _) ?_
      walk_at "W"
      refine w_fld e T.c_Root T.nf_top (rf_top _ _ _) ?_
      walk_at "W"
      rw [decide_eq_decide.mpr (show V.int t = V.int t' ↔ t = t' by simp)]
      cases h1 : decide (t = t')
      · walk_at "W"
        rw [h1] at q
        exact q
      walk_at "W"
      refine w_fld ha T.c_Root T.nf_root (rf_root _ _ _) ?_
      walk_at "W"
      refine w_fld e T.c_Root T.nf_root (rf_root _ _ _) ?_
      walk_at "W"
      rw [decide_eq_decide.mpr (show V.int r = V.int r' ↔ r = r' by simp)]
      cases h2 : decide (r = r')
      · walk_at "W"
        rw [h1, h2] at q
        exact q
      walk_at "W"
      refine w_fld ha T.c_Root T.nf_bottom (rf_bottom _ _ _) ?_
      walk_at "W"
      refine w_fld e T.c_Root T.nf_bottom (rf_bottom _ _ _) ?_
      walk_at "W"
      rw [decide_eq_decide.mpr (show V.int b = V.int b' ↔ b = b' by simp)]
      rw [h1, h2] at q
      exact q
    | int n =>
      walk_at "W"
      refine ⟨_, rfl, .int n, ?_⟩
      walk_at "W"
      refine w_fld ha T.c_Root T.nf_root (rf_root _ _ _) ?_
      walk_at "W"
      have q' : Q (.bl (decide (r = 0) && (decide (b = 1) && decide (t = n)))) H := q
      rw [decide_eq_decide.mpr (show V.int r = V.int 0 ↔ r = 0 by simp)]
      cases h1 : decide (r = 0)
      · walk_at "W"
        rw [h1] at q'
        exact q'
      walk_at "W"
      refine w_fld ha T.c_Root T.nf_bottom (rf_bottom _ _ _) ?_
      walk_at "W"
      rw [decide_eq_decide.mpr (show V.int b = V.int 1 ↔ b = 1 by simp)]
      cases h2 : decide (b = 1)
      · walk_at "W"
        rw [h1, h2] at q'
        exact q'
      walk_at "W"
      refine w_fld ha T.c_Root T.nf_top (rf_top _ _ _) ?_
      walk_at "W"
      rw [decide_eq_decide.mpr (show V.int t = V.int n ↔ t = n by simp)]
      rw [h1, h2] at q'
      exact q'
    | non => walk_at "W"; exact ⟨_, rfl, .non, by walk_at "W"; exact q⟩
    | bl y => walk_at "W"; exact ⟨_, rfl, .bl y, by walk_at "W"; exact q⟩
    | str y => walk_at "W"; exact ⟨_, rfl, .str y, by walk_at "W"; exact q⟩
    | lst a' xs e =>
      have ic : isC Z.c_Root H (.ref a') = false := by unfold isC; simp only [e]
      have er : eqRt H t r b (.ref a') = false := by unfold eqRt; simp only [e]
      rw [ic]; rw [er] at q
      walk_at "W"; exact ⟨_, rfl, .lst a' xs e, by walk_at "W"; exact q⟩
    | tup a' xs e =>
      have ic : isC Z.c_Root H (.ref a') = false := by unfold isC; simp only [e]
      have er : eqRt H t r b (.ref a') = false := by unfold eqRt; simp only [e]
      rw [ic]; rw [er] at q
      walk_at "W"; exact ⟨_, rfl, .tup a' xs e, by walk_at "W"; exact q⟩
    | dK a' xs e =>
      have ic : isC Z.c_Root H (.ref a') = false := by unfold isC; simp only [e]
      have er : eqRt H t r b (.ref a') = false := by unfold eqRt; simp only [e]
      rw [ic]; rw [er] at q
      walk_at "W"; exact ⟨_, rfl, .dK a' xs e, by walk_at "W"; exact q⟩
/-- Root(a, b, c) of any things, from its __init__'s promise -/
theorem k_mkRoot {a b c : V} {H : Hp} {Q : VK} {E : XK} (ha : Th Z.c_Root H a) (hb : Th Z.c_Root H b) (hc : Th Z.c_Root H c) (hk : ∀ k, c = .int k → Bd k)
    (ok : ∀ i j k, a = .int i → b = .int j → c = .int k → k ≠ 0 → ∀ v H', Same H H' → RootAt Z.c_Root H' v (lowT i j k) (lowR i j k) (lowB i j k) → Q v H')
    (er : ∀ v, badOf a b c = some v → ∀ d H', H d = none → Same H H' → H' d = some (.xd [("value", v)]) → E (.ref Z.c_BadNumber) (some d) H') : MkC Z.c_Root (sp_Root_init Z) E [a, b, c] H Q := by
  intro x dx nx ndx nex
  have s0 : Same H (upd (upd H dx (.own x)) x (.ins Z.c_Root dx [])) := fun b o e => by
    rw [upd_ne (ne_of_none e nx), upd_ne (ne_of_none e ndx)]; exact e
  have sx : ∀ H', SameX x (upd (upd H dx (.own x)) x (.ins Z.c_Root dx [])) H' → Same H H' := fun H' s b o e => s b o (ne_of_none e nx) (s0 b o e)
  refine ⟨x, dx, a, b, c, rfl, upd_same, ha.same s0, hb.same s0, hc.same s0, hk, fun i j k e1 e2 e3 n H' s e => ⟨rfl, ok i j k e1 e2 e3 n _ H' (sx H' s) ⟨x, dx, rfl, e⟩⟩, fun v e d H' hd s ed => er v e d H' ?_ (sx H' s) ed⟩
  cases q : H d with
  | none => rfl
  | some o => rw [s0 d o q] at hd; cases hd
/-- .. of three ints, the last one not 0 -/
theorem k_mkRootI {i j k : Int} {H : Hp} {Q : VK} {E : XK} (n : k ≠ 0) (hk : Bd k)
    (ok : ∀ v H', Same H H' → RootAt Z.c_Root H' v (lowT i j k) (lowR i j k) (lowB i j k) → Q v H') : MkC Z.c_Root (sp_Root_init Z) E [.int i, .int j, .int k] H Q :=
  k_mkRoot (.int i) (.int j) (.int k) (fun k' e => by injection e with e; rw [← e]; exact hk) (fun i' j' k' e1 e2 e3 _ => by injection e1 with e1; injection e2 with e2; injection e3 with e3; rw [← e1, ← e2, ← e3]; exact ok)
    (fun v e => by
      exfalso
      unfold badOf at e
      rw [if_neg (by simp [isI]), if_neg (by simp [isI]), if_neg (by simp [isI]), if_neg (by intro z; injection z with z; exact n z)] at e
      cases e)
abbrev s_Root_neg : Stmt := inClass (top 12) 8
theorem sc_Root_neg : FnScope ["self"] ["self"] (defScope s_Root_neg) := ⟨rfl, rfl, rfl, by decide +kernel, rfl, by decide +kernel, by decide +kernel⟩

def sp_Root_neg (Z : Zs) : Sp := fun vs H Q E =>
  ∃ v t r b, vs = [v] ∧ RootAt Z.c_Root H v t r b ∧ b ≠ 0 ∧ Bd b ∧ ∀ v' H', Same H H' → RootAt Z.c_Root H' v' (lowT (-t) (-r) b) (lowR (-t) (-r) b) (lowB (-t) (-r) b) → Q v' H'
theorem ok_Root_neg (T : Txt Z mg) (h_Root : HasC P w Z.K mg base "Root" Z.c_Root 3 ["self", "top", "root", "bottom"] (sp_Root_init Z)) (D : AtM Z.K Z.c_Root "__neg__" "Root.__neg__" s_Root_neg ["self"]) : HasM P w Z.K mg base Z.c_Root "__neg__" 5 ["self"] (sp_Root_neg Z) := by
  refine D.ok sc_Root_neg (fun vs H Q E h => ?_) (fun cdv A outer s H vs Q E hr h => ?_)
  · obtain ⟨v, t, r, b, rfl, _⟩ := h
    rfl
  · refine ⟨_, (pss_one (ps_ret (pe_hc (E := ED E) h_Root hr (paW (takes_of rfl rfl rfl rfl)) (pa_cons (pe_un un_neg (pe_fld (pv 0) rfl)) (pa_cons (pe_un un_neg (pe_fld (pv 0) rfl)) (pa_cons (pe_fld (pv 0) rfl) pa_nil)))))), ?_⟩
    try simp only [cxOf]
    obtain ⟨v, t, r, b, rfl, ⟨a, dx, rfl, ha⟩, hb, hk, q⟩ := h
    walk_at "W"
    refine w_fld ha T.c_Root T.nf_top (rf_top _ _ _) ?_
    walk_at "W"
    refine w_fld ha T.c_Root T.nf_root (rf_root _ _ _) ?_
    walk_at "W"
    refine w_fld ha T.c_Root T.nf_bottom (rf_bottom _ _ _) ?_
    walk_at "W"
    exact k_mkRootI hb hk q
abbrev s_Root_turned : Stmt := inClass (top 12) 14
theorem sc_Root_turned : FnScope ["self"] ["self"] (defScope s_Root_turned) := ⟨rfl, rfl, rfl, by decide +kernel, rfl, by decide +kernel, by decide +kernel⟩

def sp_Root_turned (Z : Zs) : Sp := fun vs H Q E =>
  ∃ v t r b, vs = [v] ∧ RootAt Z.c_Root H v t r b ∧ b ≠ 0 ∧ Bd b ∧ ∀ v' H', Same H H' → RootAt Z.c_Root H' v' (lowT t (-r) b) (lowR t (-r) b) (lowB t (-r) b) → Q v' H'
theorem ok_Root_turned (T : Txt Z mg) (h_Root : HasC P w Z.K mg base "Root" Z.c_Root 3 ["self", "top", "root", "bottom"] (sp_Root_init Z)) (D : AtM Z.K Z.c_Root "turned" "Root.turned" s_Root_turned ["self"]) : HasM P w Z.K mg base Z.c_Root "turned" 5 ["self"] (sp_Root_turned Z) := by
  refine D.ok sc_Root_turned (fun vs H Q E h => ?_) (fun cdv A outer s H vs Q E hr h => ?_)
  · obtain ⟨v, t, r, b, rfl, _⟩ := h
    rfl
  · refine ⟨_, (pss_one (ps_ret (pe_hc (E := ED E) h_Root hr (paW (takes_of rfl rfl rfl rfl)) (pa_cons (pe_fld (pv 0) rfl) (pa_cons (pe_un un_neg (pe_fld (pv 0) rfl)) (pa_cons (pe_fld (pv 0) rfl) pa_nil)))))), ?_⟩
    try simp only [cxOf]
    obtain ⟨v, t, r, b, rfl, ⟨a, dx, rfl, ha⟩, hb, hk, q⟩ := h
    walk_at "W"
    refine w_fld ha T.c_Root T.nf_top (rf_top _ _ _) ?_
    walk_at "W"
    refine w_fld ha T.c_Root T.nf_root (rf_root _ _ _) ?_
    walk_at "W"
    refine w_fld ha T.c_Root T.nf_bottom (rf_bottom _ _ _) ?_
    walk_at "W"
    exact k_mkRootI hb hk q
abbrev s__law_start : Stmt := top 14
theorem sc__law_start : FnScope ["script"] ["script"] (defScope s__law_start) := ⟨rfl, rfl, rfl, by decide +kernel, rfl, by decide +kernel, by decide +kernel⟩

def sp__law_start (Z : Zs) : Sp := fun vs H Q E =>
  ∃ (a : Addr) (ns : List Int), vs = [.ref a] ∧ SqL Z.K H a (ns.map V.int) ∧ ∀ p c H', H p = none → Same H H' → StA H' p c → Q (.ref p) H'
theorem ok__law_start (T : Txt Z mg)  (D : AtF Z.K mg "_law_start" "_law_start" s__law_start ["script"]) : Has P w Z.K mg base "_law_start" 1 ["script"] (sp__law_start Z) := by
  refine D.ok sc__law_start (fun vs H Q E h => ?_) (fun cdv A outer s H vs Q E hr h => ?_)
  · obtain ⟨a, ns, rfl, _⟩ := h
    rfl
  · refine ⟨_, (pss_one (ps_ret (pe_lst (pa_cons (pe_callTy cn_list rfl T.n_list (by decide +kernel) (pa_cons (pe_slice sl_list (pv 0) po_none (po_some pe_int)) pa_nil)) (pa_cons pe_int (pa_cons pe_int pa_nil)))))), ?_⟩
    try simp only [cxOf]
    obtain ⟨a, ns, rfl, hs, q⟩ := h
    walk_at "W"
    refine k_slL hs fun l H1 hl s1 e1 => ?_
    obtain ⟨ms, em⟩ := cut_ints ns none (some 63)
    rw [em] at e1
    walk_at "W"
    refine w_listL (SqL.of e1) fun l2 H2 hl2 s2 e2 => ?_
    walk_at "W"
    refine k_lst rfl fun p H3 hp s3 e3 => ?_
    exact q p l2 H3 ((s1.trans s2).free hp) (s1.trans (s2.trans s3)) ⟨ms, 0, 0, e3, s3 _ _ e2, fun z => (by rw [z] at e2; rw [hp] at e2; cases e2), by decide, by decide⟩
abbrev s__law_mixed : Stmt := top 15
theorem sc__law_mixed : FnScope ["cell", "count", "number"] ["cell", "count"] (defScope s__law_mixed) := ⟨rfl, rfl, rfl, by decide +kernel, rfl, by decide +kernel, by decide +kernel⟩

def sp__law_mixed (Z : Zs) : Sp := fun vs H Q E =>
  ∃ c n : Int, vs = [.int c, .int n] ∧ ∀ r : Int, 0 ≤ r → r < 2147483399 → Q (.int r) H
theorem ok__law_mixed (T : Txt Z mg)  (D : AtF Z.K mg "_law_mixed" "_law_mixed" s__law_mixed ["cell", "count"]) : Has P w Z.K mg base "_law_mixed" 1 ["cell", "count"] (sp__law_mixed Z) := by
  refine D.ok sc__law_mixed (fun vs H Q E h => ?_) (fun cdv A outer s H vs Q E hr h => ?_)
  · obtain ⟨c, n, rfl, _⟩ := h
    rfl
  · refine ⟨_, (pss_cons (ps_set (i := 2) sc__law_mixed.nd rfl (Or.inl rfl) (pe_op op_mod (pe_op op_mulS (pe_callTy cn_int rfl T.n_int (by decide +kernel) (pa_cons (pe_op op_add (pe_op op_add (pv 0) (pe_op op_mulS pe_int (pv 1))) pe_int) pa_nil)) pe_int) pe_int))
      (pss_cons (ps_set (i := 2) sc__law_mixed.nd rfl (Or.inl rfl) (pe_op op_mod (pe_op op_mulS (pv 2) (pe_op op_add (pe_op op_fdivW (pv 2) pe_int) pe_int)) pe_int))
      (pss_one (ps_ret (pe_op op_mod (pe_op op_mulS (pv 2) (pe_op op_add (pe_op op_fdivW (pv 2) pe_int) pe_int)) pe_int))))), ?_⟩
    try simp only [cxOf]
    obtain ⟨c, n, rfl, q⟩ := h
    walk_at "W"
    exact q _ (Int.emod_nonneg _ (by decide)) (Int.emod_lt_of_pos _ (by decide))
abbrev s__law_draw : Stmt := top 16
theorem sc__law_draw : FnScope ["state", "many", "digit", "cells", "at", "cell", "number", "turn"] ["state", "many"] (defScope s__law_draw) := ⟨rfl, rfl, rfl, by decide +kernel, rfl, by decide +kernel, by decide +kernel⟩

def sp__law_draw (Z : Zs) : Sp := fun vs H Q E =>
  ∃ p c many, vs = [.ref p, .int many] ∧ StA H p c ∧ 0 < many ∧ Bd many ∧ ∀ n H', 0 ≤ n → n < many → SameX p H H' → StA H' p c → Q (.int n) H'
theorem ok__law_draw (T : Txt Z mg) (h__law_mixed : Has P w Z.K mg base "_law_mixed" 1 ["cell", "count"] (sp__law_mixed Z)) (D : AtF Z.K mg "_law_draw" "_law_draw" s__law_draw ["state", "many"]) : Has P w Z.K mg base "_law_draw" 2 ["state", "many"] (sp__law_draw Z) := by
  refine D.ok sc__law_draw (fun vs H Q E h => ?_) (fun cdv A outer s H vs Q E hr h => ?_)
  · obtain ⟨p, c, many, rfl, _⟩ := h
    rfl
  · refine ⟨_, (pss_cons (ps_if (pt_cmpR op_gt (pe_ix ix_seq (pv 0) pe_int (fun _ _ => rfl)) pe_int (nomark _)) (pss_cons (ps_set (i := 2) sc__law_draw.nd rfl (Or.inl rfl) (pe_op op_mod (pe_callTy cn_int rfl T.n_int (by decide +kernel) (pa_cons (pe_ix ix_seq (pv 0) pe_int (fun _ _ => rfl)) pa_nil)) (pv 1)))
      (pss_cons (ps_asg (pe_op op_fdivW (pe_ix ix_seq (pv 0) pe_int (fun _ _ => rfl)) (pv 1)) (pg_sub (pv 0) pe_int set_list))
      (pss_one (ps_ret (pv 2))))) pss_nil)
      (pss_cons (ps_set (i := 3) sc__law_draw.nd rfl (Or.inl rfl) (pe_ix ix_seq (pv 0) pe_int (fun _ _ => rfl)))
      (pss_cons (ps_set (i := 4) sc__law_draw.nd rfl (Or.inl rfl) (pe_ix ix_seq (pv 0) pe_int (fun _ _ => rfl)))
      (pss_cons (ps_asg (pe_op op_add (pv 4) pe_int) (pg_sub (pv 0) pe_int set_list))
      (C8.pss_cut (ps_if (PW.pt (pw_and (pt_cmpR op_lt (pv 4) (pe_callB cn_len rfl T.n_len (by decide +kernel) (pa_cons (pv 3) pa_nil)) (nomark _)) (pw_and1 (pt_cmpR op_ge (pe_callB cn_abs rfl T.n_abs (by decide +kernel) (pa_cons (pe_ix ix_seq (pv 3) (pv 4) (fun _ _ => rfl)) pa_nil)) (pe_op op_pow pe_int pe_int) (nomark _))))) (pss_cons (ps_asg (pe_op op_fdivW (pe_callB cn_abs rfl T.n_abs (by decide +kernel) (pa_cons (pe_ix ix_seq (pv 3) (pv 4) (fun _ _ => rfl)) pa_nil)) (pv 1)) (pg_sub (pv 0) pe_int set_list))
      (pss_one (ps_ret (pe_op op_mod (pe_callTy cn_int rfl T.n_int (by decide +kernel) (pa_cons (pe_callB cn_abs rfl T.n_abs (by decide +kernel) (pa_cons (pe_ix ix_seq (pv 3) (pv 4) (fun _ _ => rfl)) pa_nil)) pa_nil)) (pv 1))))) pss_nil)
      (pss_cons (ps_set (i := 5) sc__law_draw.nd rfl (Or.inl rfl) pe_int)
      (C8.pss_cut (ps_if (pt_cmpR op_gt (pe_callB cn_len rfl T.n_len (by decide +kernel) (pa_cons (pv 3) pa_nil)) pe_int (nomark _)) (pss_one (ps_set (i := 5) sc__law_draw.nd rfl (Or.inl rfl) (pe_ix ix_seq (pv 3) (pe_op op_mod (pe_callTy cn_int rfl T.n_int (by decide +kernel) (pa_cons (pv 4) pa_nil)) (pe_callB cn_len rfl T.n_len (by decide +kernel) (pa_cons (pv 3) pa_nil))) (fun _ _ => rfl)))) pss_nil)
      (pss_cons (ps_set (i := 6) sc__law_draw.nd rfl (Or.inl rfl) (pe_h (E := ED E) h__law_mixed hr (paW (takes_of rfl rfl rfl rfl)) (pa_cons (pv 5) (pa_cons (pv 4) pa_nil))))
      (C8.pss_cut (ps_if (pt_cmpR op_gt (pv 1) pe_int (nomark _)) (pss_one (ps_for (passes_of rfl) rfl (pi_range1 rfl T.n_range (pa_cons pe_int pa_nil)) (pg_name (i := 7) sc__law_draw.nd rfl (Or.inl rfl)) (pss_one (ps_set (i := 6) sc__law_draw.nd rfl (Or.inl rfl) (pe_op op_add (pe_op op_mulS (pv 6) pe_int) (pe_h (E := ED E) h__law_mixed hr (paW (takes_of rfl rfl rfl rfl)) (pa_cons (pe_op op_add (pv 5) (pe_op op_mulS pe_int (pv 7))) (pa_cons (pe_op op_add (pe_op op_add (pe_op op_mulS pe_int (pv 4)) (pe_op op_mulS pe_int (pv 7))) pe_int) pa_nil)))))))) pss_nil)
      (pss_one (ps_ret (pe_op op_mod (pe_callTy cn_int rfl T.n_int (by decide +kernel) (pa_cons (pv 6) pa_nil)) (pv 1))))))))))))), ?_⟩
    try simp only [cxOf]
    obtain ⟨p, c, many, rfl, ⟨ns, at_, pend, hp, hc, cp, h0, h1⟩, hm, hmb, q⟩ := h
    have hdw : ∀ x : Int, CDivW x many := fun x => wide_div hm hmb (by decide) (by decide)
    walk_at "W"
    refine w_ite (fun hg => ?_) (fun hg => ?_)
    · walk_at "W"
      refine w_I (hdw _) ?_
      walk_at "W"
      refine w_setL hp rfl fun H1 s1 e1 => ?_
      walk_at "W"
      exact q _ _ (Int.emod_nonneg _ (by omega)) (Int.emod_lt_of_pos _ hm) s1 ⟨ns, at_, pend / many, e1, s1 _ _ cp hc, cp, h0, Int.ediv_nonneg h1 (by omega)⟩
    walk_at "W"
    refine w_setL hp rfl fun H1 s1 e1 => ?_
    have hc1 : H1 c = some (.lst (ns.map V.int)) := s1 _ _ cp hc
    have st1 : StA H1 p c := ⟨ns, at_ + 1, pend, e1, hc1, cp, by omega, h1⟩
    walk_at "W"
    refine w_cutE (σ' := [some (.ref p), some (.int many), none, some (.ref c), some (.int at_), none, none, none]) (H' := H1) ?_ ?_
    · walk_at "W"
      refine w_lenL (SqL.of hc1) ?_
      walk_at "W"
      refine w_ite (fun hl => ?_) (fun hl => ?_)
      · obtain ⟨z, hz⟩ := atI_ints (ns := ns) h0 (by simpa using hl)
        walk_at "W"
        refine w_ixL hc1 hz ?_
        walk_at "W"
        refine w_ite (fun _ => ?_) (fun _ => ?_)
        · walk_at "W"
          refine w_ixL hc1 hz ?_
          walk_at "W"
          refine w_I (hdw _) ?_
          walk_at "W"
          refine w_setL e1 rfl fun H2 s2 e2 => ?_
          walk_at "W"
          have hc2 : H2 c = some (.lst (ns.map V.int)) := s2 _ _ cp hc1
          refine w_ixL hc2 hz ?_
          walk_at "W"
          exact q _ _ (Int.emod_nonneg _ (by omega)) (Int.emod_lt_of_pos _ hm) (s1.trans s2) ⟨ns, at_ + 1, _, e2, hc2, cp, by omega, Int.ediv_nonneg (Int.natCast_nonneg _) (by omega)⟩
        · walk_at "W"
          exact ⟨rfl, rfl⟩
      · walk_at "W"
        exact ⟨rfl, rfl⟩
    walk_at "W"
    refine w_cut (fun σ' H' => H' = H1 ∧ ∃ z : Int, σ' = [some (.ref p), some (.int many), none, some (.ref c), some (.int at_), some (.int z), none, none]) ?_ ?_
    · walk_at "W"
      refine w_lenL (SqL.of hc1) ?_
      walk_at "W"
      refine w_ite (fun hl => ?_) (fun hl => ?_)
      · walk_at "W"
        refine w_lenL (SqL.of hc1) ?_
        walk_at "W"
        have hl' : 0 < (ns.length : Int) := by simpa using hl
        have hl2 : (0 : Int) < (((ns.map V.int).length : Nat) : Int) := by simpa using hl'
        obtain ⟨z, hz⟩ := atI_ints (ns := ns) (k := at_ % ((ns.map V.int).length : Int)) (Int.emod_nonneg _ (by rw [List.length_map]; omega)) (by have := Int.emod_lt_of_pos at_ (b := ((ns.map V.int).length : Int)) (by simpa using hl'); simpa using this)
        refine w_ixL hc1 hz ?_
        walk_at "W"
        exact ⟨rfl, z, rfl⟩
      · walk_at "W"
        exact ⟨rfl, 0, rfl⟩
    rintro σ1 H2 ⟨rfl, z, rfl⟩
    walk_at "W"
    refine ⟨z, at_, rfl, fun r hr0 hr1 => ?_⟩
    walk_at "W"
    refine w_cut (fun σ' H' => Same H2 H' ∧ ∃ (n : Int) (v : Option V), σ' = [some (.ref p), some (.int many), none, some (.ref c), some (.int at_), some (.int z), some (.int n), v]) ?_ ?_
    · walk_at "W"
      refine w_ite (fun _ => ?_) (fun _ => ?_)
      · walk_at "W"
        refine k_forR (fun _ σ' H' => Same H2 H' ∧ ∃ (n : Int) (v : Option V), σ' = [some (.ref p), some (.int many), none, some (.ref c), some (.int at_), some (.int z), some (.int n), v]) (by decide) (by decide) ⟨Same.refl _, r, none, rfl⟩ ?_ ?_
        · rintro i σ' H' hi ⟨s2, n, v, rfl⟩
          have hi7 : i < 7 := hi
          walk_at "W"
          refine ⟨_, _, rfl, fun r' _ _ => ?_⟩
          walk_at "W"
          exact ⟨s2, _, _, rfl⟩
        · rintro σ' H' ⟨s2, n, v, rfl⟩
          walk_at "W"
          exact ⟨s2, n, v, rfl⟩
      · walk_at "W"
        exact ⟨Same.refl _, r, none, rfl⟩
    rintro σ1 H3 ⟨s2, n, v, rfl⟩
    walk_at "W"
    exact q _ _ (Int.emod_nonneg _ (by omega)) (Int.emod_lt_of_pos _ hm) (s1.trans (Same.x s2)) (st1.same s2)
abbrev s__law_between : Stmt := top 17
theorem sc__law_between : FnScope ["state", "least", "most"] ["state", "least", "most"] (defScope s__law_between) := ⟨rfl, rfl, rfl, by decide +kernel, rfl, by decide +kernel, by decide +kernel⟩

def sp__law_between (Z : Zs) : Sp := fun vs H Q E =>
  ∃ p c lo hi, vs = [.ref p, .int lo, .int hi] ∧ StA H p c ∧ lo ≤ hi ∧ Bd (hi - lo + 1) ∧ ∀ n H', lo ≤ n → n ≤ hi → SameX p H H' → StA H' p c → Q (.int n) H'
theorem ok__law_between (T : Txt Z mg) (h__law_draw : Has P w Z.K mg base "_law_draw" 2 ["state", "many"] (sp__law_draw Z)) (D : AtF Z.K mg "_law_between" "_law_between" s__law_between ["state", "least", "most"]) : Has P w Z.K mg base "_law_between" 3 ["state", "least", "most"] (sp__law_between Z) := by
  refine D.ok sc__law_between (fun vs H Q E h => ?_) (fun cdv A outer s H vs Q E hr h => ?_)
  · obtain ⟨p, c, lo, hi, rfl, _⟩ := h
    rfl
  · refine ⟨_, (pss_one (ps_ret (pe_op op_add (pv 1) (pe_h (E := ED E) h__law_draw hr (paW (takes_of rfl rfl rfl rfl)) (pa_cons (pv 0) (pa_cons (pe_op op_add (pe_op op_sub (pv 2) (pv 1)) pe_int) pa_nil)))))), ?_⟩
    try simp only [cxOf]
    obtain ⟨p, c, lo, hi, rfl, hs, hl, hb, q⟩ := h
    walk_at "W"
    refine ⟨p, c, _, rfl, hs, by omega, hb, fun n H' h0 h1 s1 st => ?_⟩
    walk_at "W"
    exact q _ H' (by omega) (by omega) s1 st
theorem natgcd_mod (a b : Nat) : Nat.gcd b (a % b) = Nat.gcd a b := by rw [Nat.gcd_comm a b, Nat.gcd_rec b a, Nat.gcd_comm]
abbrev s__law_common : Stmt := top 18
theorem sc__law_common : FnScope ["one", "other", "rest"] ["one", "other"] (defScope s__law_common) := ⟨rfl, rfl, rfl, by decide +kernel, rfl, by decide +kernel, by decide +kernel⟩

def sp__law_common (Z : Zs) : Sp := fun vs H Q E =>
  ∃ a b : Int, vs = [.int a, .int b] ∧ Q (.int ((a.natAbs.gcd b.natAbs : Nat) : Int)) H
theorem ok__law_common (T : Txt Z mg)  (D : AtF Z.K mg "_law_common" "_law_common" s__law_common ["one", "other"]) : Has P w Z.K mg base "_law_common" 1 ["one", "other"] (sp__law_common Z) := by
  refine D.ok sc__law_common (fun vs H Q E h => ?_) (fun cdv A outer s H vs Q E hr h => ?_)
  · obtain ⟨a, b, rfl, _⟩ := h
    rfl
  · refine ⟨_, (pss_cons (ps_set (i := 0) sc__law_common.nd rfl (Or.inl rfl) (pe_callB cn_abs rfl T.n_abs (by decide +kernel) (pa_cons (pv 0) pa_nil)))
      (pss_cons (ps_set (i := 1) sc__law_common.nd rfl (Or.inl rfl) (pe_callB cn_abs rfl T.n_abs (by decide +kernel) (pa_cons (pv 1) pa_nil)))
      (pss_cons (ps_while (passes_of rfl) (pt_cmpR op_gt (pv 1) pe_int (nomark _)) (pss_cons (ps_set (i := 2) sc__law_common.nd rfl (Or.inl rfl) (pe_op op_mod (pe_callTy cn_int rfl T.n_int (by decide +kernel) (pa_cons (pv 0) pa_nil)) (pv 1)))
      (pss_cons (ps_set (i := 0) sc__law_common.nd rfl (Or.inl rfl) (pv 1))
      (pss_one (ps_set (i := 1) sc__law_common.nd rfl (Or.inl rfl) (pv 2))))))
      (pss_one (ps_ret (pv 0)))))), ?_⟩
    try simp only [cxOf]
    obtain ⟨a, b, rfl, q⟩ := h
    walk_at "W"
    refine while_by (fun σ' H' => H' = H ∧ ∃ (x y : Nat) (v : Option V), σ' = [some (.int x), some (.int y), v] ∧ x.gcd y = a.natAbs.gcd b.natAbs) (fun σ' _ => match σ' with | [_, some (.int y), _] => y.toNat | _ => 0) ⟨rfl, _, _, none, rfl, rfl⟩ ?_ ?_
    · rintro σ' H' ⟨rfl, x, y, v, rfl, e⟩
      walk_at "W"
      refine w_ite (fun hy => ?_) (fun hy => ?_)
      · walk_at "W"
        refine ⟨⟨rfl, y, x % y, _, by rw [Int.natCast_emod], ?_⟩, ?_⟩
        · rw [natgcd_mod]; exact e
        · show ((x : Int) % (y : Int)).toNat < ((y : Int)).toNat
          have h1 := Int.emod_lt_of_pos (x : Int) hy
          have h2 := Int.emod_nonneg (x : Int) (show (y : Int) ≠ 0 by omega)
          omega
      · walk_at "W"
        obtain rfl : y = 0 := by omega
        rw [Nat.gcd_zero_right] at e
        rw [e]
        exact q
    · intro σ' H' Q1 Q2 hh h1
      obtain ⟨v, hv, i, j, e1, e2, k, e3, q1⟩ := h1
      exact ⟨v, hv, i, j, e1, e2, k, e3, hh _ _ q1⟩
abbrev s__law_lowest : Stmt := top 19
theorem sc__law_lowest : FnScope ["number", "part"] ["number"] (defScope s__law_lowest) := ⟨rfl, rfl, rfl, by decide +kernel, rfl, by decide +kernel, by decide +kernel⟩

def sp__law_lowest (Z : Zs) : Sp := fun vs H Q E =>
  ∃ (p : Addr) (t r b : Int), vs = [.ref p] ∧ (H p = some (.lst [.int t, .int r, .int b]) ∨ H p = some (.tup [.int t, .int r, .int b])) ∧ b ≠ 0 ∧ Bd b ∧
    ∀ u H', H u = none → Same H H' → H' u = some (.tup [.int (lowT t r b), .int (lowR t r b), .int (lowB t r b)]) → Q (.ref u) H'
theorem ok__law_lowest (T : Txt Z mg) (h__law_common : Has P w Z.K mg base "_law_common" 1 ["one", "other"] (sp__law_common Z)) (D : AtF Z.K mg "_law_lowest" "_law_lowest" s__law_lowest ["number"]) : Has P w Z.K mg base "_law_lowest" 2 ["number"] (sp__law_lowest Z) := by
  refine D.ok sc__law_lowest (fun vs H Q E h => ?_) (fun cdv A outer s H vs Q E hr h => ?_)
  · obtain ⟨p, t, r, b, rfl, _⟩ := h
    rfl
  · refine ⟨_, (pss_cons (ps_set (i := 1) sc__law_lowest.nd rfl (Or.inl rfl) (pe_h (E := ED E) h__law_common hr (paW (takes_of rfl rfl rfl rfl)) (pa_cons (pe_h (E := ED E) h__law_common hr (paW (takes_of rfl rfl rfl rfl)) (pa_cons (pe_ix ix_seq (pv 0) pe_int (fun _ _ => rfl)) (pa_cons (pe_ix ix_seq (pv 0) pe_int (fun _ _ => rfl)) pa_nil))) (pa_cons (pe_ix ix_seq (pv 0) pe_int (fun _ _ => rfl)) pa_nil))))
      (pss_cons (ps_if (pt_cmpR op_lt (pe_ix ix_seq (pv 0) pe_int (fun _ _ => rfl)) pe_int (nomark _)) (pss_one (ps_set (i := 1) sc__law_lowest.nd rfl (Or.inl rfl) (pe_un un_neg (pv 1)))) pss_nil)
      (pss_one (ps_ret (pe_tup (pa_cons (pe_op op_fdivV (pe_ix ix_seq (pv 0) pe_int (fun _ _ => rfl)) (pv 1)) (pa_cons (pe_op op_fdivV (pe_ix ix_seq (pv 0) pe_int (fun _ _ => rfl)) (pv 1)) (pa_cons (pe_op op_fdivV (pe_ix ix_seq (pv 0) pe_int (fun _ _ => rfl)) (pv 1)) pa_nil)))))))), ?_⟩
    try simp only [cxOf]
    obtain ⟨p, t, r, b, rfl, hp, hb, hk, q⟩ := h
    have ix : ∀ {i : Int} {v : V} {QQ : VK}, atI [V.int t, .int r, .int b] i = some v → QQ v H → rIx Z.K (.ref p) (.int i) H QQ := fun e qq => by
      rcases hp with hp | hp
      · exact w_ixL hp e qq
      · exact w_ixT hp e qq
    have hd : ∀ x, CDivN9 x (sg t r b) := fun x => sg_div hb hk
    walk_at "W"
    refine ix rfl ?_
    walk_at "W"
    refine ix rfl ?_
    walk_at "W"
    refine ⟨t, r, rfl, ?_⟩
    walk_at "W"
    refine ix rfl ?_
    walk_at "W"
    refine ⟨_, b, rfl, ?_⟩
    rw [Int.natAbs_natCast]
    walk_at "W"
    refine ix rfl ?_
    walk_at "W"
    refine w_ite (fun hn => ?_) (fun hn => ?_)
    · walk_at "W"
      have eg : sg t r b = -(((t.natAbs.gcd r.natAbs).gcd b.natAbs : Nat) : Int) := if_pos hn
      rw [← eg]
      refine ix rfl ?_
      walk_at "W"
      refine w_I (hd _) ?_
      walk_at "W"
      refine ix rfl ?_
      walk_at "W"
      refine w_I (hd _) ?_
      walk_at "W"
      refine ix rfl ?_
      walk_at "W"
      refine w_I (hd _) ?_
      walk_at "W"
      exact k_tup rfl q
    · walk_at "W"
      have eg : sg t r b = (((t.natAbs.gcd r.natAbs).gcd b.natAbs : Nat) : Int) := if_neg hn
      rw [← eg]
      refine ix rfl ?_
      walk_at "W"
      refine w_I (hd _) ?_
      walk_at "W"
      refine ix rfl ?_
      walk_at "W"
      refine w_I (hd _) ?_
      walk_at "W"
      refine ix rfl ?_
      walk_at "W"
      refine w_I (hd _) ?_
      walk_at "W"
      exact k_tup rfl q
abbrev s__law_is_root : Stmt := top 20
theorem sc__law_is_root : FnScope ["thing", "number", "part"] ["thing", "number"] (defScope s__law_is_root) := ⟨rfl, rfl, rfl, by decide +kernel, rfl, by decide +kernel, by decide +kernel⟩

def sp__law_is_root (Z : Zs) : Sp := fun vs H Q E =>
  ∃ (v : V) (p : Addr) (t r b t' r' b' : Int), vs = [v, .ref p] ∧ RootAt Z.c_Root H v t' r' b' ∧ (H p = some (.lst [.int t, .int r, .int b]) ∨ H p = some (.tup [.int t, .int r, .int b])) ∧ b ≠ 0 ∧ Bd b ∧
    t' = lowT t r b ∧ r' = lowR t r b ∧ b' = lowB t r b ∧ ∀ H', Same H H' → Q (.bl true) H'
theorem ok__law_is_root (T : Txt Z mg) (h__law_lowest : Has P w Z.K mg base "_law_lowest" 2 ["number"] (sp__law_lowest Z)) (D : AtF Z.K mg "_law_is_root" "_law_is_root" s__law_is_root ["thing", "number"]) : Has P w Z.K mg base "_law_is_root" 3 ["thing", "number"] (sp__law_is_root Z) := by
  refine D.ok sc__law_is_root (fun vs H Q E h => ?_) (fun cdv A outer s H vs Q E hr h => ?_)
  · obtain ⟨v, p, t, r, b, t', r', b', rfl, _⟩ := h
    rfl
  · refine ⟨_, (pss_cons (ps_if (pt_not (pt_val (pe_callB call_isi rfl T.n_isinstance (by decide +kernel) (pa_cons (pv 0) (pa_cons (pe_glob (v := .ref Z.c_Root) rfl T.g_Root rfl) pa_nil))))) (pss_one (ps_ret pe_bl)) pss_nil)
      (pss_cons (ps_for (passes_of rfl) rfl (pi_list (pe_lst (pa_cons (pe_fld (pv 0) rfl) (pa_cons (pe_fld (pv 0) rfl) (pa_cons (pe_fld (pv 0) rfl) pa_nil))))) (pg_name (i := 2) sc__law_is_root.nd rfl (Or.inl rfl)) (pss_one (ps_if (PW.pt (pw_or (pt_not (pt_val (pe_callB call_isi rfl T.n_isinstance (by decide +kernel) (pa_cons (pv 2) (pa_cons (pe_bltn (v := .ty "int") rfl T.n_int (by decide +kernel) rfl) pa_nil))))) (pw_or1 (pt_val (pe_callB call_isi rfl T.n_isinstance (by decide +kernel) (pa_cons (pv 2) (pa_cons (pe_bltn (v := .ty "bool") rfl T.n_bool (by decide +kernel) rfl) pa_nil))))))) (pss_one (ps_ret pe_bl)) pss_nil)))
      (pss_one (ps_ret (pe_cmpR (op_eqD hr.units) (pe_tup (pa_cons (pe_fld (pv 0) rfl) (pa_cons (pe_fld (pv 0) rfl) (pa_cons (pe_fld (pv 0) rfl) pa_nil)))) (pe_h (E := ED E) h__law_lowest hr (paW (takes_of rfl rfl rfl rfl)) (pa_cons (pv 1) pa_nil)) (nomark _)))))), ?_⟩
    try simp only [cxOf]
    obtain ⟨v, p, t, r, b, t', r', b', rfl, ⟨a, dx, rfl, ha⟩, hp, hb, hk, et, er, eb, q⟩ := h
    obtain ⟨ty, hty, _, _, k3, _⟩ := (Th.root a dx t' r' b' ha).ty T.ki
    have ic : isC Z.c_Root H (.ref a) = true := by
      show (match H a with | some (.ins C _ _) => decide (C = Z.c_Root) | _ => false) = true
      rw [ha]
      exact decide_eq_true rfl
    rw [ic] at k3
    walk_at "W"
    refine w_isiC hty k3 ?_
    walk_at "W"
    refine w_fld ha T.c_Root T.nf_top (rf_top _ _ _) ?_
    walk_at "W"
    refine w_fld ha T.c_Root T.nf_root (rf_root _ _ _) ?_
    walk_at "W"
    refine w_fld ha T.c_Root T.nf_bottom (rf_bottom _ _ _) ?_
    walk_at "W"
    refine k_lst rfl fun l H1 hl s1 e1 => ?_
    refine k_forL (xs := [.int t', .int r', .int b']) (fun _ σ' H' => H' = H1 ∧ ∃ v, σ' = [some (.ref a), some (.ref p), v]) (SqL.of e1) ⟨rfl, none, rfl⟩ (fun _ _ H' h => by rw [h.1]; exact SqL.of e1) ?_ ?_
    · rintro i x σ' H' hx ⟨rfl, v, rfl⟩
      obtain ⟨z, rfl⟩ : ∃ z, x = V.int z := by
        rcases i with _ | _ | _ | i
        · cases hx; exact ⟨_, rfl⟩
        · cases hx; exact ⟨_, rfl⟩
        · cases hx; exact ⟨_, rfl⟩
        · simp at hx
      obtain ⟨ty', hty', k1, k2, _⟩ := (Th.int (c := Z.c_Root) (H := H') z).ty T.ki
      walk_at "W"
      refine w_isi hty' k1 ?_
      walk_at "W"
      refine w_isi hty' k2 ?_
      walk_at "W"
      exact ⟨rfl, _, rfl⟩
    · rintro σ' H' ⟨rfl, v, rfl⟩
      have ha1 := s1 _ _ ha
      walk_at "W"
      refine w_fld ha1 T.c_Root T.nf_top (rf_top _ _ _) ?_
      walk_at "W"
      refine w_fld ha1 T.c_Root T.nf_root (rf_root _ _ _) ?_
      walk_at "W"
      refine w_fld ha1 T.c_Root T.nf_bottom (rf_bottom _ _ _) ?_
      walk_at "W"
      refine k_tup rfl fun u H2 hu s2 e2 => ?_
      walk_at "W"
      refine ⟨p, t, r, b, rfl, ?_, hb, hk, fun u' H3 hu' s3 e3 => ?_⟩
      · rcases hp with hp | hp
        · exact .inl (s2 _ _ (s1 _ _ hp))
        · exact .inr (s2 _ _ (s1 _ _ hp))
      refine w_eqT (ns := [t', r', b']) (ms := [lowT t r b, lowR t r b, lowB t r b]) (s3 _ _ e2) e3 ?_
      rw [decide_eq_true (by rw [et, er, eb])]
      exact q H3 (s1.trans (s2.trans s3))
abbrev s__law_bad : Stmt := top 21
theorem sc__law_bad : FnScope ["state"] ["state"] (defScope s__law_bad) := ⟨rfl, rfl, rfl, by decide +kernel, rfl, by decide +kernel, by decide +kernel⟩

def sp__law_bad (Z : Zs) : Sp := fun vs H Q E =>
  ∃ p c, vs = [.ref p] ∧ StA H p c ∧ ∀ v H', isI v = false → Odd Z.c_Root H' v → (∀ a, v = .ref a → H a = none) → SameX p H H' → StA H' p c → Q v H'
theorem ok__law_bad (T : Txt Z mg) (h__law_draw : Has P w Z.K mg base "_law_draw" 2 ["state", "many"] (sp__law_draw Z)) (D : AtF Z.K mg "_law_bad" "_law_bad" s__law_bad ["state"]) : Has P w Z.K mg base "_law_bad" 3 ["state"] (sp__law_bad Z) := by
  refine D.ok sc__law_bad (fun vs H Q E h => ?_) (fun cdv A outer s H vs Q E hr h => ?_)
  · obtain ⟨p, c, rfl, _⟩ := h
    rfl
  · refine ⟨_, (pss_one (ps_ret (pe_ix ix_seq (pe_lst (pa_cons pe_bl (pa_cons pe_bl (pa_cons pe_str (pa_cons pe_non (pa_cons (pe_lst (pa_cons pe_int pa_nil)) (pa_cons (pe_tup (pa_cons pe_int pa_nil)) (pa_cons (pe_tup pa_nil) (pa_cons pe_str (pa_cons (pe_lst pa_nil) (pa_cons pe_dnewK pa_nil))))))))))) (pe_h (E := ED E) h__law_draw hr (paW (takes_of rfl rfl rfl rfl)) (pa_cons (pv 0) (pa_cons pe_int pa_nil))) (fun _ _ => rfl)))), ?_⟩
    try simp only [cxOf]
    obtain ⟨p, c, rfl, hs, q⟩ := h
    walk_at "W"
    refine k_lst rfl fun l1 H1 f1 s1 e1 => ?_
    walk_at "W"
    refine k_tup rfl fun l2 H2 f2 s2 e2 => ?_
    walk_at "W"
    refine k_tup rfl fun l3 H3 f3 s3 e3 => ?_
    walk_at "W"
    refine k_lst rfl fun l4 H4 f4 s4 e4 => ?_
    walk_at "W"
    refine k_dnew fun l5 H5 f5 s5 e5 => ?_
    walk_at "W"
    refine k_lst rfl fun l6 H6 f6 s6 e6 => ?_
    walk_at "W"
    have s06 : Same H H6 := s1.trans (s2.trans (s3.trans (s4.trans (s5.trans s6))))
    have n1 : l1 ≠ p := (hs.new f1).1
    have n4 : l4 ≠ p := ((hs.same (s1.trans (s2.trans s3))).new f4).1
    have n5 : l5 ≠ p := ((hs.same (s1.trans (s2.trans (s3.trans s4)))).new f5).1
    have n6 : l6 ≠ p := ((hs.same (s1.trans (s2.trans (s3.trans (s4.trans s5))))).new f6).1
    refine ⟨p, c, 10, rfl, hs.same s06, by decide, by show (10 : Nat) < 2 ^ 8000; decide, fun n H7 h0 h1 s7 st => ?_⟩
    have hs6 := hs.same s06
    have n2 : l2 ≠ p := hs6.ne (s6 _ _ (s5 _ _ (s4 _ _ (s3 _ _ e2)))) (by intro xs z; cases z)
    have n3 : l3 ≠ p := hs6.ne (s6 _ _ (s5 _ _ (s4 _ _ e3))) (by intro xs z; cases z)
    have g1 := s7 _ _ n1 (s6 _ _ (s5 _ _ (s4 _ _ (s3 _ _ (s2 _ _ e1)))))
    have g2 := s7 _ _ n2 (s6 _ _ (s5 _ _ (s4 _ _ (s3 _ _ e2))))
    have g3 := s7 _ _ n3 (s6 _ _ (s5 _ _ (s4 _ _ e3)))
    have g4 := s7 _ _ n4 (s6 _ _ (s5 _ _ e4))
    have g5 := s7 _ _ n5 (s6 _ _ e5)
    have g6 := s7 _ _ n6 e6
    have sx : SameX p H H7 := (Same.x s06).trans s7
    have fin : ∀ v, atI [V.bl true, .bl false, .str "1", .non, .ref l1, .ref l2, .ref l3, .str "", .ref l4, .ref l5] n = some v → Q v H7 → rIx Z.K (.ref l6) (.int n) H7 Q := fun v e qq => w_ixL g6 e qq
    have hn : n = 0 ∨ n = 1 ∨ n = 2 ∨ n = 3 ∨ n = 4 ∨ n = 5 ∨ n = 6 ∨ n = 7 ∨ n = 8 ∨ n = 9 := by omega
    rcases hn with rfl | rfl | rfl | rfl | rfl | rfl | rfl | rfl | rfl | rfl
    · exact fin _ rfl (q _ _ rfl ⟨.bl _, fun _ => .inl ⟨_, rfl⟩⟩ (fun a z => by cases z) sx st)
    · exact fin _ rfl (q _ _ rfl ⟨.bl _, fun _ => .inl ⟨_, rfl⟩⟩ (fun a z => by cases z) sx st)
    · exact fin _ rfl (q _ _ rfl ⟨.str _, fun _ => .inr ⟨rfl, .str _ (by decide +kernel)⟩⟩ (fun a z => by cases z) sx st)
    · exact fin _ rfl (q _ _ rfl ⟨.non, fun _ => .inr ⟨rfl, .non⟩⟩ (fun a z => by cases z) sx st)
    · exact fin _ rfl (q _ _ rfl ⟨.lst _ _ g1, fun _ => .inr ⟨rfl, .lst l1 [1] g1⟩⟩ (fun a z => by cases z; exact f1) sx st)
    · exact fin _ rfl (q _ _ rfl ⟨.tup _ _ g2, fun _ => .inr ⟨rfl, .tup l2 [1] g2⟩⟩ (fun a z => by cases z; exact s1.free f2) sx st)
    · exact fin _ rfl (q _ _ rfl ⟨.tup _ _ g3, fun _ => .inr ⟨rfl, .tup l3 [] g3⟩⟩ (fun a z => by cases z; exact (s1.trans s2).free f3) sx st)
    · exact fin _ rfl (q _ _ rfl ⟨.str _, fun _ => .inr ⟨rfl, .str _ (by decide +kernel)⟩⟩ (fun a z => by cases z) sx st)
    · exact fin _ rfl (q _ _ rfl ⟨.lst _ _ g4, fun _ => .inr ⟨rfl, .lst l4 [] g4⟩⟩ (fun a z => by cases z; exact (s1.trans (s2.trans s3)).free f4) sx st)
    · exact fin _ rfl (q _ _ rfl ⟨.dK _ _ g5, fun _ => .inr ⟨rfl, .dK l5 g5⟩⟩ (fun a z => by cases z; exact (s1.trans (s2.trans (s3.trans s4))).free f5) sx st)
abbrev s__law_same_thing : Stmt := top 23
theorem sc__law_same_thing : FnScope ["one", "other"] ["one", "other"] (defScope s__law_same_thing) := ⟨rfl, rfl, rfl, by decide +kernel, rfl, by decide +kernel, by decide +kernel⟩

def sp__law_same_thing (Z : Zs) : Sp := fun vs H Q E =>
  ∃ v, vs = [v, v] ∧ Th Z.c_Root H v ∧ ((∃ b, v = .bl b) ∨ isB v = false ∧ Selfy H v) ∧ Q (.bl true) H
theorem ok__law_same_thing (T : Txt Z mg)  (D : AtF Z.K mg "_law_same_thing" "_law_same_thing" s__law_same_thing ["one", "other"]) : Has P w Z.K mg base "_law_same_thing" 1 ["one", "other"] (sp__law_same_thing Z) := by
  refine D.ok sc__law_same_thing (fun vs H Q E h => ?_) (fun cdv A outer s H vs Q E hr h => ?_)
  · obtain ⟨v, rfl, _⟩ := h
    rfl
  · refine ⟨_, (pss_cons (ps_if (PW.pt (pw_or (pt_val (pe_callB call_isi rfl T.n_isinstance (by decide +kernel) (pa_cons (pv 0) (pa_cons (pe_bltn (v := .ty "bool") rfl T.n_bool (by decide +kernel) rfl) pa_nil)))) (pw_or1 (pt_val (pe_callB call_isi rfl T.n_isinstance (by decide +kernel) (pa_cons (pv 1) (pa_cons (pe_bltn (v := .ty "bool") rfl T.n_bool (by decide +kernel) rfl) pa_nil))))))) (pss_one (ps_ret (pe_or (pe_and (pe_cmpR op_isBl (pv 0) pe_bl (nomark _)) (pe_one (pe_cmpR op_isBl (pv 1) pe_bl (nomark _)))) (pe_one (pe_and (pe_cmpR op_isBl (pv 0) pe_bl (nomark _)) (pe_one (pe_cmpR op_isBl (pv 1) pe_bl (nomark _)))))))) pss_nil)
      (pss_one (ps_ret (pe_cmpR (op_eqU hr.units) (pv 0) (pv 1) (nomark _))))), ?_⟩
    try simp only [cxOf]
    obtain ⟨v, rfl, hv, hk, q⟩ := h
    obtain ⟨ty, hty, _, k2, _⟩ := hv.ty T.ki
    walk_at "W"
    refine w_isi hty k2 ?_
    walk_at "W"
    rcases hk with ⟨b, rfl⟩ | ⟨hb, hk⟩
    · cases b
      · walk_at "W"
        exact q
      · walk_at "W"
        exact q
    · rw [hb]
      walk_at "W"
      refine w_isi hty k2 ?_
      rw [hb]
      walk_at "W"
      exact w_eqSelf hk q
abbrev s__law_asked : Stmt := top 22
theorem sc__law_asked : FnScope ["top", "root", "bottom", "found", "e"] ["top", "root", "bottom"] (defScope s__law_asked) := ⟨rfl, rfl, rfl, by decide +kernel, rfl, by decide +kernel, by decide +kernel⟩

def sp__law_asked (Z : Zs) : Sp := fun vs H Q E =>
  ∃ a b c, vs = [a, b, c] ∧ Th Z.c_Root H a ∧ Th Z.c_Root H b ∧ Th Z.c_Root H c ∧ ∃ v, badOf a b c = some v ∧ (∀ k, c = .int k → Bd k) ∧ ∀ u H', Same H H' → H' u = some (.tup [.str "refused", v]) → Q (.ref u) H'
theorem ok__law_asked (T : Txt Z mg) (h_Root : HasC P w Z.K mg base "Root" Z.c_Root 3 ["self", "top", "root", "bottom"] (sp_Root_init Z)) (D : AtF Z.K mg "_law_asked" "_law_asked" s__law_asked ["top", "root", "bottom"]) : Has P w Z.K mg base "_law_asked" 5 ["top", "root", "bottom"] (sp__law_asked Z) := by
  refine D.ok sc__law_asked (fun vs H Q E h => ?_) (fun cdv A outer s H vs Q E hr h => ?_)
  · obtain ⟨a, b, c, rfl, _⟩ := h
    rfl
  · refine ⟨_, (pss_cons (ps_set (i := 3) sc__law_asked.nd rfl (Or.inl rfl) (pe_tup (pa_cons pe_str (pa_cons pe_non pa_nil))))
      (pss_cons (ps_try_as (i := 4) (tb := fun W => tDrop (tMakeS Z.c_Root (sp_Root_init Z) (WE W) (tCons (tVar 0) (tCons (tVar 1) (tCons (tVar 2) tNil))))) rfl rfl sc__law_asked.nd rfl rfl ⟨rfl, by decide, Or.inl T.g_BadNumber⟩ takes0 (fun W pn xe tk po => (pss_one (ps_expr (pe_hc (E := WE W) h_Root hr (paW tk) (pa_cons (pv 0) (pa_cons (pv 1) (pa_cons (pv 2) pa_nil))))))) (fun a oe cls d pn hz hf => (pss_cons (ps_set (i := 3) sc__law_asked.nd rfl (Or.inl rfl) (pe_tup (pa_cons pe_str (pa_cons (pe_xf T.xf_BadNumber T.xn_BadNumber hz hf (pv 4)) pa_nil))))
      (pss_one (ps_if (PW.pt (pw_or (pt_not (pt_val (pe_callB (cn_isX T.xi_BadNumber hz hf) rfl T.n_isinstance (by decide +kernel) (pa_cons (pv 4) (pa_cons (pe_glob (v := .ref Z.c_FloorError) rfl T.g_FloorError rfl) pa_nil))))) (pw_or (pt_not (pt_val (pe_callB (cn_isX T.xi_BadNumber hz hf) rfl T.n_isinstance (by decide +kernel) (pa_cons (pv 4) (pa_cons (pe_bltn (v := .ty "ValueError") rfl T.n_ValueError (by decide +kernel) rfl) pa_nil))))) (pw_or1 (pt_val (pe_callB (cn_isX T.xi_BadNumber hz hf) rfl T.n_isinstance (by decide +kernel) (pa_cons (pv 4) (pa_cons (pe_glob (v := .ref Z.c_BadPoint) rfl T.g_BadPoint rfl) pa_nil)))))))) (pss_one (ps_set (i := 3) sc__law_asked.nd rfl (Or.inl rfl) (pe_tup (pa_cons pe_str (pa_cons (pe_xf T.xf_BadNumber T.xn_BadNumber hz hf (pv 4)) pa_nil))))) pss_nil)))))
      (pss_one (ps_ret (pv 3))))), ?_⟩
    try simp only [cxOf]
    obtain ⟨a, b, c, rfl, ha, hb, hc, v, hv, hk, q⟩ := h
    walk_at "W"
    refine k_tup rfl fun u H1 hu s1 e1 => ?_
    walk_at "W"
    refine k_mkRoot (ha.same s1) (hb.same s1) (hc.same s1) hk (fun i j k e1 e2 e3 n => ?_) (fun v' hv' d H2 hd s2 e2 => ⟨true, T.xm_BadNumber, fun _ a0 ha0 => ?_, fun z => by cases z⟩)
    · exfalso
      subst e1 e2 e3
      unfold badOf at hv
      rw [if_neg (by simp [isI]), if_neg (by simp [isI]), if_neg (by simp [isI]), if_neg (by intro z; injection z with z; exact n z)] at hv
      cases hv
    · rw [hv] at hv'
      obtain rfl : v = v' := Option.some.inj hv'
      walk_at "W"
      refine k_xf e2 ?_
      walk_at "W"
      refine k_tup rfl fun u3 H3 hu3 s3 e3 => ?_
      walk_at "W"
      refine w_isX (s3 _ _ e2) T.x1 ?_
      walk_at "W"
      refine w_isXT (s3 _ _ e2) T.x2 ?_
      walk_at "W"
      refine w_isX (s3 _ _ e2) T.x3 ?_
      walk_at "W"
      exact q _ _ (s1.trans (s2.trans s3)) e3
/-! ### lowest terms -/
theorem fdiv_exact {g x : Int} (h : g ≠ 0) (d : g ∣ x) : x.fdiv g * g = x := by
  obtain ⟨c, rfl⟩ := d
  rw [Int.mul_comm g c, Int.mul_fdiv_cancel _ h]
theorem sg_dvd (t r b : Int) : sg t r b ∣ t ∧ sg t r b ∣ r ∧ sg t r b ∣ b := by
  have h1 : (((t.natAbs.gcd r.natAbs).gcd b.natAbs : Nat) : Int) ∣ t := Int.ofNat_dvd_left.mpr (Nat.dvd_trans (Nat.gcd_dvd_left _ _) (Nat.gcd_dvd_left _ _))
  have h2 : (((t.natAbs.gcd r.natAbs).gcd b.natAbs : Nat) : Int) ∣ r := Int.ofNat_dvd_left.mpr (Nat.dvd_trans (Nat.gcd_dvd_left _ _) (Nat.gcd_dvd_right _ _))
  have h3 : (((t.natAbs.gcd r.natAbs).gcd b.natAbs : Nat) : Int) ∣ b := Int.ofNat_dvd_left.mpr (Nat.gcd_dvd_right _ _)
  unfold sg
  split
  · exact ⟨Int.neg_dvd.mpr h1, Int.neg_dvd.mpr h2, Int.neg_dvd.mpr h3⟩
  · exact ⟨h1, h2, h3⟩
/-- t r b are x y z, each times one number that is not 0, z is above 0 and no number above 1 divides x, y, z -/
structure Low (t r b x y z : Int) : Prop where
  s : ∃ s : Int, s ≠ 0 ∧ t = x * s ∧ r = y * s ∧ b = z * s
  pos : 0 < z
  one : (x.natAbs.gcd y.natAbs).gcd z.natAbs = 1
theorem low_is {t r b : Int} (h : b ≠ 0) : Low t r b (lowT t r b) (lowR t r b) (lowB t r b) := by
  have hs := sg_ne (t := t) (r := r) h
  obtain ⟨d1, d2, d3⟩ := sg_dvd t r b
  have e1 := fdiv_exact hs d1
  have e2 := fdiv_exact hs d2
  have e3 := fdiv_exact hs d3
  refine ⟨⟨_, hs, e1.symm, e2.symm, e3.symm⟩, ?_, ?_⟩
  · have hz : lowB t r b * sg t r b = b := e3
    have hsg : (b < 0 → sg t r b < 0) ∧ (¬ b < 0 → 0 < sg t r b) := by
      have : 0 < (t.natAbs.gcd r.natAbs).gcd b.natAbs := Nat.gcd_pos_of_pos_right _ (Int.natAbs_pos.mpr h)
      unfold sg
      constructor <;> intro hb <;> simp only [hb, if_true, if_false] <;> omega
    rcases Int.lt_trichotomy (lowB t r b) 0 with z | z | z
    · exfalso
      by_cases hb : b < 0
      · have := Int.mul_pos_of_neg_of_neg z (hsg.1 hb); omega
      · have := Int.mul_neg_of_neg_of_pos z (hsg.2 hb); omega
    · rw [z] at hz; omega
    · exact z
  · have hg : 0 < (t.natAbs.gcd r.natAbs).gcd b.natAbs := Nat.gcd_pos_of_pos_right _ (Int.natAbs_pos.mpr h)
    have hn : (sg t r b).natAbs = (t.natAbs.gcd r.natAbs).gcd b.natAbs := by unfold sg; split <;> omega
    have f1 : t.natAbs = (lowT t r b).natAbs * (sg t r b).natAbs := by rw [← Int.natAbs_mul]; exact congrArg _ e1.symm
    have f2 : r.natAbs = (lowR t r b).natAbs * (sg t r b).natAbs := by rw [← Int.natAbs_mul]; exact congrArg _ e2.symm
    have f3 : b.natAbs = (lowB t r b).natAbs * (sg t r b).natAbs := by rw [← Int.natAbs_mul]; exact congrArg _ e3.symm
    have : (((lowT t r b).natAbs.gcd (lowR t r b).natAbs).gcd (lowB t r b).natAbs) * (sg t r b).natAbs = 1 * (sg t r b).natAbs := by
      rw [← Nat.gcd_mul_right, ← Nat.gcd_mul_right, ← f1, ← f2, ← f3, Nat.one_mul, hn]
    exact Nat.eq_of_mul_eq_mul_right (by rw [hn]; exact hg) this
/-- lowest terms are told by the number alone -/
theorem Low.uniq {t r b x y z x' y' z' : Int} (h : Low t r b x y z) (h' : Low t r b x' y' z') : x = x' ∧ y = y' ∧ z = z' := by
  obtain ⟨⟨s, hs, a1, a2, a3⟩, p, o⟩ := h
  obtain ⟨⟨s', hs', b1, b2, b3⟩, p', o'⟩ := h'
  have k : ∀ {x y z s x' y' z' s' : Int}, x * s = x' * s' → y * s = y' * s' → z * s = z' * s' → ((x.natAbs.gcd y.natAbs).gcd z.natAbs) * s.natAbs = ((x'.natAbs.gcd y'.natAbs).gcd z'.natAbs) * s'.natAbs := fun {x y z s x' y' z' s'} h1 h2 h3 => by
    rw [← Nat.gcd_mul_right, ← Nat.gcd_mul_right, ← Nat.gcd_mul_right, ← Nat.gcd_mul_right, ← Int.natAbs_mul, ← Int.natAbs_mul, ← Int.natAbs_mul, ← Int.natAbs_mul, ← Int.natAbs_mul, ← Int.natAbs_mul, h1, h2, h3]
  have e := k (a1.symm.trans b1) (a2.symm.trans b2) (a3.symm.trans b3)
  rw [o, o', Nat.one_mul, Nat.one_mul] at e
  have ez : z * s = z' * s' := a3.symm.trans b3
  have es : s = s' := by
    rcases Int.natAbs_eq_natAbs_iff.mp e with q | q
    · exact q
    · exfalso
      rw [q, Int.mul_neg] at ez
      have : (z + z') * s' = 0 := by rw [Int.add_mul, ← ez]; omega
      rcases Int.mul_eq_zero.mp this with w | w
      · omega
      · exact hs' w
  subst es
  exact ⟨Int.eq_of_mul_eq_mul_right hs (a1.symm.trans b1), Int.eq_of_mul_eq_mul_right hs (a2.symm.trans b2), Int.eq_of_mul_eq_mul_right hs ez⟩
theorem Low.eqs {t r b x y z : Int} (h : Low t r b x y z) (hb : b ≠ 0) : x = lowT t r b ∧ y = lowR t r b ∧ z = lowB t r b := h.uniq (low_is hb)
theorem bd_of {x : Int} {n : Nat} (h : x.natAbs ≤ n) (hn : Nat.blt n (2 ^ 8000) = true) : Bd x := Nat.lt_of_le_of_lt h (by simpa using hn)
/-- three ints of a list that a law has made, beside its state -/
def L3 (H : Hp) (st sc pl : Addr) (m : Nat) (t r b : Int) : Prop := H pl = some (.lst [.int t, .int r, .int b]) ∧ (pl ≠ st ∧ pl ≠ sc) ∧ t.natAbs ≤ m ∧ r.natAbs ≤ m ∧ b.natAbs ≤ m
theorem L3.sx {H H' : Hp} {st sc pl : Addr} {m : Nat} {t r b : Int} (h : L3 H st sc pl m t r b) (s : SameX st H H') : L3 H' st sc pl m t r b := ⟨s _ _ h.2.1.1 h.1, h.2⟩
theorem len3 {ns : List Int} (h : ns.length = 3) : ∃ a b c, ns = [a, b, c] := by
  match ns, h with
  | [a, b, c], _ => exact ⟨a, b, c, rfl⟩
theorem k_draw {st sc : Addr} {many : Int} {H : Hp} {Q : VK} {E : XK} (hs : StA H st sc) (h1 : 0 < many) (h2 : Nat.blt many.natAbs 1000000 = true) (q : ∀ n H', 0 ≤ n → n < many → SameX st H H' → StA H' st sc → Q (.int n) H') : sp__law_draw Z [.ref st, .int many] H Q E :=
  ⟨st, sc, many, rfl, hs, h1, Nat.lt_of_lt_of_le (by simpa using h2 : many.natAbs < 1000000) (by decide), q⟩
theorem k_between {st sc : Addr} {lo hi : Int} {H : Hp} {Q : VK} {E : XK} (hs : StA H st sc) (h1 : lo ≤ hi) (h2 : (hi - lo + 1).natAbs ≤ 10 ^ 30) (q : ∀ n H', lo ≤ n → n ≤ hi → SameX st H H' → StA H' st sc → Q (.int n) H') : sp__law_between Z [.ref st, .int lo, .int hi] H Q E :=
  ⟨st, sc, lo, hi, rfl, hs, h1, Nat.lt_of_le_of_lt h2 (by decide), q⟩
theorem eqRt_root {H : Hp} {t r b t' r' b' : Int} {v : V} {c : Addr} (h : RootAt c H v t' r' b') : eqRt H t r b v = decide (t' = t ∧ r' = r ∧ b' = b) := by
  obtain ⟨a, dx, rfl, e⟩ := h
  unfold eqRt
  simp only [e, rf_eq]
theorem RootAt.th {c : Addr} {H : Hp} {v : V} {t r b : Int} (h : RootAt c H v t r b) : Th c H v := by
  obtain ⟨a, dx, rfl, e⟩ := h
  exact .root a dx t r b e
theorem RootAt.sx {c st sc : Addr} {H H' : Hp} {v : V} {t r b : Int} (h : RootAt c H v t r b) (hs : StA H st sc) (s : SameX st H H') : RootAt c H' v t r b := by
  obtain ⟨a, dx, rfl, e⟩ := h
  exact ⟨a, dx, rfl, s _ _ (hs.ne e (by intro xs z; cases z)) e⟩
theorem k_eqC {mg : Str → Option Value} (T : Txt Z mg) {H : Hp} {Q : VK} {E : XK} {x y : V} {t r b : Int} (hx : RootAt Z.c_Root H x t r b) (hy : Th Z.c_Root H y) (q : Q (.bl (eqRt H t r b y)) H) : rOwnC Z.K Z.c_Root (sp_Root_eq Z) E x y H Q := by
  obtain ⟨a, dx, rfl, e⟩ := hx
  obtain ⟨ty, hty, _, _, _, nf⟩ := hy.ty T.ki
  exact ⟨a, dx, _, ty, rfl, e, hty, nf, _, _, t, r, b, rfl, ⟨a, dx, rfl, e⟩, hy, q⟩
theorem k_eqR {mg : Str → Option Value} (T : Txt Z mg) {H : Hp} {Q : VK} {E : XK} {x y : V} {t r b : Int} (hy : RootAt Z.c_Root H y t r b) (hx : (∃ i, x = .int i) ∨ ∃ b, x = .bl b) (q : Q (.bl (eqRt H t r b x)) H) : rOwnR Z.K Z.c_Root (sp_Root_eq Z) E x y H Q := by
  obtain ⟨a, dx, rfl, e⟩ := hy
  rcases hx with ⟨i, rfl⟩ | ⟨c, rfl⟩
  · exact ⟨a, dx, _, rfl, e, .inl ⟨⟨i, rfl⟩, T.ki.s1⟩, _, _, t, r, b, rfl, ⟨a, dx, rfl, e⟩, .int i, q⟩
  · exact ⟨a, dx, _, rfl, e, .inr ⟨⟨c, rfl⟩, T.ki.s2⟩, _, _, t, r, b, rfl, ⟨a, dx, rfl, e⟩, .bl c, q⟩
theorem Low.zle {t r b x y z : Int} (h : Low t r b x y z) : z.natAbs ≤ b.natAbs := by
  obtain ⟨⟨s, hs, _, _, e⟩, _, _⟩ := h
  rw [e, Int.natAbs_mul]
  exact Nat.le_mul_of_pos_right _ (Int.natAbs_pos.mpr hs)
theorem Low.self {t r b x y z : Int} (h : Low t r b x y z) : Low x y z x y z := ⟨⟨1, by decide, by simp, by simp, by simp⟩, h.pos, h.one⟩
theorem Low.scale {t r b x y z : Int} (h : Low t r b x y z) {f : Int} (hf : f ≠ 0) : Low (t * f) (r * f) (b * f) x y z := by
  obtain ⟨⟨s, hs, a1, a2, a3⟩, p, o⟩ := h
  exact ⟨⟨s * f, Int.mul_ne_zero hs hf, by rw [a1, Int.mul_assoc], by rw [a2, Int.mul_assoc], by rw [a3, Int.mul_assoc]⟩, p, o⟩
theorem Low.turned {t r b x y z : Int} (h : Low t r b x y z) : Low t (-r) b x (-y) z := by
  obtain ⟨⟨s, hs, a1, a2, a3⟩, p, o⟩ := h
  exact ⟨⟨s, hs, a1, by rw [a2, Int.neg_mul], a3⟩, p, by rw [Int.natAbs_neg]; exact o⟩
theorem Low.neg {t r b x y z : Int} (h : Low t r b x y z) : Low (-t) (-r) b (-x) (-y) z := by
  obtain ⟨⟨s, hs, a1, a2, a3⟩, p, o⟩ := h
  exact ⟨⟨s, hs, by rw [a1, Int.neg_mul], by rw [a2, Int.neg_mul], a3⟩, p, by rw [Int.natAbs_neg, Int.natAbs_neg]; exact o⟩
theorem Low.far {t r b x y z x' y' z' : Int} (h : Low t r b x y z) (h' : Low (t + b) r b x' y' z') (hb : b ≠ 0) : ¬ (x' = x ∧ y' = y ∧ z' = z) := by
  rintro ⟨rfl, rfl, rfl⟩
  obtain ⟨⟨s, hs, a1, a2, a3⟩, p, o⟩ := h
  obtain ⟨⟨s', hs', b1, b2, b3⟩, _, _⟩ := h'
  have : s = s' := Int.eq_of_mul_eq_mul_left (by omega) (a3.symm.trans b3)
  subst this
  rw [← a1] at b1
  omega
theorem Low.aside {t r b x y z x' y' z' : Int} (h : Low t r b x y z) (h' : Low t (r + 1) b x' y' z') : ¬ (x' = x ∧ y' = y ∧ z' = z) := by
  rintro ⟨rfl, rfl, rfl⟩
  obtain ⟨⟨s, hs, a1, a2, a3⟩, p, o⟩ := h
  obtain ⟨⟨s', hs', b1, b2, b3⟩, _, _⟩ := h'
  have : s = s' := Int.eq_of_mul_eq_mul_left (by omega) (a3.symm.trans b3)
  subst this
  rw [← a2] at b2
  omega
theorem Low.whole {t r b x y z : Int} (h : Low t r b x y z) (w : Int) : (y = 0 ∧ z = 1 ∧ x = w) ↔ (r = 0 ∧ t = w * b) := by
  obtain ⟨⟨s, hs, a1, a2, a3⟩, p, o⟩ := h
  constructor
  · rintro ⟨rfl, rfl, rfl⟩
    rw [Int.one_mul] at a3
    rw [a3]
    exact ⟨by rw [a2, Int.zero_mul], a1⟩
  · rintro ⟨hr, ht⟩
    have hy : y = 0 := by
      rcases Int.mul_eq_zero.mp (a2.symm.trans hr) with q | q
      · exact q
      · exact absurd q hs
    have hx : x = w * z := by
      rw [a1, a3, ← Int.mul_assoc] at ht
      exact Int.eq_of_mul_eq_mul_right hs ht
    subst hy
    rw [hx, Int.natAbs_zero, Nat.gcd_zero_right, Int.natAbs_mul, Nat.gcd_mul_left_left] at o
    have : z = 1 := by omega
    subst this
    exact ⟨rfl, rfl, by rw [hx, Int.mul_one]⟩
theorem fdiv_small {t b : Int} (hb : b ≠ 0) (h : t.fmod b = 0) : (t.fdiv b).natAbs ≤ t.natAbs := by
  have e := Int.fmod_add_mul_fdiv t b
  rw [h, Int.zero_add] at e
  have : t.natAbs = b.natAbs * (t.fdiv b).natAbs := by rw [← Int.natAbs_mul, e]
  rw [this]
  exact Nat.le_mul_of_pos_left _ (Int.natAbs_pos.mpr hb)
theorem bdm {x y : Int} (hx : Bd x) (hy : Bd y) : CMulS x y := .inr (.inr (wide_mul hx hy (by decide) (by decide) (by decide)))
/-- the law's own three things -/
def SpO (c st sp : Addr) (H : Hp) (x y z : V) : Prop := H sp = some (.lst [x, y, z]) ∧ ∀ v ∈ [x, y, z], Odd c H v ∧ (∀ a, v = .ref a → a ≠ st ∧ a ≠ sp) ∧ (isI v = true → ∃ m, v = .int m ∧ Bd m)
theorem SpO.sx {c st sp : Addr} {H H' : Hp} {x y z : V} (h : SpO c st sp H x y z) (n : sp ≠ st) (s : SameX st H H') : SpO c st sp H' x y z :=
  ⟨s _ _ n h.1, fun v hv => ⟨(h.2 v hv).1.sx (fun a e => ((h.2 v hv).2.1 a e).1) s, (h.2 v hv).2⟩⟩
theorem SpO.same {c st sp : Addr} {H H' : Hp} {x y z : V} (h : SpO c st sp H x y z) (s : Same H H') : SpO c st sp H' x y z :=
  ⟨s _ _ h.1, fun v hv => ⟨(h.2 v hv).1.sx (fun a e => ((h.2 v hv).2.1 a e).1) (Same.x s), (h.2 v hv).2⟩⟩
theorem SpO.put {c st sp : Addr} {H : Hp} {x y z v : V} {i : Int} {N : Hp → Prop} (h : SpO c st sp H x y z) (hv : Odd c H v) (hn : ∀ a, v = .ref a → a ≠ st ∧ a ≠ sp) (h0 : isI v = false) (i0 : 0 ≤ i) (i3 : i < 3)
    (k : ∀ H2 x y z, SameX sp H H2 → SpO c st sp H2 x y z → N H2) : rSetL (.ref sp) (.int i) v H N := by
  have go : ∀ (n : Nat) (x' y' z' : V), ixN 3 i = some n → [x, y, z].set n v = [x', y', z'] → (∀ u ∈ [x', y', z'], u = v ∨ u ∈ [x, y, z]) → rSetL (.ref sp) (.int i) v H N := fun n x' y' z' e1 e2 e3 =>
    w_setL h.1 e1 fun H2 s2 g2 => k H2 x' y' z' s2 ⟨by rw [g2, e2], fun u hu => by
      rcases e3 u hu with rfl | hu'
      · exact ⟨hv.sx (fun a e => (hn a e).2) s2, hn, fun e => by rw [h0] at e; cases e⟩
      · exact ⟨(h.2 u hu').1.sx (fun a e => ((h.2 u hu').2.1 a e).2) s2, (h.2 u hu').2⟩⟩
  have hi : i = 0 ∨ i = 1 ∨ i = 2 := by omega
  rcases hi with rfl | rfl | rfl
  · exact go 0 v y z rfl rfl (fun u hu => by simp only [List.mem_cons, List.not_mem_nil, or_false] at hu ⊢; rcases hu with h | h | h <;> simp [h])
  · exact go 1 x v z rfl rfl (fun u hu => by simp only [List.mem_cons, List.not_mem_nil, or_false] at hu ⊢; rcases hu with h | h | h <;> simp [h])
  · exact go 2 x y v rfl rfl (fun u hu => by simp only [List.mem_cons, List.not_mem_nil, or_false] at hu ⊢; rcases hu with h | h | h <;> simp [h])
abbrev s_law : Stmt := top 24
theorem sc_law : FnScope ["script", "state", "parts", "factor", "spoilt", "value", "told", "number", "other", "farther", "aside", "flag", "whole", "due", "k", "part"] ["script"] (defScope s_law) := ⟨rfl, rfl, rfl, by decide +kernel, rfl, by decide +kernel, by decide +kernel⟩

def sp_law (Z : Zs) : Sp := fun vs H Q E =>
  ∃ (a : Addr) (ns : List Int), vs = [.ref a] ∧ SqL Z.K H a (ns.map V.int) ∧ ∀ H', Q (.bl true) H'
theorem ok_law (T : Txt Z mg) (h__law_is_root : Has P w Z.K mg base "_law_is_root" 3 ["thing", "number"] (sp__law_is_root Z)) (h__law_draw : Has P w Z.K mg base "_law_draw" 2 ["state", "many"] (sp__law_draw Z)) (h__law_between : Has P w Z.K mg base "_law_between" 3 ["state", "least", "most"] (sp__law_between Z)) (h_Root : HasC P w Z.K mg base "Root" Z.c_Root 3 ["self", "top", "root", "bottom"] (sp_Root_init Z)) (h__law_same_thing : Has P w Z.K mg base "_law_same_thing" 1 ["one", "other"] (sp__law_same_thing Z)) (h__law_asked : Has P w Z.K mg base "_law_asked" 5 ["top", "root", "bottom"] (sp__law_asked Z)) (h__law_bad : Has P w Z.K mg base "_law_bad" 3 ["state"] (sp__law_bad Z)) (h__law_start : Has P w Z.K mg base "_law_start" 1 ["script"] (sp__law_start Z)) (h_Root_eq : HasM P w Z.K mg base Z.c_Root "__eq__" 2 ["self", "other"] (sp_Root_eq Z)) (h_Root_neg : HasM P w Z.K mg base Z.c_Root "__neg__" 5 ["self"] (sp_Root_neg Z)) (h_Root_turned : HasM P w Z.K mg base Z.c_Root "turned" 5 ["self"] (sp_Root_turned Z)) {f : Addr} {fd : FuncData} (D : Fun Z.K "law" "law" s_law f fd) : FnOk P w Z.K mg base (L2.CX P w) 6 f fd ["script"] (sp_law Z) := by
  refine D.okX sc_law (fun vs H Q E h => ?_) (fun cdv A outer s H vs Q E hr h => ?_)
  · obtain ⟨a, ns, rfl, _⟩ := h
    rfl
  · refine ⟨_, (pss_cons (ps_set (i := 1) sc_law.nd rfl (Or.inr rfl) (pe_h (E := ED E) h__law_start hr (paW (takes_of rfl rfl rfl rfl)) (pa_cons (pv 0) pa_nil)))
      (pss_cons (ps_setLc (i := 2) (own := [("k", 14)]) (g := gName 14) rfl sc_law.nd rfl rfl (sw_true rfl rfl rfl (by decide +kernel)) (pi_range1 rfl T.n_range (pa_cons pe_int pa_nil)) (blkOk_by (N := ["script", "state", "parts", "factor", "spoilt", "value", "told", "number", "other", "farther", "aside", "flag", "whole", "due", "k", "part"]) (sc := defScope s_law) (by decide +kernel)) (fun _ _ _ _ _ => pg_name (i := 14) sc_law.nd rfl (Or.inl rfl)) (fun _ _ _ _ _ => pts_nil) (fun _ _ _ _ _ => (pe_h (E := fun _ => E0) h__law_between hr pa0 (pa_cons (pv 1) (pa_cons (pe_un un_neg pe_int) (pa_cons pe_int pa_nil))))))
      (C8.pss_cut (ps_if (pt_cmpR op_eq (pe_h (E := ED E) h__law_draw hr (paW (takes_of rfl rfl rfl rfl)) (pa_cons (pv 1) (pa_cons pe_int pa_nil))) pe_int (nomark _)) (pss_one (ps_setLc (i := 2) (own := [("k", 14)]) (g := gName 14) rfl sc_law.nd rfl rfl (sw_true rfl rfl rfl (by decide +kernel)) (pi_range1 rfl T.n_range (pa_cons pe_int pa_nil)) (blkOk_by (N := ["script", "state", "parts", "factor", "spoilt", "value", "told", "number", "other", "farther", "aside", "flag", "whole", "due", "k", "part"]) (sc := defScope s_law) (by decide +kernel)) (fun _ _ _ _ _ => pg_name (i := 14) sc_law.nd rfl (Or.inl rfl)) (fun _ _ _ _ _ => pts_nil) (fun _ _ _ _ _ => (pe_h (E := fun _ => E0) h__law_between hr pa0 (pa_cons (pv 1) (pa_cons (pe_un un_neg (pe_op op_pow pe_int pe_int)) (pa_cons (pe_op op_pow pe_int pe_int) pa_nil))))))) pss_nil)
      (C8.pss_cut (ps_if (pt_cmpR op_eq (pe_h (E := ED E) h__law_draw hr (paW (takes_of rfl rfl rfl rfl)) (pa_cons (pv 1) (pa_cons pe_int pa_nil))) pe_int (nomark _)) (pss_cons (ps_set (i := 3) sc_law.nd rfl (Or.inr rfl) (pe_op op_add pe_int (pe_h (E := ED E) h__law_draw hr (paW (takes_of rfl rfl rfl rfl)) (pa_cons (pv 1) (pa_cons pe_int pa_nil)))))
      (pss_one (ps_setLc (i := 2) (own := [("part", 15)]) (g := gName 15) rfl sc_law.nd rfl rfl (sw_true rfl rfl rfl (by decide +kernel)) (pi_list (pv 2)) (blkOk_by (N := ["script", "state", "parts", "factor", "spoilt", "value", "told", "number", "other", "farther", "aside", "flag", "whole", "due", "k", "part"]) (sc := defScope s_law) (by decide +kernel)) (fun _ _ _ _ _ => pg_name (i := 15) sc_law.nd rfl (Or.inl rfl)) (fun _ _ _ _ _ => pts_nil) (fun _ _ _ _ _ => (pe_op op_mulS (pv 15) (pv 3)))))) pss_nil)
      (C8.pss_cut (ps_if (pt_cmpR op_eq (pe_h (E := ED E) h__law_draw hr (paW (takes_of rfl rfl rfl rfl)) (pa_cons (pv 1) (pa_cons pe_int pa_nil))) pe_int (nomark _)) (pss_one (ps_asg pe_int (pg_sub (pv 2) pe_int set_list))) pss_nil)
      (pss_cons (ps_set (i := 4) sc_law.nd rfl (Or.inl rfl) (pe_callTy cn_list rfl T.n_list (by decide +kernel) (pa_cons (pv 2) pa_nil)))
      (C8.pss_cut (ps_if (pt_cmpR op_eq (pe_h (E := ED E) h__law_draw hr (paW (takes_of rfl rfl rfl rfl)) (pa_cons (pv 1) (pa_cons pe_int pa_nil))) pe_int (nomark _)) (pss_cons (ps_asg (pe_h (E := ED E) h__law_bad hr (paW (takes_of rfl rfl rfl rfl)) (pa_cons (pv 1) pa_nil)) (pg_sub (pv 4) (pe_h (E := ED E) h__law_draw hr (paW (takes_of rfl rfl rfl rfl)) (pa_cons (pv 1) (pa_cons pe_int pa_nil))) set_list))
      (pss_one (ps_if (pt_cmpR op_eq (pe_h (E := ED E) h__law_draw hr (paW (takes_of rfl rfl rfl rfl)) (pa_cons (pv 1) (pa_cons pe_int pa_nil))) pe_int (nomark _)) (pss_one (ps_asg (pe_h (E := ED E) h__law_bad hr (paW (takes_of rfl rfl rfl rfl)) (pa_cons (pv 1) pa_nil)) (pg_sub (pv 4) (pe_h (E := ED E) h__law_draw hr (paW (takes_of rfl rfl rfl rfl)) (pa_cons (pv 1) (pa_cons pe_int pa_nil))) set_list))) pss_nil))) pss_nil)
      (pss_cons (ps_for (passes_of rfl) rfl (pi_list (pv 4)) (pg_name (i := 5) sc_law.nd rfl (Or.inl rfl)) (pss_one (ps_if (PW.pt (pw_or (pt_val (pe_callB call_isi rfl T.n_isinstance (by decide +kernel) (pa_cons (pv 5) (pa_cons (pe_bltn (v := .ty "bool") rfl T.n_bool (by decide +kernel) rfl) pa_nil)))) (pw_or1 (pt_not (pt_val (pe_callB call_isi rfl T.n_isinstance (by decide +kernel) (pa_cons (pv 5) (pa_cons (pe_bltn (v := .ty "int") rfl T.n_int (by decide +kernel) rfl) pa_nil)))))))) (pss_cons (ps_set (i := 6) sc_law.nd rfl (Or.inl rfl) (pe_h (E := ED E) h__law_asked hr (paW (takes_of rfl rfl rfl rfl)) (pa_cons (pe_ix ix_seq (pv 4) pe_int (fun _ _ => rfl)) (pa_cons (pe_ix ix_seq (pv 4) pe_int (fun _ _ => rfl)) (pa_cons (pe_ix ix_seq (pv 4) pe_int (fun _ _ => rfl)) pa_nil)))))
      (pss_one (ps_ret (pe_and (pe_cmpR op_eq (pe_ix ix_seq (pv 6) pe_int (fun _ _ => rfl)) pe_str (nomark _)) (pe_one (pe_h (E := ED E) h__law_same_thing hr (paW (takes_of rfl rfl rfl rfl)) (pa_cons (pe_ix ix_seq (pv 6) pe_int (fun _ _ => rfl)) (pa_cons (pv 5) pa_nil)))))))) pss_nil)))
      (pss_cons (ps_if (pt_cmpR op_eq (pe_ix ix_seq (pv 2) pe_int (fun _ _ => rfl)) pe_int (nomark _)) (pss_cons (ps_set (i := 6) sc_law.nd rfl (Or.inl rfl) (pe_h (E := ED E) h__law_asked hr (paW (takes_of rfl rfl rfl rfl)) (pa_cons (pe_ix ix_seq (pv 2) pe_int (fun _ _ => rfl)) (pa_cons (pe_ix ix_seq (pv 2) pe_int (fun _ _ => rfl)) (pa_cons (pe_ix ix_seq (pv 2) pe_int (fun _ _ => rfl)) pa_nil)))))
      (pss_one (ps_ret (pe_and (pe_cmpR op_eq (pe_ix ix_seq (pv 6) pe_int (fun _ _ => rfl)) pe_str (nomark _)) (pe_and (pe_h (E := ED E) h__law_same_thing hr (paW (takes_of rfl rfl rfl rfl)) (pa_cons (pe_ix ix_seq (pv 6) pe_int (fun _ _ => rfl)) (pa_cons pe_int pa_nil))) (pe_one (pe_not (pe_callB call_isi rfl T.n_isinstance (by decide +kernel) (pa_cons (pe_ix ix_seq (pv 6) pe_int (fun _ _ => rfl)) (pa_cons (pe_bltn (v := .ty "bool") rfl T.n_bool (by decide +kernel) rfl) pa_nil)))))))))) pss_nil)
      (pss_cons (ps_set (i := 7) sc_law.nd rfl (Or.inl rfl) (pe_hc (E := ED E) h_Root hr (paW (takes_of rfl rfl rfl rfl)) (pa_cons (pe_ix ix_seq (pv 2) pe_int (fun _ _ => rfl)) (pa_cons (pe_ix ix_seq (pv 2) pe_int (fun _ _ => rfl)) (pa_cons (pe_ix ix_seq (pv 2) pe_int (fun _ _ => rfl)) pa_nil)))))
      (pss_cons (ps_if (pt_not (pt_val (pe_h (E := ED E) h__law_is_root hr (paW (takes_of rfl rfl rfl rfl)) (pa_cons (pv 7) (pa_cons (pv 2) pa_nil))))) (pss_one (ps_ret pe_bl)) pss_nil)
      (pss_cons (ps_set (i := 3) sc_law.nd rfl (Or.inr rfl) (pe_h (E := ED E) h__law_between hr (paW (takes_of rfl rfl rfl rfl)) (pa_cons (pv 1) (pa_cons pe_int (pa_cons pe_int pa_nil)))))
      (pss_cons (ps_set (i := 8) sc_law.nd rfl (Or.inl rfl) (pe_hc (E := ED E) h_Root hr (paW (takes_of rfl rfl rfl rfl)) (pa_cons (pe_op op_mulS (pe_un un_neg (pe_ix ix_seq (pv 2) pe_int (fun _ _ => rfl))) (pv 3)) (pa_cons (pe_op op_mulS (pe_un un_neg (pe_ix ix_seq (pv 2) pe_int (fun _ _ => rfl))) (pv 3)) (pa_cons (pe_op op_mulS (pe_un un_neg (pe_ix ix_seq (pv 2) pe_int (fun _ _ => rfl))) (pv 3)) pa_nil)))))
      (pss_cons (ps_if (PW.pt (pw_or (pt_not (pt_cmpR (op_eqC h_Root_eq hr passL) (pv 7) (pv 8) (nomark _))) (pw_or1 (pt_not (pt_val (pe_h (E := ED E) h__law_is_root hr (paW (takes_of rfl rfl rfl rfl)) (pa_cons (pv 8) (pa_cons (pv 2) pa_nil)))))))) (pss_one (ps_ret pe_bl)) pss_nil)
      (pss_cons (ps_set (i := 9) sc_law.nd rfl (Or.inl rfl) (pe_hc (E := ED E) h_Root hr (paW (takes_of rfl rfl rfl rfl)) (pa_cons (pe_op op_add (pe_ix ix_seq (pv 2) pe_int (fun _ _ => rfl)) (pe_ix ix_seq (pv 2) pe_int (fun _ _ => rfl))) (pa_cons (pe_ix ix_seq (pv 2) pe_int (fun _ _ => rfl)) (pa_cons (pe_ix ix_seq (pv 2) pe_int (fun _ _ => rfl)) pa_nil)))))
      (pss_cons (ps_set (i := 10) sc_law.nd rfl (Or.inl rfl) (pe_hc (E := ED E) h_Root hr (paW (takes_of rfl rfl rfl rfl)) (pa_cons (pe_ix ix_seq (pv 2) pe_int (fun _ _ => rfl)) (pa_cons (pe_op op_add (pe_ix ix_seq (pv 2) pe_int (fun _ _ => rfl)) pe_int) (pa_cons (pe_ix ix_seq (pv 2) pe_int (fun _ _ => rfl)) pa_nil)))))
      (pss_cons (ps_if (PW.pt (pw_or (pt_cmpR (op_eqC h_Root_eq hr passL) (pv 7) (pv 9) (nomark _)) (pw_or (pt_cmpR (op_eqC h_Root_eq hr passL) (pv 7) (pv 10) (nomark _)) (pw_or (pt_cmpR (op_eqC h_Root_eq hr passL) (pv 7) pe_str (nomark _)) (pw_or (pt_cmpR (op_eqC h_Root_eq hr passL) (pv 7) pe_non (nomark _)) (pw_or1 (pt_cmpR (op_eqC h_Root_eq hr passL) (pv 7) (pe_tup (pa_cons pe_int (pa_cons pe_int (pa_cons pe_int pa_nil)))) (nomark _)))))))) (pss_one (ps_ret pe_bl)) pss_nil)
      (pss_cons (ps_for (passes_of rfl) rfl (pi_list (pe_lst (pa_cons pe_bl (pa_cons pe_bl pa_nil)))) (pg_name (i := 11) sc_law.nd rfl (Or.inl rfl)) (pss_one (ps_if (PW.pt (pw_or (pt_cmpR (op_eqC h_Root_eq hr passL) (pv 7) (pv 11) (nomark _)) (pw_or (pt_cmpR (op_eqR h_Root_eq hr passL) (pv 11) (pe_hc (E := ED E) h_Root hr (paW (takes_of rfl rfl rfl rfl)) (pa_cons (pe_callTy cn_int rfl T.n_int (by decide +kernel) (pa_cons (pv 11) pa_nil)) (pa_cons pe_int (pa_cons pe_int pa_nil)))) (nomark _)) (pw_or1 (pt_cmpR (op_eqC h_Root_eq hr passL) (pe_hc (E := ED E) h_Root hr (paW (takes_of rfl rfl rfl rfl)) (pa_cons (pe_callTy cn_int rfl T.n_int (by decide +kernel) (pa_cons (pv 11) pa_nil)) (pa_cons pe_int (pa_cons pe_int pa_nil)))) (pv 11) (nomark _)))))) (pss_one (ps_ret pe_bl)) pss_nil)))
      (pss_cons (ps_set (i := 12) sc_law.nd rfl (Or.inl rfl) (pe_h (E := ED E) h__law_between hr (paW (takes_of rfl rfl rfl rfl)) (pa_cons (pv 1) (pa_cons (pe_un un_neg pe_int) (pa_cons pe_int pa_nil)))))
      (C8.pss_cut (ps_if (PW.pt (pw_and (pt_cmpR op_eq (pe_op op_modN (pe_callTy cn_int rfl T.n_int (by decide +kernel) (pa_cons (pe_ix ix_seq (pv 2) pe_int (fun _ _ => rfl)) pa_nil)) (pe_ix ix_seq (pv 2) pe_int (fun _ _ => rfl))) pe_int (nomark _)) (pw_and1 (pt_cmpR op_eq (pe_h (E := ED E) h__law_draw hr (paW (takes_of rfl rfl rfl rfl)) (pa_cons (pv 1) (pa_cons pe_int pa_nil))) pe_int (nomark _))))) (pss_one (ps_set (i := 12) sc_law.nd rfl (Or.inl rfl) (pe_op op_fdivV (pe_ix ix_seq (pv 2) pe_int (fun _ _ => rfl)) (pe_ix ix_seq (pv 2) pe_int (fun _ _ => rfl))))) pss_nil)
      (C8.pss_cut (ps_set (i := 13) sc_law.nd rfl (Or.inl rfl) (pe_and (pe_cmpR op_eq (pe_ix ix_seq (pv 2) pe_int (fun _ _ => rfl)) pe_int (nomark _)) (pe_one (pe_cmpR op_eq (pe_ix ix_seq (pv 2) pe_int (fun _ _ => rfl)) (pe_op op_mulS (pv 12) (pe_ix ix_seq (pv 2) pe_int (fun _ _ => rfl))) (nomark _)))))
      (pss_cons (ps_if (PW.pt (pw_or (pt_cmpR op_ne (pe_cmpR (op_eqC h_Root_eq hr passL) (pv 7) (pv 12) (nomark _)) (pv 13) (nomark _)) (pw_or1 (pt_cmpR op_ne (pe_cmpR (op_eqR h_Root_eq hr passL) (pv 12) (pv 7) (nomark _)) (pv 13) (nomark _))))) (pss_one (ps_ret pe_bl)) pss_nil)
      (pss_cons (ps_if (pt_not (pt_val (pe_h (E := ED E) h__law_is_root hr (paW (takes_of rfl rfl rfl rfl)) (pa_cons (pe_hm0 (E := ED E) h_Root_turned T.c_Root hr (paW (takes_of rfl rfl rfl rfl)) (pv 7)) (pa_cons (pe_tup (pa_cons (pe_ix ix_seq (pv 2) pe_int (fun _ _ => rfl)) (pa_cons (pe_un un_neg (pe_ix ix_seq (pv 2) pe_int (fun _ _ => rfl))) (pa_cons (pe_ix ix_seq (pv 2) pe_int (fun _ _ => rfl)) pa_nil)))) pa_nil))))) (pss_one (ps_ret pe_bl)) pss_nil)
      (pss_cons (ps_if (pt_not (pt_val (pe_h (E := ED E) h__law_is_root hr (paW (takes_of rfl rfl rfl rfl)) (pa_cons (pe_un (un_own h_Root_neg hr passL) (pv 7)) (pa_cons (pe_tup (pa_cons (pe_un un_neg (pe_ix ix_seq (pv 2) pe_int (fun _ _ => rfl))) (pa_cons (pe_un un_neg (pe_ix ix_seq (pv 2) pe_int (fun _ _ => rfl))) (pa_cons (pe_ix ix_seq (pv 2) pe_int (fun _ _ => rfl)) pa_nil)))) pa_nil))))) (pss_one (ps_ret pe_bl)) pss_nil)
      (pss_one (ps_ret (pe_h (E := ED E) h__law_is_root hr (paW (takes_of rfl rfl rfl rfl)) (pa_cons (pv 7) (pa_cons (pv 2) pa_nil))))))))))))))))))))))))))))), ?_⟩
    try simp only [cxOf]
    obtain ⟨a, ns, rfl, hs, q⟩ := h
    have e20 : (10 : Int) ^ Int.toNat 20 = 100000000000000000000 := by decide
    walk_at "W"
    refine ⟨a, ns, rfl, hs, fun st sc H1 hst s1 hst1 => ?_⟩
    walk_at "W"
    refine k_lcDraw (st := st) (sc := sc) (P := fun z => z.natAbs ≤ 10 ^ 20) (by decide) (by decide) hst1 (fun _ => rfl) (fun z H' hs' _ N k => ?_) (fun pl H2 ms e1 e2 e3 e4 hst2 s2 => ?_)
    · walk_at "W"
      exact k_between hs' (by decide) (by decide) fun n H2 h0 h1 s2 st2 => k n H2 (by omega) s2 st2
    obtain ⟨t0, r0, b0, rfl⟩ := len3 e2
    have l2 : L3 H2 st sc pl (10 ^ 20) t0 r0 b0 := ⟨e1, e4, e3 t0 (by simp), e3 r0 (by simp), e3 b0 (by simp)⟩
    -- if _law_draw(state, 2) == 0: parts = [..]
    refine w_cut (fun σ' H' => ∃ (pl : Addr) (t r b : Int), σ' = [some (.ref a), some (.ref st), some (.ref pl), none, none, none, none, none, none, none, none, none, none, none, none, none] ∧ L3 H' st sc pl (10 ^ 20) t r b ∧ StA H' st sc) ?_ ?_
    · walk_at "W"
      refine k_draw hst2 (by decide) rfl fun n H3 h0 h1 s3 st3 => ?_
      walk_at "W"
      refine w_ite (fun _ => ?_) (fun _ => ?_)
      · walk_at "W"
        refine k_lcDraw (st := st) (sc := sc) (P := fun z => z.natAbs ≤ 10 ^ 20) (by decide) (by decide) st3 (fun _ => rfl) (fun z H' hs' _ N k => ?_) (fun pl' H4 ms e1 e2 e3 e4 hst4 s4 => ?_)
        · walk_at "W"
          exact k_between hs' (by decide) (by decide) fun n H2 h0 h1 s2 st2 => k n H2 (by rw [e20] at h0 h1; omega) s2 st2
        · obtain ⟨t1, r1, b1, rfl⟩ := len3 e2
          walk_at "W"
          exact ⟨pl', t1, r1, b1, rfl, ⟨e1, e4, e3 t1 (by simp), e3 r1 (by simp), e3 b1 (by simp)⟩, hst4⟩
      · walk_at "W"
        exact ⟨pl, t0, r0, b0, rfl, l2.sx s3, st3⟩
    clear l2 e1 e2 e3 e4 hst2 s2 hst1 s1 hst
    rintro σ3 H3 ⟨pl, t, r, b, rfl, l3, st3⟩
    refine w_cut (fun σ' H' => ∃ (pl : Addr) (v3 : Option V) (t r b : Int), σ' = [some (.ref a), some (.ref st), some (.ref pl), v3, none, none, none, none, none, none, none, none, none, none, none, none] ∧ L3 H' st sc pl (10 ^ 23) t r b ∧ StA H' st sc) ?_ ?_
    · walk_at "W"
      refine k_draw st3 (by decide) rfl fun n H4 h0 h1 s4 st4 => ?_
      walk_at "W"
      refine w_ite (fun _ => ?_) (fun _ => ?_)
      · walk_at "W"
        refine k_draw st4 (by decide) rfl fun n H5 h0 h1 s5 st5 => ?_
        have l5 := (l3.sx s4).sx s5
        walk_at "W"
        refine k_lcInts (f := fun x => x * (1 + n)) (ns := [t, r, b]) (SqL.of l5.1) (by simp) (fun _ => rfl) (fun H' s => SqL.of (s _ _ l5.1)) (fun z H' hz s N k => ?_) (fun pl' H6 hpl s6 e6 => ?_)
        · walk_at "W"
          exact k
        · walk_at "W"
          have bd : ∀ x : Int, x.natAbs ≤ 10 ^ 20 → (x * (1 + n)).natAbs ≤ 10 ^ 23 := fun x hx => by
            rw [Int.natAbs_mul]
            exact Nat.le_trans (Nat.mul_le_mul hx (show (1 + n).natAbs ≤ 1000 by omega)) (by decide)
          exact ⟨pl', _, t * (1 + n), r * (1 + n), b * (1 + n), rfl, ⟨e6, st5.new hpl, bd _ l5.2.2.1, bd _ l5.2.2.2.1, bd _ l5.2.2.2.2⟩, st5.same s6⟩
      · walk_at "W"
        have l4 := l3.sx s4
        exact ⟨pl, none, t, r, b, rfl, ⟨l4.1, l4.2.1, Nat.le_trans l4.2.2.1 (by decide), Nat.le_trans l4.2.2.2.1 (by decide), Nat.le_trans l4.2.2.2.2 (by decide)⟩, st4⟩
    clear l3 st3
    rintro σ4 H4 ⟨pl, v3, t, r, b, rfl, l4, st4⟩
    refine w_cut (fun σ' H' => ∃ (b : Int), σ' = [some (.ref a), some (.ref st), some (.ref pl), v3, none, none, none, none, none, none, none, none, none, none, none, none] ∧ L3 H' st sc pl (10 ^ 23) t r b ∧ StA H' st sc) ?_ ?_
    · walk_at "W"
      refine k_draw st4 (by decide) rfl fun n H5 h0 h1 s5 st5 => ?_
      walk_at "W"
      have l5 := l4.sx s5
      refine w_ite (fun _ => ?_) (fun _ => ?_)
      · walk_at "W"
        refine w_setL l5.1 rfl fun H6 s6 e6 => ?_
        walk_at "W"
        exact ⟨0, rfl, ⟨e6, l5.2.1, l5.2.2.1, l5.2.2.2.1, by decide⟩, st5.otherX l5.2.1 s6⟩
      · walk_at "W"
        exact ⟨b, rfl, l5, st5⟩
    clear l4 st4
    rintro σ5 H5 ⟨b, rfl, l5, st5⟩
    walk_at "W"
    refine w_listL (SqL.of l5.1) fun sp H6 hsp s6 e6 => ?_
    have l6 : L3 H6 st sc pl (10 ^ 23) t r b := ⟨s6 _ _ l5.1, l5.2⟩
    have st6 := st5.same s6
    have nsp := st5.new hsp
    have nspl : sp ≠ pl := fun z => by rw [z, l5.1] at hsp; cases hsp
    walk_at "W"
    have hbd : ∀ n : Int, n.natAbs ≤ 10 ^ 23 → Bd n := fun n h => bd_of h (by decide)
    refine w_cut (fun σ' H' => ∃ (x y z : V), σ' = [some (.ref a), some (.ref st), some (.ref pl), v3, some (.ref sp), none, none, none, none, none, none, none, none, none, none, none] ∧ L3 H' st sc pl (10 ^ 23) t r b ∧ StA H' st sc ∧ SpO Z.c_Root st sp H' x y z) ?_ ?_
    · have h6 : SpO Z.c_Root st sp H6 (.int t) (.int r) (.int b) := by
        refine ⟨e6, fun v hv => ?_⟩
        simp only [List.mem_cons, List.not_mem_nil, or_false] at hv
        rcases hv with rfl | rfl | rfl
        · exact ⟨.int _, fun _ e => (by cases e), fun _ => ⟨_, rfl, hbd _ l6.2.2.1⟩⟩
        · exact ⟨.int _, fun _ e => (by cases e), fun _ => ⟨_, rfl, hbd _ l6.2.2.2.1⟩⟩
        · exact ⟨.int _, fun _ e => (by cases e), fun _ => ⟨_, rfl, hbd _ l6.2.2.2.2⟩⟩
      walk_at "W"
      refine k_draw st6 (by decide) rfl fun n H7 h0 h1 s7 st7 => ?_
      have h7 := h6.sx nsp.1 s7
      have l7 := l6.sx s7
      walk_at "W"
      refine w_ite (fun _ => ?_) (fun _ => ?_)
      · walk_at "W"
        refine ⟨st, sc, rfl, st7, fun v H8 vi vo vf s8 st8 => ?_⟩
        have h8 := h7.sx nsp.1 s8
        have l8 := l7.sx s8
        have nv : ∀ a, v = .ref a → a ≠ st ∧ a ≠ sp := fun a e => ⟨(st7.new (vf a e)).1, fun z => by have e7 := h7.1; rw [← z, vf a e] at e7; cases e7⟩
        walk_at "W"
        refine k_draw st8 (by decide) rfl fun n H9 h0 h1 s9 st9 => ?_
        have h9 := h8.sx nsp.1 s9
        have l9 := l8.sx s9
        refine h9.put (vo.sx (fun a e => (nv a e).1) s9) nv vi h0 h1 fun H10 x y z s10 h10 => ?_
        have l10 : L3 H10 st sc pl (10 ^ 23) t r b := ⟨s10 _ _ (Ne.symm nspl) l9.1, l9.2⟩
        have st10 := st9.otherX nsp s10
        walk_at "W"
        refine k_draw st10 (by decide) rfl fun n H11 h0 h1 s11 st11 => ?_
        have h11 := h10.sx nsp.1 s11
        have l11 := l10.sx s11
        walk_at "W"
        refine w_ite (fun _ => ?_) (fun _ => ?_)
        · walk_at "W"
          refine ⟨st, sc, rfl, st11, fun v H12 vi vo vf s12 st12 => ?_⟩
          have h12 := h11.sx nsp.1 s12
          have l12 := l11.sx s12
          have nv : ∀ a, v = .ref a → a ≠ st ∧ a ≠ sp := fun a e => ⟨(st11.new (vf a e)).1, fun z => by have e7 := h11.1; rw [← z, vf a e] at e7; cases e7⟩
          walk_at "W"
          refine k_draw st12 (by decide) rfl fun n H13 h0 h1 s13 st13 => ?_
          have h13 := h12.sx nsp.1 s13
          have l13 := l12.sx s13
          refine h13.put (vo.sx (fun a e => (nv a e).1) s13) nv vi h0 h1 fun H14 x y z s14 h14 => ?_
          walk_at "W"
          exact ⟨x, y, z, rfl, ⟨s14 _ _ (Ne.symm nspl) l13.1, l13.2⟩, st13.otherX nsp s14, h14⟩
        · walk_at "W"
          exact ⟨x, y, z, rfl, l11, st11, h11⟩
      · walk_at "W"
        exact ⟨_, _, _, rfl, l7, st7, h7⟩
    clear l6 st6 e6
    rintro σ7 H7 ⟨x, y, z, rfl, l7, st7, h7⟩
    walk_at "W"
    -- the loop over the three things
    refine k_forL (xs := [x, y, z]) (fun i σ' H' => H' = H7 ∧ (∃ v5, σ' = [some (.ref a), some (.ref st), some (.ref pl), v3, some (.ref sp), v5, none, none, none, none, none, none, none, none, none, none]) ∧ ∀ j u, j < i → [x, y, z][j]? = some u → isI u = true) (SqL.of h7.1) ⟨rfl, ⟨_, rfl⟩, fun j u hj => absurd hj (Nat.not_lt_zero _)⟩ (fun i σ' H' h => by rw [h.1]; exact SqL.of h7.1) ?_ ?_
    · rintro i u σ' H' hu ⟨rfl, ⟨v5, rfl⟩, hi⟩
      have hm : u ∈ [x, y, z] := List.mem_of_getElem? hu
      obtain ⟨ho, hn, hz⟩ := h7.2 u hm
      obtain ⟨ty, hty, k1, k2, _⟩ := ho.th.ty T.ki
      have e7 := h7.1
      have bad : isI u = false → badOf x y z = some u := fun e => by
        rcases i with _ | _ | _ | i
        · cases hu; unfold badOf; rw [if_pos e]
        · cases hu; unfold badOf; rw [if_neg (by rw [hi 0 x (by simp) rfl]; simp), if_pos e]
        · cases hu; unfold badOf; rw [if_neg (by rw [hi 0 x (by simp) rfl]; simp), if_neg (by rw [hi 1 y (by simp) rfl]; simp), if_pos e]
        · simp at hu
      have thx := (h7.2 x (by simp)).1.th
      have thy := (h7.2 y (by simp)).1.th
      have thz := (h7.2 z (by simp)).1.th
      have bz : ∀ k, z = .int k → Bd k := fun k e => by
        obtain ⟨m, e2, hm2⟩ := (h7.2 z (by simp)).2.2 (by rw [e]; rfl)
        rw [e] at e2
        injection e2 with e2
        rw [e2]; exact hm2
      cases hI : isI u
      · rw [hI] at k1
        rcases ho.eq hI with ⟨b', rfl⟩ | ⟨hB, hself⟩
        · walk_at "W"
          refine w_isi hty k2 ?_
          walk_at "W"
          refine ⟨x, y, z, rfl, thx, thy, thz, _, bad rfl, bz, fun w H8 s8 e8 => ?_⟩
          walk_at "W"
          exact ⟨_, rfl, .bl _, .inl ⟨_, rfl⟩, q H8⟩
        · rw [hB] at k1 k2
          walk_at "W"
          refine w_isi hty k2 ?_
          walk_at "W"
          refine w_isi hty k1 ?_
          walk_at "W"
          refine ⟨x, y, z, rfl, thx, thy, thz, u, bad hI, bz, fun w H8 s8 e8 => ?_⟩
          walk_at "W"
          have ho8 := ho.sx (p := st) (fun a e => (hn a e).1) (Same.x s8)
          exact ⟨u, rfl, ho8.th, ho8.eq hI, q H8⟩
      · have hB : isB u = false := by cases u <;> simp_all [isI, isB]
        rw [hI, hB] at k1
        rw [hB] at k2
        walk_at "W"
        refine w_isi hty k2 ?_
        walk_at "W"
        refine w_isi hty k1 ?_
        walk_at "W"
        refine ⟨rfl, ⟨_, rfl⟩, fun j v hj hv => ?_⟩
        rcases Nat.lt_or_eq_of_le (Nat.lt_succ_iff.mp hj) with h | h
        · exact hi j v h hv
        · subst h; rw [hu] at hv; cases hv; exact hI
    rintro σ8 H8 ⟨rfl, ⟨v5, rfl⟩, _⟩
    clear h7
    have p7 := l7.1
    walk_at "W"
    refine w_ite (fun hb => ?_) (fun hb => ?_)
    · obtain rfl : b = 0 := by injection hb
      walk_at "W"
      refine ⟨_, _, _, rfl, .int t, .int r, .int 0, .int 0, rfl, fun k e => by injection e with e; rw [← e]; exact hbd 0 (by decide), fun w H9 s9 e9 => ?_⟩
      walk_at "W"
      refine ⟨.int 0, rfl, .int 0, .inr ⟨rfl, .int 0⟩, ?_⟩
      walk_at "W"
      obtain ⟨ty, hty, _, k2, _⟩ := (Th.int (c := Z.c_Root) (H := H9) 0).ty T.ki
      refine w_isi hty k2 ?_
      walk_at "W"
      exact q H9
    have hb0 : b ≠ 0 := fun z => hb (by rw [z])
    have hbB : Bd b := hbd b l7.2.2.2.2
    have L := low_is (t := t) (r := r) hb0
    walk_at "W"
    refine k_mkRootI hb0 hbB fun nu H9 s9 r9 => ?_
    have p9 := s9 _ _ p7
    have st9 := st7.same s9
    have mle : ∀ f : Int, 1 ≤ f → f ≤ 50 → ∀ x : Int, x.natAbs ≤ 10 ^ 23 → (-x * f).natAbs ≤ 10 ^ 25 := fun f f0 f1 x hx => by
      rw [Int.natAbs_mul, Int.natAbs_neg]
      exact Nat.le_trans (Nat.mul_le_mul hx (show f.natAbs ≤ 50 by omega)) (by decide)
    walk_at "W"
    refine ⟨nu, pl, t, r, b, _, _, _, rfl, r9, .inl p9, hb0, hbB, rfl, rfl, rfl, fun H10 s10 => ?_⟩
    have st10 := st9.same s10
    walk_at "W"
    refine k_between st10 (by decide) (by decide) fun f H11 f0 f1 s11 st11 => ?_
    have p11 := s11 _ _ l7.2.1.1 (s10 _ _ p9)
    have r11 := (r9.same s10).sx st10 s11
    clear p9 p7 s9 s10 s11 st9 st10
    walk_at "W"
    have Lo : Low (-t * f) (-r * f) (-b * f) (lowT t r b) (lowR t r b) (lowB t r b) := by
      have := L.scale (f := -f) (by omega)
      rwa [Int.mul_neg, Int.mul_neg, Int.mul_neg, ← Int.neg_mul, ← Int.neg_mul, ← Int.neg_mul] at this
    have hbf : -b * f ≠ 0 := Int.mul_ne_zero (by omega) (by omega)
    obtain ⟨q1, q2, q3⟩ := Lo.eqs hbf
    refine k_mkRootI hbf (bd_of (mle f f0 f1 b l7.2.2.2.2) (by decide)) fun ot H12 s12 r12 => ?_
    rw [← q1, ← q2, ← q3] at r12
    have p12 := s12 _ _ p11
    have n12 := r11.same s12
    have st12 := st11.same s12
    clear p11 r11 s12 st11
    walk_at "W"
    refine k_eqC T n12 r12.th ?_
    rw [eqRt_root r12, decide_eq_true ⟨rfl, rfl, rfl⟩]
    walk_at "W"
    refine ⟨ot, pl, t, r, b, _, _, _, rfl, r12, .inl p12, hb0, hbB, rfl, rfl, rfl, fun H13 s13 => ?_⟩
    have p13 := s13 _ _ p12
    have n13 := n12.same s13
    have st13 := st12.same s13
    clear p12 n12 st12 r12 s13
    walk_at "W"
    have Lf := low_is (t := t + b) (r := r) hb0
    refine k_mkRootI hb0 hbB fun fa H14 s14 r14 => ?_
    have p14 := s14 _ _ p13
    have n14 := n13.same s14
    have st14 := st13.same s14
    clear p13 n13 st13 s14
    walk_at "W"
    have La := low_is (t := t) (r := r + 1) hb0
    refine k_mkRootI hb0 hbB fun as H15 s15 r15 => ?_
    have p15 := s15 _ _ p14
    have n15 := n14.same s15
    have st15 := st14.same s15
    have r14' := r14.same s15
    clear p14 n14 st14 s15 r14
    walk_at "W"
    refine k_eqC T n15 r14'.th ?_
    rw [eqRt_root r14', decide_eq_false (L.far Lf hb0)]
    walk_at "W"
    refine k_eqC T n15 r15.th ?_
    rw [eqRt_root r15, decide_eq_false (L.aside La)]
    walk_at "W"
    refine k_eqC T n15 (.str _) ?_
    walk_at "W"
    refine k_eqC T n15 .non ?_
    walk_at "W"
    refine k_tup rfl fun tu H16 htu s16 e16 => ?_
    have p16 := s16 _ _ p15
    have n16 := n15.same s16
    have st16 := st15.same s16
    clear p15 n15 st15 s16 r14' r15 La Lf
    refine k_eqC T n16 (.tup _ _ e16) ?_
    have et : eqRt H16 (lowT t r b) (lowR t r b) (lowB t r b) (.ref tu) = false := by unfold eqRt; simp only [e16]
    rw [et]
    walk_at "W"
    -- the flags
    refine k_lst rfl fun fl H17 hfl s17 e17 => ?_
    have p17 := s17 _ _ p16
    have n17 := n16.same s17
    have st17 := st16.same s17
    clear p16 n16 st16 s17 e16 et
    refine k_forL (xs := [.bl true, .bl false]) (fun i σ' H' => Same H17 H' ∧ ∃ v11, σ' = [some (.ref a), some (.ref st), some (.ref pl), some (.int f), some (.ref sp), v5, none, some nu, some ot, some fa, some as, v11, none, none, none, none]) (SqL.of e17) ⟨Same.refl _, _, rfl⟩ (fun i σ' H' h => SqL.of (h.1 _ _ e17)) ?_ ?_
    · rintro i u σ' H' hu ⟨s, v11, rfl⟩
      obtain ⟨c, rfl⟩ : ∃ c, u = V.bl c := by
        rcases i with _ | _ | i
        · cases hu; exact ⟨_, rfl⟩
        · cases hu; exact ⟨_, rfl⟩
        · simp at hu
      have nH := n17.same s
      walk_at "W"
      refine k_eqC T nH (.bl _) ?_
      walk_at "W"
      refine k_mkRootI (by decide) (by show (1 : Nat) < 2 ^ 8000; decide) fun w1 H18 s18 r18 => ?_
      refine k_eqR T r18 (.inr ⟨_, rfl⟩) ?_
      walk_at "W"
      refine k_mkRootI (by decide) (by show (1 : Nat) < 2 ^ 8000; decide) fun w2 H19 s19 r19 => ?_
      walk_at "W"
      refine k_eqC T r19 (.bl _) ?_
      walk_at "W"
      exact ⟨s.trans (s18.trans s19), _, rfl⟩
    rintro σ18 H18 ⟨s18, v11, rfl⟩
    have p18 := s18 _ _ p17
    have n18 := n17.same s18
    have st18 := st17.same s18
    clear p17 n17 st17 s18 e17
    walk_at "W"
    refine k_between st18 (by decide) (by decide) fun wh H19 w0 w1 s19 st19 => ?_
    have p19 := s19 _ _ l7.2.1.1 p18
    have n19 := n18.sx st18 s19
    clear p18 n18 st18 s19
    walk_at "W"
    refine w_cut (fun σ' H' => ∃ w : Int, Bd w ∧ σ' = [some (.ref a), some (.ref st), some (.ref pl), some (.int f), some (.ref sp), v5, none, some nu, some ot, some fa, some as, v11, some (.int w), none, none, none] ∧ H' pl = some (.lst [.int t, .int r, .int b]) ∧ RootAt Z.c_Root H' nu (lowT t r b) (lowR t r b) (lowB t r b) ∧ StA H' st sc) ?_ ?_
    · walk_at "W"
      have hw : Bd wh := bd_of (n := 9) (by omega) (by decide)
      refine w_ite (fun hz => ?_) (fun hz => ?_)
      · walk_at "W"
        refine k_draw st19 (by decide) rfl fun n H20 h0 h1 s20 st20 => ?_
        have p20 := s20 _ _ l7.2.1.1 p19
        have n20 := n19.sx st19 s20
        walk_at "W"
        refine w_ite (fun _ => ?_) (fun _ => ?_)
        · walk_at "W"
          refine w_I ⟨hb0, Nat.lt_of_lt_of_le (PySem.Flt.log2_lt_of (by decide) hbB) (by decide)⟩ ?_
          walk_at "W"
          have hf : t.fmod b = 0 := by injection hz
          exact ⟨t.fdiv b, bd_of (n := 10 ^ 23) (Nat.le_trans (fdiv_small hb0 hf) l7.2.2.1) (by decide), rfl, p20, n20, st20⟩
        · walk_at "W"
          exact ⟨wh, hw, rfl, p20, n20, st20⟩
      · walk_at "W"
        exact ⟨wh, hw, rfl, p19, n19, st19⟩
    clear p19 n19 st19 w0 w1
    rintro σ20 H20 ⟨w, hw, rfl, p20, n20, st20⟩
    refine w_cutE (σ' := [some (.ref a), some (.ref st), some (.ref pl), some (.int f), some (.ref sp), v5, none, some nu, some ot, some fa, some as, v11, some (.int w), some (.bl (decide (r = 0 ∧ t = w * b))), none, none]) (H' := H20) ?_ ?_
    · walk_at "W"
      refine w_ite (fun hr0 => ?_) (fun hr0 => ?_)
      · walk_at "W"
        refine w_I (bdm hw hbB) ?_
        walk_at "W"
        have : r = 0 := by injection hr0
        rw [decide_eq_decide.mpr (show V.int t = V.int (w * b) ↔ r = 0 ∧ t = w * b by simp [this])]
        exact ⟨rfl, rfl⟩
      · walk_at "W"
        have : ¬ (r = 0 ∧ t = w * b) := fun z => hr0 (by rw [z.1])
        rw [decide_eq_false this]
        exact ⟨rfl, rfl⟩
    have ew : eqRt H20 (lowT t r b) (lowR t r b) (lowB t r b) (.int w) = decide (r = 0 ∧ t = w * b) := by
      have e1 : (decide (lowR t r b = 0) && (decide (lowB t r b = 1) && decide (lowT t r b = w))) = decide (lowR t r b = 0 ∧ lowB t r b = 1 ∧ lowT t r b = w) := by simp only [Bool.decide_and]
      exact e1.trans (decide_eq_decide.mpr (L.whole w))
    walk_at "W"
    refine k_eqC T n20 (.int w) ?_
    rw [ew]
    walk_at "W"
    refine k_eqR T n20 (.inl ⟨w, rfl⟩) ?_
    rw [ew]
    walk_at "W"
    have hW : lowB t r b ≠ 0 := by have := L.pos; omega
    have hWB : Bd (lowB t r b) := bd_of (n := 10 ^ 23) (Nat.le_trans L.zle l7.2.2.2.2) (by decide)
    obtain ⟨an, dn, rfl, en⟩ := n20
    -- turned
    refine k_meth en (rf_none (by decide +kernel) (by decide +kernel) (by decide +kernel)) ?_
    walk_at "W"
    refine ⟨_, _, _, _, rfl, ⟨an, dn, rfl, en⟩, hW, hWB, fun tv H21 s21 r21 => ?_⟩
    have p21 := s21 _ _ p20
    have e21 := s21 _ _ en
    walk_at "W"
    refine k_tup rfl fun tu2 H22 htu2 s22 e22 => ?_
    have p22 := s22 _ _ p21
    have en22 := s22 _ _ e21
    obtain ⟨u1, u2, u3⟩ := L.turned.self.eqs hW
    obtain ⟨x1, x2, x3⟩ := L.turned.eqs hb0
    rw [← u1, ← u2, ← u3] at r21
    walk_at "W"
    refine ⟨tv, tu2, t, -r, b, _, _, _, rfl, r21.same s22, .inr e22, hb0, hbB, x1, x2, x3, fun H23 s23 => ?_⟩
    have p23 := s23 _ _ p22
    have en23 := s23 _ _ en22
    clear p22 p21 e21 en22 en p20
    walk_at "W"
    refine ⟨an, dn, _, rfl, en23, _, _, _, _, rfl, ⟨an, dn, rfl, en23⟩, hW, hWB, fun tv2 H24 s24 r24 => ?_⟩
    have p24 := s24 _ _ p23
    have en24 := s24 _ _ en23
    walk_at "W"
    refine k_tup rfl fun tu3 H25 htu3 s25 e25 => ?_
    have p25 := s25 _ _ p24
    have en25 := s25 _ _ en24
    obtain ⟨u1, u2, u3⟩ := L.neg.self.eqs hW
    obtain ⟨x1, x2, x3⟩ := L.neg.eqs hb0
    rw [← u1, ← u2, ← u3] at r24
    walk_at "W"
    refine ⟨tv2, tu3, -t, -r, b, _, _, _, rfl, r24.same s25, .inr e25, hb0, hbB, x1, x2, x3, fun H26 s26 => ?_⟩
    walk_at "W"
    exact ⟨_, pl, t, r, b, _, _, _, rfl, ⟨an, dn, rfl, s26 _ _ en25⟩, .inl (s26 _ _ p25), hb0, hbB, rfl, rfl, rfl, fun H27 _ => q H27⟩
def spTop (K : PySem.W.Frag) : Sp := fun vs H Q E => ∃ (a : Addr) (ns : List Int), vs = [.ref a] ∧ SqL K H a (ns.map V.int) ∧ ∀ H', Q (.bl true) H'
theorem all_mk {P : Program} {w : World} {K : PySem.W.Frag} {h : Heap} {mg : Str → Option Value} {fa : Addr} (X : K.In h) (G : h.Ns mainGlobals mg) (hfa : mg "law" = some (.ref fa))
    {c_FloorError c_BadNumber c_BadPoint c_Root : Addr}
    {nmX qX : Str} {NX : Addr} {bsX : List Value} {snX : List Str} {subX : List Value} {abX : Bool} {colX : Option Bool} {ddX : Option Addr} {m0X m1X m2X m3X m5X : Option Value}
    {f_is_integral : Addr} {od_is_integral an_is_integral : Option Addr} {sl_is_integral : Array (Option Value)} {oc_is_integral kV_is_integral dc_is_integral pm_is_integral cd_is_integral ct_is_integral : Value}
    {f_BadNumber_init : Addr} {od_BadNumber_init an_BadNumber_init : Option Addr} {sl_BadNumber_init : Array (Option Value)} {oc_BadNumber_init kV_BadNumber_init dc_BadNumber_init pm_BadNumber_init cd_BadNumber_init ct_BadNumber_init : Value}
    {f_Root_init : Addr} {od_Root_init an_Root_init : Option Addr} {sl_Root_init : Array (Option Value)} {oc_Root_init kV_Root_init dc_Root_init pm_Root_init cd_Root_init ct_Root_init : Value}
    {f_Root_eq : Addr} {od_Root_eq an_Root_eq : Option Addr} {sl_Root_eq : Array (Option Value)} {oc_Root_eq kV_Root_eq dc_Root_eq pm_Root_eq cd_Root_eq ct_Root_eq : Value}
    {f_Root_neg : Addr} {od_Root_neg an_Root_neg : Option Addr} {sl_Root_neg : Array (Option Value)} {oc_Root_neg kV_Root_neg dc_Root_neg pm_Root_neg cd_Root_neg ct_Root_neg : Value}
    {f_Root_turned : Addr} {od_Root_turned an_Root_turned : Option Addr} {sl_Root_turned : Array (Option Value)} {oc_Root_turned kV_Root_turned dc_Root_turned pm_Root_turned cd_Root_turned ct_Root_turned : Value}
    {f__law_start : Addr} {od__law_start an__law_start : Option Addr} {sl__law_start : Array (Option Value)} {oc__law_start kV__law_start dc__law_start pm__law_start cd__law_start ct__law_start : Value}
    {f__law_mixed : Addr} {od__law_mixed an__law_mixed : Option Addr} {sl__law_mixed : Array (Option Value)} {oc__law_mixed kV__law_mixed dc__law_mixed pm__law_mixed cd__law_mixed ct__law_mixed : Value}
    {f__law_draw : Addr} {od__law_draw an__law_draw : Option Addr} {sl__law_draw : Array (Option Value)} {oc__law_draw kV__law_draw dc__law_draw pm__law_draw cd__law_draw ct__law_draw : Value}
    {f__law_between : Addr} {od__law_between an__law_between : Option Addr} {sl__law_between : Array (Option Value)} {oc__law_between kV__law_between dc__law_between pm__law_between cd__law_between ct__law_between : Value}
    {f__law_common : Addr} {od__law_common an__law_common : Option Addr} {sl__law_common : Array (Option Value)} {oc__law_common kV__law_common dc__law_common pm__law_common cd__law_common ct__law_common : Value}
    {f__law_lowest : Addr} {od__law_lowest an__law_lowest : Option Addr} {sl__law_lowest : Array (Option Value)} {oc__law_lowest kV__law_lowest dc__law_lowest pm__law_lowest cd__law_lowest ct__law_lowest : Value}
    {f__law_is_root : Addr} {od__law_is_root an__law_is_root : Option Addr} {sl__law_is_root : Array (Option Value)} {oc__law_is_root kV__law_is_root dc__law_is_root pm__law_is_root cd__law_is_root ct__law_is_root : Value}
    {f__law_bad : Addr} {od__law_bad an__law_bad : Option Addr} {sl__law_bad : Array (Option Value)} {oc__law_bad kV__law_bad dc__law_bad pm__law_bad cd__law_bad ct__law_bad : Value}
    {f__law_same_thing : Addr} {od__law_same_thing an__law_same_thing : Option Addr} {sl__law_same_thing : Array (Option Value)} {oc__law_same_thing kV__law_same_thing dc__law_same_thing pm__law_same_thing cd__law_same_thing ct__law_same_thing : Value}
    {f__law_asked : Addr} {od__law_asked an__law_asked : Option Addr} {sl__law_asked : Array (Option Value)} {oc__law_asked kV__law_asked dc__law_asked pm__law_asked cd__law_asked ct__law_asked : Value}
    {f_law : Addr} {od_law an_law : Option Addr} {sl_law : Array (Option Value)} {oc_law kV_law dc_law pm_law cd_law ct_law : Value}
    (r_Root : PySem.W.nsIn K mainGlobals "Root" = some (some (.ref c_Root)))
    (r_BadNumber : PySem.W.nsIn K mainGlobals "BadNumber" = some (some (.ref c_BadNumber)))
    (r_FloorError : PySem.W.nsIn K mainGlobals "FloorError" = some (some (.ref c_FloorError)))
    (r_BadPoint : PySem.W.nsIn K mainGlobals "BadPoint" = some (some (.ref c_BadPoint)))
    (r_gcd : PySem.W.nsIn K mainGlobals "gcd" = some (some (.builtin "math.gcd")))
    (r_isinstance : PySem.W.nsIn K mainGlobals "isinstance" = some none)
    (r_int : PySem.W.nsIn K mainGlobals "int" = some none)
    (r_bool : PySem.W.nsIn K mainGlobals "bool" = some none)
    (r_list : PySem.W.nsIn K mainGlobals "list" = some none)
    (r_range : PySem.W.nsIn K mainGlobals "range" = some none)
    (r_len : PySem.W.nsIn K mainGlobals "len" = some none)
    (r_abs : PySem.W.nsIn K mainGlobals "abs" = some none)
    (r_ValueError : PySem.W.nsIn K mainGlobals "ValueError" = some none)
    (r_pg : PySem.W.plainGet K c_Root Str.empty = true)
    (r_hd : PySem.W.hasDictIn K c_Root = true)
    (r_po : PySem.W.plainOver K c_Root = true)
    (r_sa : PySem.W.findIn K (.ref c_Root) "__setattr__" = some (some (.builtin "object.__setattr__")))
    (r_ca : PySem.W.findIn K (.ref c_Root) "__class__" = some (some (.builtin "object.__class__")))
    (r_hm : PySem.W.mroIn K c_Root (.type "object") = some true)
    (r_ic : PySem.W.isClsIn K c_Root = true)
    (r_tc : PySem.W.typeIn K (.ref c_Root) = some (.type "type"))
    (r_s1 : PySem.W.mroIn K c_Root (.type "int") = some false)
    (r_s2 : PySem.W.mroIn K c_Root (.type "bool") = some false)
    (r_nt : PySem.W.findIn K (.ref c_Root) "top" = some none)
    (r_nr : PySem.W.findIn K (.ref c_Root) "root" = some none)
    (r_nb : PySem.W.findIn K (.ref c_Root) "bottom" = some none)
    (r_xL : K.lookup c_BadNumber = some (excClassObj nmX qX c_BadNumber NX bsX [.ref c_FloorError, .type "ValueError", .type "Exception", .type "BaseException", .type "object"] true snX subX abX colX ddX m0X m1X m2X m3X m5X "ValueError.__new__"))
    (r_xsa : PySem.W.findIn K (.ref c_BadNumber) "__setattr__" = some (some (.builtin "object.__setattr__")))
    (r_xe : PySem.W.mroIn K c_BadNumber (.type "BaseException") = some true)
    (r_xt : PySem.W.typeIn K (.ref c_BadNumber) = some (.type "type"))
    (r_xk : PySem.W.keepIn K (.ref c_BadNumber) = true)
    (r_xn : PySem.W.findIn K (.ref c_BadNumber) "value" = some none)
    (r_xga : PySem.W.findIn K (.ref c_BadNumber) "__getattribute__" = some (some (.builtin "BaseException.__getattribute__")))
    (r_xgg : PySem.W.findIn K (.ref c_BadNumber) "__getattr__" = some none)
    (r_xhd : PySem.W.hasDictIn K c_BadNumber = true)
    (r_xca : PySem.W.findIn K (.ref c_BadNumber) "__class__" = some (some (.builtin "object.__class__")))
    (r_xhm : PySem.W.mroIn K c_BadNumber (.type "object") = some true)
    (r_xic : PySem.W.isClsIn K c_BadNumber = true)
    (r_xs : PySem.W.mroIn K c_BadNumber (.ref c_BadNumber) = some true)
    (r_xf : PySem.W.mroIn K c_BadNumber (.ref c_FloorError) = some true)
    (r_xv : PySem.W.mroIn K c_BadNumber (.type "ValueError") = some true)
    (r_xp : PySem.W.mroIn K c_BadNumber (.ref c_BadPoint) = some false)
    (r_fic : PySem.W.isClsIn K c_FloorError = true)
    (r_ftc : PySem.W.typeIn K (.ref c_FloorError) = some (.type "type"))
    (r_pic : PySem.W.isClsIn K c_BadPoint = true)
    (r_ptc : PySem.W.typeIn K (.ref c_BadPoint) = some (.type "type"))
    (a_is_integral : PySem.W.nsIn K mainGlobals "is_integral" = some (some (.ref f_is_integral)))
    (l_is_integral : K.lookup f_is_integral = some ⟨oc_is_integral, od_is_integral, .func (PySem.W.fnOf "is_integral" "is_integral" (defArgs s_is_integral) (defBody s_is_integral) (defScope s_is_integral) .none kV_is_integral dc_is_integral pm_is_integral an_is_integral cd_is_integral ct_is_integral), sl_is_integral⟩)
    (d_is_integral : PySem.W.codeIn K cd_is_integral "is_integral" = true)
    (k_is_integral : PySem.W.keepIn K (.ref f_is_integral) = true)
    (a_BadNumber_init : PySem.W.findIn K (.ref c_BadNumber) "__init__" = some (some (.ref f_BadNumber_init)))
    (t_BadNumber_init : PySem.W.typeIn K (.ref f_BadNumber_init) = some (.type "function"))
    (l_BadNumber_init : K.lookup f_BadNumber_init = some ⟨oc_BadNumber_init, od_BadNumber_init, .func (PySem.W.fnOf "__init__" "BadNumber.__init__" (defArgs s_BadNumber_init) (defBody s_BadNumber_init) (defScope s_BadNumber_init) .none kV_BadNumber_init dc_BadNumber_init pm_BadNumber_init an_BadNumber_init cd_BadNumber_init ct_BadNumber_init), sl_BadNumber_init⟩)
    (d_BadNumber_init : PySem.W.codeIn K cd_BadNumber_init "BadNumber.__init__" = true)
    (k_BadNumber_init : PySem.W.keepIn K (.ref f_BadNumber_init) = true)
    (a_Root_init : PySem.W.findIn K (.ref c_Root) "__init__" = some (some (.ref f_Root_init)))
    (i_Root_init : PySem.W.isFn K (.ref f_Root_init) = true)
    (mk_Root_init : PySem.W.makesIn K c_Root = true)
    (kc_Root_init : PySem.W.keepIn K (.ref c_Root) = true)
    (l_Root_init : K.lookup f_Root_init = some ⟨oc_Root_init, od_Root_init, .func (PySem.W.fnOf "__init__" "Root.__init__" (defArgs s_Root_init) (defBody s_Root_init) (defScope s_Root_init) .none kV_Root_init dc_Root_init pm_Root_init an_Root_init cd_Root_init ct_Root_init), sl_Root_init⟩)
    (d_Root_init : PySem.W.codeIn K cd_Root_init "Root.__init__" = true)
    (k_Root_init : PySem.W.keepIn K (.ref f_Root_init) = true)
    (a_Root_eq : PySem.W.findIn K (.ref c_Root) "__eq__" = some (some (.ref f_Root_eq)))
    (i_Root_eq : PySem.W.isFn K (.ref f_Root_eq) = true)
    (l_Root_eq : K.lookup f_Root_eq = some ⟨oc_Root_eq, od_Root_eq, .func (PySem.W.fnOf "__eq__" "Root.__eq__" (defArgs s_Root_eq) (defBody s_Root_eq) (defScope s_Root_eq) .none kV_Root_eq dc_Root_eq pm_Root_eq an_Root_eq cd_Root_eq ct_Root_eq), sl_Root_eq⟩)
    (d_Root_eq : PySem.W.codeIn K cd_Root_eq "Root.__eq__" = true)
    (k_Root_eq : PySem.W.keepIn K (.ref f_Root_eq) = true)
    (a_Root_neg : PySem.W.findIn K (.ref c_Root) "__neg__" = some (some (.ref f_Root_neg)))
    (i_Root_neg : PySem.W.isFn K (.ref f_Root_neg) = true)
    (l_Root_neg : K.lookup f_Root_neg = some ⟨oc_Root_neg, od_Root_neg, .func (PySem.W.fnOf "__neg__" "Root.__neg__" (defArgs s_Root_neg) (defBody s_Root_neg) (defScope s_Root_neg) .none kV_Root_neg dc_Root_neg pm_Root_neg an_Root_neg cd_Root_neg ct_Root_neg), sl_Root_neg⟩)
    (d_Root_neg : PySem.W.codeIn K cd_Root_neg "Root.__neg__" = true)
    (k_Root_neg : PySem.W.keepIn K (.ref f_Root_neg) = true)
    (a_Root_turned : PySem.W.findIn K (.ref c_Root) "turned" = some (some (.ref f_Root_turned)))
    (i_Root_turned : PySem.W.isFn K (.ref f_Root_turned) = true)
    (l_Root_turned : K.lookup f_Root_turned = some ⟨oc_Root_turned, od_Root_turned, .func (PySem.W.fnOf "turned" "Root.turned" (defArgs s_Root_turned) (defBody s_Root_turned) (defScope s_Root_turned) .none kV_Root_turned dc_Root_turned pm_Root_turned an_Root_turned cd_Root_turned ct_Root_turned), sl_Root_turned⟩)
    (d_Root_turned : PySem.W.codeIn K cd_Root_turned "Root.turned" = true)
    (k_Root_turned : PySem.W.keepIn K (.ref f_Root_turned) = true)
    (a__law_start : PySem.W.nsIn K mainGlobals "_law_start" = some (some (.ref f__law_start)))
    (l__law_start : K.lookup f__law_start = some ⟨oc__law_start, od__law_start, .func (PySem.W.fnOf "_law_start" "_law_start" (defArgs s__law_start) (defBody s__law_start) (defScope s__law_start) .none kV__law_start dc__law_start pm__law_start an__law_start cd__law_start ct__law_start), sl__law_start⟩)
    (d__law_start : PySem.W.codeIn K cd__law_start "_law_start" = true)
    (k__law_start : PySem.W.keepIn K (.ref f__law_start) = true)
    (a__law_mixed : PySem.W.nsIn K mainGlobals "_law_mixed" = some (some (.ref f__law_mixed)))
    (l__law_mixed : K.lookup f__law_mixed = some ⟨oc__law_mixed, od__law_mixed, .func (PySem.W.fnOf "_law_mixed" "_law_mixed" (defArgs s__law_mixed) (defBody s__law_mixed) (defScope s__law_mixed) .none kV__law_mixed dc__law_mixed pm__law_mixed an__law_mixed cd__law_mixed ct__law_mixed), sl__law_mixed⟩)
    (d__law_mixed : PySem.W.codeIn K cd__law_mixed "_law_mixed" = true)
    (k__law_mixed : PySem.W.keepIn K (.ref f__law_mixed) = true)
    (a__law_draw : PySem.W.nsIn K mainGlobals "_law_draw" = some (some (.ref f__law_draw)))
    (l__law_draw : K.lookup f__law_draw = some ⟨oc__law_draw, od__law_draw, .func (PySem.W.fnOf "_law_draw" "_law_draw" (defArgs s__law_draw) (defBody s__law_draw) (defScope s__law_draw) .none kV__law_draw dc__law_draw pm__law_draw an__law_draw cd__law_draw ct__law_draw), sl__law_draw⟩)
    (d__law_draw : PySem.W.codeIn K cd__law_draw "_law_draw" = true)
    (k__law_draw : PySem.W.keepIn K (.ref f__law_draw) = true)
    (a__law_between : PySem.W.nsIn K mainGlobals "_law_between" = some (some (.ref f__law_between)))
    (l__law_between : K.lookup f__law_between = some ⟨oc__law_between, od__law_between, .func (PySem.W.fnOf "_law_between" "_law_between" (defArgs s__law_between) (defBody s__law_between) (defScope s__law_between) .none kV__law_between dc__law_between pm__law_between an__law_between cd__law_between ct__law_between), sl__law_between⟩)
    (d__law_between : PySem.W.codeIn K cd__law_between "_law_between" = true)
    (k__law_between : PySem.W.keepIn K (.ref f__law_between) = true)
    (a__law_common : PySem.W.nsIn K mainGlobals "_law_common" = some (some (.ref f__law_common)))
    (l__law_common : K.lookup f__law_common = some ⟨oc__law_common, od__law_common, .func (PySem.W.fnOf "_law_common" "_law_common" (defArgs s__law_common) (defBody s__law_common) (defScope s__law_common) .none kV__law_common dc__law_common pm__law_common an__law_common cd__law_common ct__law_common), sl__law_common⟩)
    (d__law_common : PySem.W.codeIn K cd__law_common "_law_common" = true)
    (k__law_common : PySem.W.keepIn K (.ref f__law_common) = true)
    (a__law_lowest : PySem.W.nsIn K mainGlobals "_law_lowest" = some (some (.ref f__law_lowest)))
    (l__law_lowest : K.lookup f__law_lowest = some ⟨oc__law_lowest, od__law_lowest, .func (PySem.W.fnOf "_law_lowest" "_law_lowest" (defArgs s__law_lowest) (defBody s__law_lowest) (defScope s__law_lowest) .none kV__law_lowest dc__law_lowest pm__law_lowest an__law_lowest cd__law_lowest ct__law_lowest), sl__law_lowest⟩)
    (d__law_lowest : PySem.W.codeIn K cd__law_lowest "_law_lowest" = true)
    (k__law_lowest : PySem.W.keepIn K (.ref f__law_lowest) = true)
    (a__law_is_root : PySem.W.nsIn K mainGlobals "_law_is_root" = some (some (.ref f__law_is_root)))
    (l__law_is_root : K.lookup f__law_is_root = some ⟨oc__law_is_root, od__law_is_root, .func (PySem.W.fnOf "_law_is_root" "_law_is_root" (defArgs s__law_is_root) (defBody s__law_is_root) (defScope s__law_is_root) .none kV__law_is_root dc__law_is_root pm__law_is_root an__law_is_root cd__law_is_root ct__law_is_root), sl__law_is_root⟩)
    (d__law_is_root : PySem.W.codeIn K cd__law_is_root "_law_is_root" = true)
    (k__law_is_root : PySem.W.keepIn K (.ref f__law_is_root) = true)
    (a__law_bad : PySem.W.nsIn K mainGlobals "_law_bad" = some (some (.ref f__law_bad)))
    (l__law_bad : K.lookup f__law_bad = some ⟨oc__law_bad, od__law_bad, .func (PySem.W.fnOf "_law_bad" "_law_bad" (defArgs s__law_bad) (defBody s__law_bad) (defScope s__law_bad) .none kV__law_bad dc__law_bad pm__law_bad an__law_bad cd__law_bad ct__law_bad), sl__law_bad⟩)
    (d__law_bad : PySem.W.codeIn K cd__law_bad "_law_bad" = true)
    (k__law_bad : PySem.W.keepIn K (.ref f__law_bad) = true)
    (a__law_same_thing : PySem.W.nsIn K mainGlobals "_law_same_thing" = some (some (.ref f__law_same_thing)))
    (l__law_same_thing : K.lookup f__law_same_thing = some ⟨oc__law_same_thing, od__law_same_thing, .func (PySem.W.fnOf "_law_same_thing" "_law_same_thing" (defArgs s__law_same_thing) (defBody s__law_same_thing) (defScope s__law_same_thing) .none kV__law_same_thing dc__law_same_thing pm__law_same_thing an__law_same_thing cd__law_same_thing ct__law_same_thing), sl__law_same_thing⟩)
    (d__law_same_thing : PySem.W.codeIn K cd__law_same_thing "_law_same_thing" = true)
    (k__law_same_thing : PySem.W.keepIn K (.ref f__law_same_thing) = true)
    (a__law_asked : PySem.W.nsIn K mainGlobals "_law_asked" = some (some (.ref f__law_asked)))
    (l__law_asked : K.lookup f__law_asked = some ⟨oc__law_asked, od__law_asked, .func (PySem.W.fnOf "_law_asked" "_law_asked" (defArgs s__law_asked) (defBody s__law_asked) (defScope s__law_asked) .none kV__law_asked dc__law_asked pm__law_asked an__law_asked cd__law_asked ct__law_asked), sl__law_asked⟩)
    (d__law_asked : PySem.W.codeIn K cd__law_asked "_law_asked" = true)
    (k__law_asked : PySem.W.keepIn K (.ref f__law_asked) = true)
    (a_law : PySem.W.nsIn K mainGlobals "law" = some (some (.ref f_law)))
    (l_law : K.lookup f_law = some ⟨oc_law, od_law, .func (PySem.W.fnOf "law" "law" (defArgs s_law) (defBody s_law) (defScope s_law) .none kV_law dc_law pm_law an_law cd_law ct_law), sl_law⟩)
    (d_law : PySem.W.codeIn K cd_law "law" = true)
    (k_law : PySem.W.keepIn K (.ref f_law) = true)
    : ∃ fd : FuncData, (∀ (s : Shared) (v : Value), BindsTo s fd ⟨[v], []⟩ [("script", v)]) ∧ ∀ base : Heap, K.In base → base.Ns mainGlobals mg → FnOk P w K mg base (L2.CX P w) 6 fa fd ["script"] (spTop K) := by
  have e := hfa.symm.trans (PySem.W.mg_of X G a_law)
  cases e
  have M : ∀ {n : Str} {v : Value}, PySem.W.nsIn K mainGlobals n = some (some v) → mg n = some v := fun h => PySem.W.mg_of X G h
  have O : ∀ {n : Str}, PySem.W.nsIn K mainGlobals n = some none → mg n = none := fun h => PySem.W.mg_none_of X G h
  have T : Txt (⟨K, c_FloorError, c_BadNumber, c_BadPoint, c_Root⟩ : Zs) mg :=
    { n_isinstance := O r_isinstance, n_int := O r_int, n_bool := O r_bool, n_list := O r_list, n_range := O r_range, n_len := O r_len, n_abs := O r_abs, n_ValueError := O r_ValueError
      g_gcd := M r_gcd, g_Root := M r_Root, g_BadNumber := M r_BadNumber, g_FloorError := M r_FloorError, g_BadPoint := M r_BadPoint
      ki := ki_mk ⟨r_pg, r_hd, r_po, r_sa⟩ r_ca r_hm r_ic r_tc r_s1 r_s2
      nf_top := r_nt, nf_root := r_nr, nf_bottom := r_nb
      x_BadNumber := ⟨⟨nmX, qX, NX, bsX, _, snX, subX, abX, colX, ddX, m0X, m1X, m2X, m3X, m5X, r_xL, rfl⟩, r_xsa, r_xe, r_xt, r_xk⟩
      xn_BadNumber := r_xn
      xf_BadNumber := ⟨r_xga, r_xgg, r_xe, r_xhd⟩
      xi_BadNumber := ⟨r_xga, r_xgg, r_xe, r_xhd, r_xca, rfl, rfl, r_xhm⟩
      xm_BadNumber := exm_mk r_xe r_xic r_xt r_xs
      x1 := kit_ref (t := .ref c_BadNumber) r_fic r_ftc r_xf
      x2 := kit_type (C := c_BadNumber) (T := "ValueError") (by decide +kernel) r_xv
      x3 := kit_ref0 (t := .ref c_BadNumber) r_pic r_ptc r_xp (ref_ne r_xs r_xp) }
  have F_is_integral := fun_mk (st := s_is_integral) l_is_integral d_is_integral k_is_integral
  have B_is_integral := F_is_integral.binds (ps := ["thing"]) fun _ _ _ _ _ _ us hl => match us, hl with | [_], _ => rfl
  have F_BadNumber_init := fun_mk (st := s_BadNumber_init) l_BadNumber_init d_BadNumber_init k_BadNumber_init
  have B_BadNumber_init := F_BadNumber_init.binds (ps := ["self", "value"]) fun _ _ _ _ _ _ us hl => match us, hl with | [_, _], _ => rfl
  have F_Root_init := fun_mk (st := s_Root_init) l_Root_init d_Root_init k_Root_init
  have B_Root_init := F_Root_init.binds (ps := ["self", "top", "root", "bottom"]) fun _ _ _ _ _ _ us hl => match us, hl with | [_, _, _, _], _ => rfl
  have F_Root_eq := fun_mk (st := s_Root_eq) l_Root_eq d_Root_eq k_Root_eq
  have B_Root_eq := F_Root_eq.binds (ps := ["self", "other"]) fun _ _ _ _ _ _ us hl => match us, hl with | [_, _], _ => rfl
  have F_Root_neg := fun_mk (st := s_Root_neg) l_Root_neg d_Root_neg k_Root_neg
  have B_Root_neg := F_Root_neg.binds (ps := ["self"]) fun _ _ _ _ _ _ us hl => match us, hl with | [_], _ => rfl
  have F_Root_turned := fun_mk (st := s_Root_turned) l_Root_turned d_Root_turned k_Root_turned
  have B_Root_turned := F_Root_turned.binds (ps := ["self"]) fun _ _ _ _ _ _ us hl => match us, hl with | [_], _ => rfl
  have F__law_start := fun_mk (st := s__law_start) l__law_start d__law_start k__law_start
  have B__law_start := F__law_start.binds (ps := ["script"]) fun _ _ _ _ _ _ us hl => match us, hl with | [_], _ => rfl
  have F__law_mixed := fun_mk (st := s__law_mixed) l__law_mixed d__law_mixed k__law_mixed
  have B__law_mixed := F__law_mixed.binds (ps := ["cell", "count"]) fun _ _ _ _ _ _ us hl => match us, hl with | [_, _], _ => rfl
  have F__law_draw := fun_mk (st := s__law_draw) l__law_draw d__law_draw k__law_draw
  have B__law_draw := F__law_draw.binds (ps := ["state", "many"]) fun _ _ _ _ _ _ us hl => match us, hl with | [_, _], _ => rfl
  have F__law_between := fun_mk (st := s__law_between) l__law_between d__law_between k__law_between
  have B__law_between := F__law_between.binds (ps := ["state", "least", "most"]) fun _ _ _ _ _ _ us hl => match us, hl with | [_, _, _], _ => rfl
  have F__law_common := fun_mk (st := s__law_common) l__law_common d__law_common k__law_common
  have B__law_common := F__law_common.binds (ps := ["one", "other"]) fun _ _ _ _ _ _ us hl => match us, hl with | [_, _], _ => rfl
  have F__law_lowest := fun_mk (st := s__law_lowest) l__law_lowest d__law_lowest k__law_lowest
  have B__law_lowest := F__law_lowest.binds (ps := ["number"]) fun _ _ _ _ _ _ us hl => match us, hl with | [_], _ => rfl
  have F__law_is_root := fun_mk (st := s__law_is_root) l__law_is_root d__law_is_root k__law_is_root
  have B__law_is_root := F__law_is_root.binds (ps := ["thing", "number"]) fun _ _ _ _ _ _ us hl => match us, hl with | [_, _], _ => rfl
  have F__law_bad := fun_mk (st := s__law_bad) l__law_bad d__law_bad k__law_bad
  have B__law_bad := F__law_bad.binds (ps := ["state"]) fun _ _ _ _ _ _ us hl => match us, hl with | [_], _ => rfl
  have F__law_same_thing := fun_mk (st := s__law_same_thing) l__law_same_thing d__law_same_thing k__law_same_thing
  have B__law_same_thing := F__law_same_thing.binds (ps := ["one", "other"]) fun _ _ _ _ _ _ us hl => match us, hl with | [_, _], _ => rfl
  have F__law_asked := fun_mk (st := s__law_asked) l__law_asked d__law_asked k__law_asked
  have B__law_asked := F__law_asked.binds (ps := ["top", "root", "bottom"]) fun _ _ _ _ _ _ us hl => match us, hl with | [_, _, _], _ => rfl
  have F_law := fun_mk (st := s_law) l_law d_law k_law
  refine ⟨PySem.W.fnOf "law" "law" (defArgs s_law) (defBody s_law) (defScope s_law) .none kV_law dc_law pm_law an_law cd_law ct_law, fun s v => .of_eq rfl, fun base _ _ => ?_⟩
  have h_is_integral := ok_is_integral (P := P) (w := w) (base := base) T  ⟨_, _, F_is_integral, B_is_integral, M a_is_integral⟩
  have h_BadNumber := ok_BadNumber_init (P := P) (w := w) (base := base) T  ⟨_, _, F_BadNumber_init, B_BadNumber_init, M r_BadNumber, a_BadNumber_init, t_BadNumber_init⟩
  have h_Root := ok_Root_init (P := P) (w := w) (base := base) T h_BadNumber h_is_integral ⟨_, _, F_Root_init, B_Root_init, ⟨mk_Root_init, a_Root_init, i_Root_init, kc_Root_init⟩, M r_Root⟩
  have h_Root_eq := ok_Root_eq (P := P) (w := w) (base := base) T h_is_integral ⟨_, _, F_Root_eq, B_Root_eq, ⟨a_Root_eq, i_Root_eq, k_Root_eq⟩⟩
  have h_Root_neg := ok_Root_neg (P := P) (w := w) (base := base) T h_Root ⟨_, _, F_Root_neg, B_Root_neg, ⟨a_Root_neg, i_Root_neg, k_Root_neg⟩⟩
  have h_Root_turned := ok_Root_turned (P := P) (w := w) (base := base) T h_Root ⟨_, _, F_Root_turned, B_Root_turned, ⟨a_Root_turned, i_Root_turned, k_Root_turned⟩⟩
  have h__law_start := ok__law_start (P := P) (w := w) (base := base) T  ⟨_, _, F__law_start, B__law_start, M a__law_start⟩
  have h__law_mixed := ok__law_mixed (P := P) (w := w) (base := base) T  ⟨_, _, F__law_mixed, B__law_mixed, M a__law_mixed⟩
  have h__law_draw := ok__law_draw (P := P) (w := w) (base := base) T h__law_mixed ⟨_, _, F__law_draw, B__law_draw, M a__law_draw⟩
  have h__law_between := ok__law_between (P := P) (w := w) (base := base) T h__law_draw ⟨_, _, F__law_between, B__law_between, M a__law_between⟩
  have h__law_common := ok__law_common (P := P) (w := w) (base := base) T  ⟨_, _, F__law_common, B__law_common, M a__law_common⟩
  have h__law_lowest := ok__law_lowest (P := P) (w := w) (base := base) T h__law_common ⟨_, _, F__law_lowest, B__law_lowest, M a__law_lowest⟩
  have h__law_is_root := ok__law_is_root (P := P) (w := w) (base := base) T h__law_lowest ⟨_, _, F__law_is_root, B__law_is_root, M a__law_is_root⟩
  have h__law_bad := ok__law_bad (P := P) (w := w) (base := base) T h__law_draw ⟨_, _, F__law_bad, B__law_bad, M a__law_bad⟩
  have h__law_same_thing := ok__law_same_thing (P := P) (w := w) (base := base) T  ⟨_, _, F__law_same_thing, B__law_same_thing, M a__law_same_thing⟩
  have h__law_asked := ok__law_asked (P := P) (w := w) (base := base) T h_Root ⟨_, _, F__law_asked, B__law_asked, M a__law_asked⟩
  exact (ok_law (P := P) (w := w) (base := base) T h__law_is_root h__law_draw h__law_between h_Root h__law_same_thing h__law_asked h__law_bad h__law_start h_Root_eq h_Root_neg h_Root_turned F_law).imp fun vs H Q E hs => hs
theorem walk {l : PySem.W.OpenLaw} {q : Program} {loose : List Str} {XP : (Str → Option Value) → Heap → Prop} {YP : World → Heap → Prop} {d : DefRec} {K : Params → PySem.W.Frag} (hn : l.most = some 63) (hdf : d.params.defaults = [])
    (hY : ∀ (w : World) (h : Heap), YP w h → (K w.params).In h)
    (F : ∀ (w : World) (mg : Str → Option Value) (fa : Addr) (h : Heap), (K w.params).In h → h.Ns mainGlobals mg → mg d.name = some (.ref fa) →
      ∃ fd : FuncData, (∀ (s : Shared) (u : Value), BindsTo s fd ⟨[u], []⟩ [("script", u)]) ∧ ∀ base : Heap, (K w.params).In base → base.Ns mainGlobals mg → FnOk l.prog w (K w.params) mg base (L2.CX l.prog w) 6 fa fd ["script"] (spTop (K w.params))) :
    PySem.W.WalkO q loose XP YP l.row.toRowW d [] (fun f vs => PySem.call f vs) :=
  L2.walk_of (n := 63) (k := 6) (x := "script") (CX := fun w => L2.CX l.prog w) (sp := fun w => spTop (K w.params)) hn (by decide) hdf ⟨rfl, by decide, by decide⟩ hY F (fun _ _ a ns _ _ hS => ⟨a, ns, rfl, hS, fun _ => rfl⟩) fun _ _ _ _ _ z => cx_no z
end L2.My
open PySem PySem.W PyProof.Rows in
set_option maxRecDepth 100000 in
set_option maxHeartbeats 0 in
theorem PySem.Challenge.cw_threetiles_k00_root_in_lowest_terms_holds : PySem.Challenge.rw_threetiles_k00_root_in_lowest_terms.Holds := by
  w_on; o_law; k_head; (case hw => w_witness2)
  k_fill
  refine L2.My.walk (l := PySem.Challenge.rw_threetiles_k00_root_in_lowest_terms) rfl rfl (fun w h Y => PySem.W.kIn_of Y) ?F
  case F =>
    intro w mg fa h KX G hmg
    refine' L2.My.all_mk KX G hmg ?r_Root ?r_BadNumber ?r_FloorError ?r_BadPoint ?r_gcd ?r_isinstance ?r_int ?r_bool ?r_list ?r_range ?r_len ?r_abs ?r_ValueError ?r_pg ?r_hd ?r_po ?r_sa ?r_ca ?r_hm ?r_ic ?r_tc ?r_s1 ?r_s2 ?r_nt ?r_nr ?r_nb ?r_xL ?r_xsa ?r_xe ?r_xt ?r_xk ?r_xn ?r_xga ?r_xgg ?r_xhd ?r_xca ?r_xhm ?r_xic ?r_xs ?r_xf ?r_xv ?r_xp ?r_fic ?r_ftc ?r_pic ?r_ptc ?a_is_integral ?l_is_integral ?d_is_integral ?k_is_integral ?a_BadNumber_init ?t_BadNumber_init ?l_BadNumber_init ?d_BadNumber_init ?k_BadNumber_init ?a_Root_init ?i_Root_init ?mk_Root_init ?kc_Root_init ?l_Root_init ?d_Root_init ?k_Root_init ?a_Root_eq ?i_Root_eq ?l_Root_eq ?d_Root_eq ?k_Root_eq ?a_Root_neg ?i_Root_neg ?l_Root_neg ?d_Root_neg ?k_Root_neg ?a_Root_turned ?i_Root_turned ?l_Root_turned ?d_Root_turned ?k_Root_turned ?a__law_start ?l__law_start ?d__law_start ?k__law_start ?a__law_mixed ?l__law_mixed ?d__law_mixed ?k__law_mixed ?a__law_draw ?l__law_draw ?d__law_draw ?k__law_draw ?a__law_between ?l__law_between ?d__law_between ?k__law_between ?a__law_common ?l__law_common ?d__law_common ?k__law_common ?a__law_lowest ?l__law_lowest ?d__law_lowest ?k__law_lowest ?a__law_is_root ?l__law_is_root ?d__law_is_root ?k__law_is_root ?a__law_bad ?l__law_bad ?d__law_bad ?k__law_bad ?a__law_same_thing ?l__law_same_thing ?d__law_same_thing ?k__law_same_thing ?a__law_asked ?l__law_asked ?d__law_asked ?k__law_asked ?a_law ?l_law ?d_law ?k_law
    (case r_Root => k_is)
    (case r_BadNumber => k_is)
    (case r_FloorError => k_is)
    (case r_BadPoint => k_is)
    (case r_gcd => k_is)
    (case r_isinstance => k_is)
    (case r_int => k_is)
    (case r_bool => k_is)
    (case r_list => k_is)
    (case r_range => k_is)
    (case r_len => k_is)
    (case r_abs => k_is)
    (case r_ValueError => k_is)
    (case r_pg => k_is)
    (case r_hd => k_is)
    (case r_po => k_is)
    (case r_sa => k_is)
    (case r_ca => k_is)
    (case r_hm => k_is)
    (case r_ic => k_is)
    (case r_tc => k_is)
    (case r_s1 => k_is)
    (case r_s2 => k_is)
    (case r_nt => k_is)
    (case r_nr => k_is)
    (case r_nb => k_is)
    (case r_xL => k_is)
    (case r_xsa => k_is)
    (case r_xe => k_is)
    (case r_xt => k_is)
    (case r_xk => k_is)
    (case r_xn => k_is)
    (case r_xga => k_is)
    (case r_xgg => k_is)
    (case r_xhd => k_is)
    (case r_xca => k_is)
    (case r_xhm => k_is)
    (case r_xic => k_is)
    (case r_xs => k_is)
    (case r_xf => k_is)
    (case r_xv => k_is)
    (case r_xp => k_is)
    (case r_fic => k_is)
    (case r_ftc => k_is)
    (case r_pic => k_is)
    (case r_ptc => k_is)
    (case a_is_integral => k_is)
    (case l_is_integral => k_is)
    (case d_is_integral => k_is)
    (case k_is_integral => k_is)
    (case a_BadNumber_init => k_is)
    (case t_BadNumber_init => k_is)
    (case l_BadNumber_init => k_is)
    (case d_BadNumber_init => k_is)
    (case k_BadNumber_init => k_is)
    (case a_Root_init => k_is)
    (case i_Root_init => k_is)
    (case mk_Root_init => k_is)
    (case kc_Root_init => k_is)
    (case l_Root_init => k_is)
    (case d_Root_init => k_is)
    (case k_Root_init => k_is)
    (case a_Root_eq => k_is)
    (case i_Root_eq => k_is)
    (case l_Root_eq => k_is)
    (case d_Root_eq => k_is)
    (case k_Root_eq => k_is)
    (case a_Root_neg => k_is)
    (case i_Root_neg => k_is)
    (case l_Root_neg => k_is)
    (case d_Root_neg => k_is)
    (case k_Root_neg => k_is)
    (case a_Root_turned => k_is)
    (case i_Root_turned => k_is)
    (case l_Root_turned => k_is)
    (case d_Root_turned => k_is)
    (case k_Root_turned => k_is)
    (case a__law_start => k_is)
    (case l__law_start => k_is)
    (case d__law_start => k_is)
    (case k__law_start => k_is)
    (case a__law_mixed => k_is)
    (case l__law_mixed => k_is)
    (case d__law_mixed => k_is)
    (case k__law_mixed => k_is)
    (case a__law_draw => k_is)
    (case l__law_draw => k_is)
    (case d__law_draw => k_is)
    (case k__law_draw => k_is)
    (case a__law_between => k_is)
    (case l__law_between => k_is)
    (case d__law_between => k_is)
    (case k__law_between => k_is)
    (case a__law_common => k_is)
    (case l__law_common => k_is)
    (case d__law_common => k_is)
    (case k__law_common => k_is)
    (case a__law_lowest => k_is)
    (case l__law_lowest => k_is)
    (case d__law_lowest => k_is)
    (case k__law_lowest => k_is)
    (case a__law_is_root => k_is)
    (case l__law_is_root => k_is)
    (case d__law_is_root => k_is)
    (case k__law_is_root => k_is)
    (case a__law_bad => k_is)
    (case l__law_bad => k_is)
    (case d__law_bad => k_is)
    (case k__law_bad => k_is)
    (case a__law_same_thing => k_is)
    (case l__law_same_thing => k_is)
    (case d__law_same_thing => k_is)
    (case k__law_same_thing => k_is)
    (case a__law_asked => k_is)
    (case l__law_asked => k_is)
    (case d__law_asked => k_is)
    (case k__law_asked => k_is)
    (case a_law => k_is)
    (case l_law => k_is)
    (case d_law => k_is)
    (case k_law => k_is)
