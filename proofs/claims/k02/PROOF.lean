import PyProof.Rows.All
import Wide.All
import OpenK.AllK
import Wide.FinOn
import HandS.ForMost
import HandS.ForExc
import HandS.SlotsOwn
import KE.KMathG
import KE.KOpsOwn
import HandS.ExcInit
import HandS.ExcField
import HandS.ExcIs
import HandS.IsInst
import HandS.OwnEq
import HandS.Gcd
import HandS.Wide
import HandS.Codes
import HandS.Style
import HandS.DictComp
import PySem.Challenge.RW_threetiles_k02_whole_numbers_in_order
set_option Elab.async false
set_option linter.all false
set_option maxRecDepth 100000
set_option maxHeartbeats 4000000

/-! W0: what all my proofs share: callees by name (Has), steps that walk a reading (walk_at "w"), wide rules. -/
namespace L2.My
open PySem PySem.Spec PyProof.Rows

/-! ### callees by name -/
section
variable (P : Program) (w : World) (K : PySem.W.Frag) (mg : Str → Option Value) (base : Heap)
/-- a def of the module that keeps a promise -/
def Has (x : Str) (k : Nat) (ps : List Str) (sp : Sp) : Prop :=
  ∃ f fd, FnOk P w K mg base (L2.CX P w) k f fd ps sp ∧ mg x = some (.ref f) ∧ PySem.W.keepIn K (.ref f) = true ∧ Binds K fd ps []
/-- a method -/
def HasM (C : Addr) (m : Str) (k : Nat) (ps : List Str) (sp : Sp) : Prop :=
  ∃ f fd, FnOk P w K mg base (L2.CX P w) k f fd ps sp ∧ Meth K C m f ∧ Binds K fd ps []
/-- a class that is made -/
def HasC (x : Str) (C : Addr) (k : Nat) (ps : List Str) (sp : Sp) : Prop :=
  ∃ f fd, FnOk P w K mg base (L2.CX P w) k f fd ps sp ∧ Mk K C f ∧ mg x = some (.ref C) ∧ Binds K fd ps []
end
section
variable {X : Cx} {x m : Str} {k j : Nat} {ps : List Str} {sp : Sp} {E : St → XK} {e o : Expr} {es : List Expr} {t : TA} {ta : TE} {p pos apos : Pos} {C f : Addr} {fd : FuncData}
/-- nothing is let out -/
theorem pa0 : ∀ σ, PassesAt (L2.CX X.prog X.w) X σ ((fun _ => E0 : St → XK) σ) := fun σ pins H s e s' I h => passL pins σ H s e s' I h
/-- what is wished at the slots -/
theorem paW {W : WX} (tk : Takes X W) : ∀ σ, PassesAt (L2.CX X.prog X.w) X σ (WE W σ) := fun σ => passAt tk σ
/-- what the def wishes of an exception -/
abbrev ED (E : XK) : St → XK := WE (fun cls d _ H => E cls d H)
theorem pe_h (h : Has X.prog X.w X.K X.mg X.base x k ps sp) (hr : Room j X.A) (hx : ∀ σ, PassesAt (L2.CX X.prog X.w) X σ (E σ)) (ha : PA X (e :: es) t) (hj : k ≤ j := by decide) (hg : Gl X x := by rfl) (hdb : (x == ("__debug__" : Str)) = false := by decide)
    (he : starEach (e :: es) X.env = (false, eval e X.env) :: starEach es X.env := by rfl) (hpl : (backTo pos (starEach es X.env)).any (·.1) = false := by rfl) :
    PE X (.Call (.Name x p) (e :: es) [] pos) (tCallS sp E t) := by
  obtain ⟨f, fd, F, hm, hk, hb⟩ := h
  exact pe_callS F (hr.mono hj) hg hm hk hb hx ha hdb he hpl
theorem pe_h0 (h : Has X.prog X.w X.K X.mg X.base x k ps sp) (hr : Room j X.A) (hx : ∀ σ, PassesAt (L2.CX X.prog X.w) X σ (E σ)) (hj : k ≤ j := by decide) (hg : Gl X x := by rfl) (hdb : (x == ("__debug__" : Str)) = false := by decide) :
    PE X (.Call (.Name x p) [] [] pos) (tCallS sp E tNil) := by
  obtain ⟨f, fd, F, hm, hk, hb⟩ := h
  refine ⟨fun pins s σ H Q I hh => ?_⟩
  refine wpAny_Call_Name_kw (ld_glob I hg hm ?_ hdb)
  exact PySem.W.callWith_K0 I.kIn hk (run_fnS (us := []) F (hr.mono hj) hb (hx σ) I .nil hh)
/-- C(..) -/
theorem run_makeS {pins : List (Addr × Obj)} {σ : St} {H : Hp} {s : Shared} {Q : VK} {us : List Value} {vs : List V} (M : Mk X.K C f) (F : FnOk X.prog X.w X.K X.mg X.base (L2.CX X.prog X.w) k f fd ps sp) (hr : Room (k + 1) X.A) (hb : Binds X.K fd ps [])
    (hx : PassesAt (L2.CX X.prog X.w) X σ (E σ)) (I : Inv X pins σ H s) (r : Vals vs us)
    (h : ∀ x dx, H x = none → H dx = none → dx ≠ x → sp (.ref x :: vs) (upd (upd H dx (.own x)) x (.ins C dx [])) (fun v H2 => v = .non ∧ Q (.ref x) H2) (E σ)) :
    wpAny (model X.prog X.w) X.A (call (.ref C) us) (EP X pins σ Q) X.xe s := by
  have hq := h (s.heap.objs.size + 1) s.heap.objs.size (I.hok.fresh (Nat.le_succ _)) (I.hok.fresh (Nat.le_refl _)) (Nat.ne_of_lt (Nat.lt_succ_self _))
  have I2 := Inv.made (C := C) I
  have r2 : Vals (V.ref (s.heap.objs.size + 1) :: vs) (Value.ref (s.heap.objs.size + 1) :: us) := .cons rfl r
  have hl : (Value.ref (s.heap.objs.size + 1) :: us).length = ps.length := by
    have e := r2.length
    rw [F.len _ _ _ _ hq] at e
    exact e.symm
  have bb := hb _ (Value.ref (s.heap.objs.size + 1) :: us) I2.kIn (by rw [List.append_nil]; exact hl)
  rw [List.append_nil] at bb
  refine wpAny_call (make_map (f := f) I.kIn M.makes M.init (beq_iff_eq.mp M.fn) (codeAny_mono (F.run _ X.stack _ _ ⟨Value.ref (s.heap.objs.size + 1) :: us, []⟩ (Value.ref (s.heap.objs.size + 1) :: us) _ _ (E σ) (hr.make C us [])
    (I2.env0.make C us []) bb r2 hq) fun r s' hq' => ?_))
  cases r with
  | error e => exact hx pins _ _ e s' I2 hq'
  | ok fl =>
    cases fl with
    | ret u =>
      obtain ⟨v, H', I3, rv, ev, q3⟩ := I2.after hq'
      subst ev
      exact ⟨rv, ⟨V.ref (s.heap.objs.size + 1), H', I3, rfl, q3⟩⟩
    | next => exact False.elim hq'
    | brk => exact False.elim hq'
    | cont => exact False.elim hq'
def tMakeS (C : Addr) (sp : Sp) (E : St → XK) (t : TA) : TE := fun σ H Q => t σ H fun vs H1 => ∀ x dx, H1 x = none → H1 dx = none → dx ≠ x →
  sp (.ref x :: vs) (upd (upd H1 dx (.own x)) x (.ins C dx [])) (fun v H2 => v = .non ∧ Q (.ref x) H2) (E σ)
theorem pe_hc (h : HasC X.prog X.w X.K X.mg X.base x C k ps sp) (hr : Room j X.A) (hx : ∀ σ, PassesAt (L2.CX X.prog X.w) X σ (E σ)) (ha : PA X (e :: es) t) (hj : k + 1 ≤ j := by decide) (hg : Gl X x := by rfl) (hdb : (x == ("__debug__" : Str)) = false := by decide)
    (he : starEach (e :: es) X.env = (false, eval e X.env) :: starEach es X.env := by rfl) (hpl : (backTo pos (starEach es X.env)).any (·.1) = false := by rfl) :
    PE X (.Call (.Name x p) (e :: es) [] pos) (tMakeS C sp E t) := by
  obtain ⟨f, fd, F, M, hm, hb⟩ := h
  refine ⟨fun pins s σ H Q I h => ?_⟩
  refine wpAny_Call_Name_kw (ld_glob I hg hm ?_ hdb)
  refine PySem.W.callWith_K (h₀ := X.base) I.ok.mod.kin M.kp (thn (ha.run pos pins s σ H _ I h) fun us s1 ⟨vs, H1, I1, r, q⟩ => ⟨I1.kIn, ?_⟩) he hpl
  exact run_makeS M F (hr.mono hj) hb (hx σ) I1 r q
/-- o.m(..) -/
def tMethS (C : Addr) (m : Str) (sp : Sp) (E : St → XK) (ta : TE) (t : TA) : TE := fun σ H Q => ta σ H fun x H1 => ∃ a dx fs, x = .ref a ∧ H1 a = some (.ins C dx fs) ∧ fs.lookup m = none ∧
  t σ H1 fun vs H2 => sp (x :: vs) H2 Q (E σ)
theorem pe_hm {pl : Sem Bool} (h : HasM X.prog X.w X.K X.mg X.base C m k ps sp) (c : Cls X.K C) (hr : Room j X.A) (hx : ∀ σ, PassesAt (L2.CX X.prog X.w) X σ (E σ)) (ho : PE X o ta) (ha : PA X (e :: es) t) (hj : k ≤ j := by decide)
    (hst : starEach (e :: es) X.env = (false, eval e X.env) :: starEach es X.env := by rfl) (hpl : (backTo pos (starEach es X.env)).any (·.1) = false := by rfl)
    (ht : eval (.Call (.Attribute o m apos) (e :: es) [] pos) X.env = (do
      let ov ← eval o X.env
      standAt apos.atName
      let (f, first) ← holding [ov] (getMethod ov m pl)
      callWith pos f first (backTo pos (starEach (e :: es) X.env)) (backToKw pos (keywordEach [] X.env))) := by rfl) :
    PE X (.Call (.Attribute o m apos) (e :: es) [] pos) (tMethS C m sp E ta t) := by
  obtain ⟨f, fd, F, hm, hb⟩ := h
  refine ⟨fun pins s σ H Q I h => ?_⟩
  refine PySem.W.methodCall_KW (pl := pl) (thn (ho.run pins s σ H _ I h) fun u s1 ⟨x, H1, I1, rx, a, dx, fs, ex, ea, l, q⟩ => ?_) ht
  subst ex
  obtain rfl : u = Value.ref a := rx
  refine getmeth_ok I1 ea c hm l ?_
  refine PySem.W.callWith_K (first := [.ref a]) (h₀ := X.base) I.ok.mod.kin hm.kp (thn (ha.run pos pins s1 σ H1 _ I1 q) fun us s2 ⟨vs, H2, I2, r, q2⟩ => ⟨I2.kIn, ?_⟩) hst hpl
  exact run_fnS (us := .ref a :: us) (vs := .ref a :: vs) F (hr.mono hj) hb (hx σ) I2 (.cons rfl r) q2
theorem pe_hm0 {pl : Sem Bool} (h : HasM X.prog X.w X.K X.mg X.base C m k ps sp) (c : Cls X.K C) (hr : Room j X.A) (hx : ∀ σ, PassesAt (L2.CX X.prog X.w) X σ (E σ)) (ho : PE X o ta) (hj : k ≤ j := by decide)
    (ht : eval (.Call (.Attribute o m apos) [] [] pos) X.env = (do
      let ov ← eval o X.env
      standAt apos.atName
      let (f, first) ← holding [ov] (getMethod ov m pl)
      callWith pos f first (backTo pos (starEach [] X.env)) (backToKw pos (keywordEach [] X.env))) := by rfl) :
    PE X (.Call (.Attribute o m apos) [] [] pos) (tMethS C m sp E ta tNil) := by
  obtain ⟨f, fd, F, hm, hb⟩ := h
  refine ⟨fun pins s σ H Q I h => ?_⟩
  refine PySem.W.methodCall_KW (pl := pl) (thn (ho.run pins s σ H _ I h) fun u s1 ⟨x, H1, I1, rx, a, dx, fs, ex, ea, l, q⟩ => ?_) ht
  subst ex
  obtain rfl : u = Value.ref a := rx
  refine getmeth_ok I1 ea c hm l ?_
  exact PySem.W.callWith_K0 (first := [.ref a]) I1.kIn hm.kp (run_fnS (us := [.ref a]) (vs := [.ref a]) F (hr.mono hj) hb (hx σ) I1 (.cons rfl .nil) q)
end

/-! ### numbers of any size -/
/-- // by what is not 0, below 2 ^ 9000 in size -/
def CDivN9 (_ j : Int) : Prop := j ≠ 0 ∧ j.natAbs.log2 < 9000
section
variable {X : Cx}
theorem op_fdivV : OpR X (binaryOp .FloorDiv) (rI CDivN9 fun i j => .int (i.fdiv j)) := opI fun i j _ _ _ _ _ hc q =>
  floordiv_int hc.1 q (.inl (PyProof.noPylong_of_log2 hc.2))
end

/-! ### steps that walk a reading -/
section
variable {σ σ' : St} {H : Hp} {v x y : V} {i j : Int} {n : Nat} {b : Bool} {ta tb te : TE} {t u : TT} {ts us : TS} {r : R2} {D : Ends} {Q : VK} {QB : Bool → Hp → Prop} {QL : List V → Hp → Prop} {tl : TA}
theorem w_var (h : σ[n]? = some (some v)) (q : Q v H) : tVar n σ H Q := ⟨v, h, q⟩
theorem w_c (q : Q v H) : tC v σ H Q := q
theorem w_op (q : ta σ H fun x H1 => tb σ H1 fun y H2 => r x y H2 Q) : tOp r ta tb σ H Q := q
theorem w_un {r : V → Hp → VK → Prop} (q : ta σ H fun x H1 => r x H1 Q) : tUn r ta σ H Q := q
theorem w_I0 {g : Int → Int → V} (q : Q (g i j) H) : rI0 g (.int i) (.int j) H Q := ⟨i, j, rfl, rfl, q⟩
theorem w_I {C : Int → Int → Prop} {g : Int → Int → V} (c : C i j) (q : Q (g i j) H) : rI C g (.int i) (.int j) H Q := ⟨i, j, rfl, rfl, c, q⟩
theorem w_U {g : Int → V} (q : Q (g i) H) : rU g (.int i) H Q := ⟨i, rfl, q⟩
theorem w_eq (h : scal x y = true) (q : Q (.bl (decide (x = y))) H) : rEq x y H Q := ⟨h, q⟩
theorem w_ne (h : scal x y = true) (q : Q (.bl (!decide (x = y))) H) : rNe x y H Q := ⟨h, q⟩
theorem w_test (q : te σ H fun x H' => ∃ k, x = .bl k ∧ QB k H') : tTest te σ H QB := q
theorem w_B (q : te σ H fun x H' => ∃ k, x = .bl k ∧ QB k H') : tB te σ H QB := q
theorem w_bl (q : QB b H) : ∃ k, V.bl b = .bl k ∧ QB k H := ⟨b, rfl, q⟩
theorem w_and (q : t σ H fun c H1 => if c = true then u σ H1 QB else QB false H1) : tAnd t u σ H QB := q
theorem w_or (q : t σ H fun c H1 => if c = true then QB true H1 else u σ H1 QB) : tOr t u σ H QB := q
theorem w_not (q : t σ H fun c H1 => QB (!c) H1) : tNot t σ H QB := q
theorem w_andV (q : ta σ H fun x H1 => ∃ c, x = .bl c ∧ if c = true then tb σ H1 Q else Q (.bl false) H1) : tAndV ta tb σ H Q := q
theorem w_orV (q : ta σ H fun x H1 => ∃ c, x = .bl c ∧ if c = true then Q (.bl true) H1 else tb σ H1 Q) : tOrV ta tb σ H Q := q
theorem w_notV (q : ta σ H fun x H1 => ∃ c, x = .bl c ∧ Q (.bl (!c)) H1) : tNotV ta σ H Q := q
theorem w_blV {p : Bool → Prop} (q : p b) : ∃ c, V.bl b = .bl c ∧ p c := ⟨b, rfl, q⟩
theorem w_seq {nx bk ct : L2.St → Hp → Prop} {rt : VK} (q : ts ⟨us ⟨nx, rt, bk, ct⟩, rt, bk, ct⟩ σ H) : tSeq ts us ⟨nx, rt, bk, ct⟩ σ H := q
theorem w_next {nx bk ct : L2.St → Hp → Prop} {rt : VK} (q : nx σ H) : tNext ⟨nx, rt, bk, ct⟩ σ H := q
theorem w_asg {g : TG} {nx bk ct : L2.St → Hp → Prop} {rt : VK} (q : te σ H fun x H1 => g x σ H1 nx) : tAsg te g ⟨nx, rt, bk, ct⟩ σ H := q
theorem w_drop {nx bk ct : L2.St → Hp → Prop} {rt : VK} (q : te σ H fun _ H1 => nx σ H1) : tDrop te ⟨nx, rt, bk, ct⟩ σ H := q
theorem w_ret {nx bk ct : L2.St → Hp → Prop} {rt : VK} (q : te σ H rt) : tRet te ⟨nx, rt, bk, ct⟩ σ H := q
theorem w_if {c : TT} (q : c σ H fun b H1 => if b = true then ts D σ H1 else us D σ H1) : tIfS c ts us D σ H := q
theorem w_name {N : St → Hp → Prop} (h : σ.set n (some v) = σ') (q : N σ' H) : gName n v σ H N := by rw [← h] at q; exact q
theorem w_nil (q : QL [] H) : tNil σ H QL := q
theorem w_cons (q : te σ H fun x H1 => tl σ H1 fun xs H2 => QL (x :: xs) H2) : tCons te tl σ H QL := q
theorem w_T {A B : Prop} {c : Bool} (h : c = true) (q : A) : if c = true then A else B := by rw [h]; exact iteT q
theorem w_F {A B : Prop} {c : Bool} (h : c = false) (q : B) : if c = true then A else B := by rw [h]; exact iteF q
theorem w_ite {c A B : Prop} [Decidable c] (h1 : c → A) (h2 : ¬ c → B) : if decide c = true then A else B := by
  by_cases h : c
  · rw [decide_eq_true h]; exact iteT (h1 h)
  · rw [decide_eq_false h]; exact iteF (h2 h)
theorem w_call {sp : Sp} {E : St → XK} (q : tl σ H fun vs H1 => sp vs H1 Q (E σ)) : tCallS sp E tl σ H Q := q
theorem w_cb {r : List V → Hp → VK → Prop} (q : tl σ H fun vs H1 => r vs H1 Q) : tCB r tl σ H Q := q
theorem set0 {a0 : Option V} {l : St} : (a0 :: l).set 0 (some v) = some v :: l := rfl
theorem set1 {a0 a1 : Option V} {l : St} : (a0 :: a1 :: l).set 1 (some v) = a0 :: some v :: l := rfl
theorem set2 {a0 a1 a2 : Option V} {l : St} : (a0 :: a1 :: a2 :: l).set 2 (some v) = a0 :: a1 :: some v :: l := rfl
theorem set3 {a0 a1 a2 a3 : Option V} {l : St} : (a0 :: a1 :: a2 :: a3 :: l).set 3 (some v) = a0 :: a1 :: a2 :: some v :: l := rfl
theorem set4 {a0 a1 a2 a3 a4 : Option V} {l : St} : (a0 :: a1 :: a2 :: a3 :: a4 :: l).set 4 (some v) = a0 :: a1 :: a2 :: a3 :: some v :: l := rfl
theorem set5 {a0 a1 a2 a3 a4 a5 : Option V} {l : St} : (a0 :: a1 :: a2 :: a3 :: a4 :: a5 :: l).set 5 (some v) = a0 :: a1 :: a2 :: a3 :: a4 :: some v :: l := rfl
theorem set6 {a0 a1 a2 a3 a4 a5 a6 : Option V} {l : St} : (a0 :: a1 :: a2 :: a3 :: a4 :: a5 :: a6 :: l).set 6 (some v) = a0 :: a1 :: a2 :: a3 :: a4 :: a5 :: some v :: l := rfl
theorem set7 {a0 a1 a2 a3 a4 a5 a6 a7 : Option V} {l : St} : (a0 :: a1 :: a2 :: a3 :: a4 :: a5 :: a6 :: a7 :: l).set 7 (some v) = a0 :: a1 :: a2 :: a3 :: a4 :: a5 :: a6 :: some v :: l := rfl
theorem set8 {a0 a1 a2 a3 a4 a5 a6 a7 a8 : Option V} {l : St} : (a0 :: a1 :: a2 :: a3 :: a4 :: a5 :: a6 :: a7 :: a8 :: l).set 8 (some v) = a0 :: a1 :: a2 :: a3 :: a4 :: a5 :: a6 :: a7 :: some v :: l := rfl
theorem set9 {a0 a1 a2 a3 a4 a5 a6 a7 a8 a9 : Option V} {l : St} : (a0 :: a1 :: a2 :: a3 :: a4 :: a5 :: a6 :: a7 :: a8 :: a9 :: l).set 9 (some v) = a0 :: a1 :: a2 :: a3 :: a4 :: a5 :: a6 :: a7 :: a8 :: some v :: l := rfl
theorem set10 {a0 a1 a2 a3 a4 a5 a6 a7 a8 a9 a10 : Option V} {l : St} : (a0 :: a1 :: a2 :: a3 :: a4 :: a5 :: a6 :: a7 :: a8 :: a9 :: a10 :: l).set 10 (some v) = a0 :: a1 :: a2 :: a3 :: a4 :: a5 :: a6 :: a7 :: a8 :: a9 :: some v :: l := rfl
theorem set11 {a0 a1 a2 a3 a4 a5 a6 a7 a8 a9 a10 a11 : Option V} {l : St} : (a0 :: a1 :: a2 :: a3 :: a4 :: a5 :: a6 :: a7 :: a8 :: a9 :: a10 :: a11 :: l).set 11 (some v) = a0 :: a1 :: a2 :: a3 :: a4 :: a5 :: a6 :: a7 :: a8 :: a9 :: a10 :: some v :: l := rfl
theorem set12 {a0 a1 a2 a3 a4 a5 a6 a7 a8 a9 a10 a11 a12 : Option V} {l : St} : (a0 :: a1 :: a2 :: a3 :: a4 :: a5 :: a6 :: a7 :: a8 :: a9 :: a10 :: a11 :: a12 :: l).set 12 (some v) = a0 :: a1 :: a2 :: a3 :: a4 :: a5 :: a6 :: a7 :: a8 :: a9 :: a10 :: a11 :: some v :: l := rfl
theorem set13 {a0 a1 a2 a3 a4 a5 a6 a7 a8 a9 a10 a11 a12 a13 : Option V} {l : St} : (a0 :: a1 :: a2 :: a3 :: a4 :: a5 :: a6 :: a7 :: a8 :: a9 :: a10 :: a11 :: a12 :: a13 :: l).set 13 (some v) = a0 :: a1 :: a2 :: a3 :: a4 :: a5 :: a6 :: a7 :: a8 :: a9 :: a10 :: a11 :: a12 :: some v :: l := rfl
theorem set14 {a0 a1 a2 a3 a4 a5 a6 a7 a8 a9 a10 a11 a12 a13 a14 : Option V} {l : St} : (a0 :: a1 :: a2 :: a3 :: a4 :: a5 :: a6 :: a7 :: a8 :: a9 :: a10 :: a11 :: a12 :: a13 :: a14 :: l).set 14 (some v) = a0 :: a1 :: a2 :: a3 :: a4 :: a5 :: a6 :: a7 :: a8 :: a9 :: a10 :: a11 :: a12 :: a13 :: some v :: l := rfl
theorem set15 {a0 a1 a2 a3 a4 a5 a6 a7 a8 a9 a10 a11 a12 a13 a14 a15 : Option V} {l : St} : (a0 :: a1 :: a2 :: a3 :: a4 :: a5 :: a6 :: a7 :: a8 :: a9 :: a10 :: a11 :: a12 :: a13 :: a14 :: a15 :: l).set 15 (some v) = a0 :: a1 :: a2 :: a3 :: a4 :: a5 :: a6 :: a7 :: a8 :: a9 :: a10 :: a11 :: a12 :: a13 :: a14 :: some v :: l := rfl
theorem set16 {a0 a1 a2 a3 a4 a5 a6 a7 a8 a9 a10 a11 a12 a13 a14 a15 a16 : Option V} {l : St} : (a0 :: a1 :: a2 :: a3 :: a4 :: a5 :: a6 :: a7 :: a8 :: a9 :: a10 :: a11 :: a12 :: a13 :: a14 :: a15 :: a16 :: l).set 16 (some v) = a0 :: a1 :: a2 :: a3 :: a4 :: a5 :: a6 :: a7 :: a8 :: a9 :: a10 :: a11 :: a12 :: a13 :: a14 :: a15 :: some v :: l := rfl
theorem set17 {a0 a1 a2 a3 a4 a5 a6 a7 a8 a9 a10 a11 a12 a13 a14 a15 a16 a17 : Option V} {l : St} : (a0 :: a1 :: a2 :: a3 :: a4 :: a5 :: a6 :: a7 :: a8 :: a9 :: a10 :: a11 :: a12 :: a13 :: a14 :: a15 :: a16 :: a17 :: l).set 17 (some v) = a0 :: a1 :: a2 :: a3 :: a4 :: a5 :: a6 :: a7 :: a8 :: a9 :: a10 :: a11 :: a12 :: a13 :: a14 :: a15 :: a16 :: some v :: l := rfl
theorem set18 {a0 a1 a2 a3 a4 a5 a6 a7 a8 a9 a10 a11 a12 a13 a14 a15 a16 a17 a18 : Option V} {l : St} : (a0 :: a1 :: a2 :: a3 :: a4 :: a5 :: a6 :: a7 :: a8 :: a9 :: a10 :: a11 :: a12 :: a13 :: a14 :: a15 :: a16 :: a17 :: a18 :: l).set 18 (some v) = a0 :: a1 :: a2 :: a3 :: a4 :: a5 :: a6 :: a7 :: a8 :: a9 :: a10 :: a11 :: a12 :: a13 :: a14 :: a15 :: a16 :: a17 :: some v :: l := rfl
theorem set19 {a0 a1 a2 a3 a4 a5 a6 a7 a8 a9 a10 a11 a12 a13 a14 a15 a16 a17 a18 a19 : Option V} {l : St} : (a0 :: a1 :: a2 :: a3 :: a4 :: a5 :: a6 :: a7 :: a8 :: a9 :: a10 :: a11 :: a12 :: a13 :: a14 :: a15 :: a16 :: a17 :: a18 :: a19 :: l).set 19 (some v) = a0 :: a1 :: a2 :: a3 :: a4 :: a5 :: a6 :: a7 :: a8 :: a9 :: a10 :: a11 :: a12 :: a13 :: a14 :: a15 :: a16 :: a17 :: a18 :: some v :: l := rfl
theorem set20 {a0 a1 a2 a3 a4 a5 a6 a7 a8 a9 a10 a11 a12 a13 a14 a15 a16 a17 a18 a19 a20 : Option V} {l : St} : (a0 :: a1 :: a2 :: a3 :: a4 :: a5 :: a6 :: a7 :: a8 :: a9 :: a10 :: a11 :: a12 :: a13 :: a14 :: a15 :: a16 :: a17 :: a18 :: a19 :: a20 :: l).set 20 (some v) = a0 :: a1 :: a2 :: a3 :: a4 :: a5 :: a6 :: a7 :: a8 :: a9 :: a10 :: a11 :: a12 :: a13 :: a14 :: a15 :: a16 :: a17 :: a18 :: a19 :: some v :: l := rfl
theorem set21 {a0 a1 a2 a3 a4 a5 a6 a7 a8 a9 a10 a11 a12 a13 a14 a15 a16 a17 a18 a19 a20 a21 : Option V} {l : St} : (a0 :: a1 :: a2 :: a3 :: a4 :: a5 :: a6 :: a7 :: a8 :: a9 :: a10 :: a11 :: a12 :: a13 :: a14 :: a15 :: a16 :: a17 :: a18 :: a19 :: a20 :: a21 :: l).set 21 (some v) = a0 :: a1 :: a2 :: a3 :: a4 :: a5 :: a6 :: a7 :: a8 :: a9 :: a10 :: a11 :: a12 :: a13 :: a14 :: a15 :: a16 :: a17 :: a18 :: a19 :: a20 :: some v :: l := rfl
theorem set22 {a0 a1 a2 a3 a4 a5 a6 a7 a8 a9 a10 a11 a12 a13 a14 a15 a16 a17 a18 a19 a20 a21 a22 : Option V} {l : St} : (a0 :: a1 :: a2 :: a3 :: a4 :: a5 :: a6 :: a7 :: a8 :: a9 :: a10 :: a11 :: a12 :: a13 :: a14 :: a15 :: a16 :: a17 :: a18 :: a19 :: a20 :: a21 :: a22 :: l).set 22 (some v) = a0 :: a1 :: a2 :: a3 :: a4 :: a5 :: a6 :: a7 :: a8 :: a9 :: a10 :: a11 :: a12 :: a13 :: a14 :: a15 :: a16 :: a17 :: a18 :: a19 :: a20 :: a21 :: some v :: l := rfl
theorem set23 {a0 a1 a2 a3 a4 a5 a6 a7 a8 a9 a10 a11 a12 a13 a14 a15 a16 a17 a18 a19 a20 a21 a22 a23 : Option V} {l : St} : (a0 :: a1 :: a2 :: a3 :: a4 :: a5 :: a6 :: a7 :: a8 :: a9 :: a10 :: a11 :: a12 :: a13 :: a14 :: a15 :: a16 :: a17 :: a18 :: a19 :: a20 :: a21 :: a22 :: a23 :: l).set 23 (some v) = a0 :: a1 :: a2 :: a3 :: a4 :: a5 :: a6 :: a7 :: a8 :: a9 :: a10 :: a11 :: a12 :: a13 :: a14 :: a15 :: a16 :: a17 :: a18 :: a19 :: a20 :: a21 :: a22 :: some v :: l := rfl
end
end L2.My

/-! W1: own ==, reflected ==, own minus in front; gcd of three; raising an own error; is of bools. -/
namespace L2.My
open PySem PySem.Spec PyProof.Rows PySem.SeqAt
open AutoSeq1 (wpAny_loadPart')

/-! ### the type of a value that is known -/
section
variable {X : Cx} {pins : List (Addr × Obj)} {σ : St} {H : Hp} {s : Shared} {y : V} {u t : Value}
theorem looks_ty (I : Inv X pins σ H s) (ru : RelV y u) (ty : TyX X.K H y t) : PySem.W.Looks (model X.prog X.w) s.heap (typeOf u) t := by
  obtain ⟨P, Z, p, _⟩ := kit_of I ru ty
  exact Z.ty _ _ I.kIn p
end

/-! ### x op y by x's own def -/
section
variable {X : Cx} {C : Addr} {k j : Nat} {ps : List Str} {sp : Sp} {E : XK} {m : Str}
def rOwnC (K : PySem.W.Frag) (C : Addr) (sp : Sp) (E : XK) : R2 := fun x y H Q => ∃ a dx fs t, x = .ref a ∧ H a = some (.ins C dx fs) ∧ TyX K H y t ∧ PySem.W.notFirst K C t = true ∧ sp [x, y] H Q E
theorem op_ownC {op : CmpOp} (hop : ∀ a b, compareOp op a b = richCompare op a b) (h : HasM X.prog X.w X.K X.mg X.base C (cmpInfo op).2.1 k ps sp) (hr : Room j X.A) (hx : Passes (L2.CX X.prog X.w) X E) (hj : k ≤ j := by decide) :
    OpR X (compareOp op) (rOwnC X.K C sp E) := by
  obtain ⟨f, fd, Fo, hm, hb⟩ := h
  intro pins s σ H x y v u Q I rx ry hh
  obtain ⟨a, dx, fs, t, rfl, ha, ty, hn, q⟩ := hh
  cases (show v = Value.ref a from rx)
  obtain ⟨mA, O, _⟩ := ins_get I.hok ha
  obtain ⟨od, J, _⟩ := O.look
  have hb' := looks_ty I ry ty
  obtain ⟨m, hF⟩ := I.fr
  rw [hop]
  refine PySem.W.cmp_K (op := op) (tb := t) hr.units0 hF I.ok.mod.kin J hb' hn hm.at_ hm.fn ?_
  refine wpAny_mono (run_fn Fo (hr.mono hj) hb .nil hx I (.cons rx (.cons ry .nil)) q) (fun w s' z => ?_) fun _ _ x => x
  obtain ⟨z', H', I', rz, qz⟩ := z
  exact SlX.cmpback rz ⟨z', H', I', rz, qz⟩
theorem op_eqC (h : HasM X.prog X.w X.K X.mg X.base C "__eq__" k ps sp) (hr : Room j X.A) (hx : Passes (L2.CX X.prog X.w) X E) (hj : k ≤ j := by decide) :
    OpR X (compareOp .Eq) (rOwnC X.K C sp E) := op_ownC (fun _ _ => rfl) h hr hx hj

/-! ### an int or a bool == an instance: the instance's own def, turned about -/
theorem int_eq_declines_ins_int (b : Int) (u : Tok) (l C dx : Addr) :
    Meets (Builtin.«int.__eq__» ⟨[.int b u, .ref l], []⟩) (fun _ R s => s.heap.get? l = some (PySem.W.instObj C dx) ∧ R (.ok (.ret .notImplemented)) s) :=
  .of_wp fun prog w A R s h => by obtain ⟨hp, g, d, tk, os⟩ := s; obtain ⟨hl, h⟩ := h; wp_walk using wpAny_loadPart' hl, wpAny_load hl; exact ⟨_, rfl, h⟩
theorem int_eq_declines_ins_bool (b : Bool) (l C dx : Addr) :
    Meets (Builtin.«int.__eq__» ⟨[.bool b, .ref l], []⟩) (fun _ R s => s.heap.get? l = some (PySem.W.instObj C dx) ∧ R (.ok (.ret .notImplemented)) s) :=
  .of_wp fun prog w A R s h => by obtain ⟨hp, g, d, tk, os⟩ := s; obtain ⟨hl, h⟩ := h; wp_walk using wpAny_loadPart' hl, wpAny_load hl; exact ⟨_, rfl, h⟩

theorem rc_refl {prog : Program} {w : World} {A : Around} {E : Value → Shared → Prop} {s : Shared} {K : PySem.W.Frag} {x C f : Addr} {ox : Obj} {od : Option Obj} {b : Value} {T : String} {Q : Value → Shared → Prop} (hu : A.units < cLine) (X : K.In s.heap) (I : PySem.W.InstAt s.heap x ox C od)
    (hb : s.TypeIs b T) (hsub : PySem.W.subIn K (.ref C) (.type T) = some false) (hs : PySem.W.findIn K (.ref C) "__eq__" = some (some (.ref f))) (hf : PySem.W.isFn K (.ref f) = true)
    (hd : ∀ Q' : Option Value → Shared → Prop, Q' none s → wpAny (model prog w) A (tryCompare b "__eq__" (.ref x)) Q' E s)
    (h : wpAny (model prog w) A (call (.ref f) [.ref x, b]) (PySem.W.CmpBack Q) E s) : wpAny (model prog w) A (richCompare .Eq b (.ref x)) Q E s := by
  have one : wpAny (model prog w) A (tryCompare (.ref x) "__eq__" b) (fun r s' => ∃ v, r = some v ∧ Q v s') E s := by
    unfold tryCompare
    refine wpAny_bind (PySem.W.ifBound_K X I hs hf (wpAny_mono h (fun v s' hv => ?_) fun _ _ e => e))
    cases v <;> first | exact hv.elim | exact wpAny_pure ⟨_, rfl, hv⟩
  have ot : oneThing? .Eq b (.ref x) = none := hb.oneThing_none _ _
  have hne : (Value.type T != Value.ref C) = true := rfl
  unfold richCompare
  rw [ot]
  refine wpAny_holding (wpAny_bind (wpAny_cRoomFor hu ?_))
  refine wpAny_bind (wpAny_typeOf hb (wpAny_bind (I.type.here ?_)))
  simp only [hne, if_true]
  refine wpAny_bind ((PySem.W.looks_subIn X hsub).here ?_)
  simp only [cmpInfo, Bool.false_eq_true, if_false, Bool.not_false, if_true]
  refine wpAny_bind (hd _ ?_)
  refine wpAny_bind (wpAny_mono one (fun r s' z => ?_) fun _ _ e => e)
  obtain ⟨v, rfl, hq⟩ := z
  exact wpAny_pure hq

def rOwnR (K : PySem.W.Frag) (C : Addr) (sp : Sp) (E : XK) : R2 := fun x y H Q => ∃ a dx fs, y = .ref a ∧ H a = some (.ins C dx fs) ∧
  ((∃ i, x = .int i) ∧ PySem.W.subIn K (.ref C) (.type "int") = some false ∨ (∃ b, x = .bl b) ∧ PySem.W.subIn K (.ref C) (.type "bool") = some false) ∧ sp [y, x] H Q E
theorem op_eqR (h : HasM X.prog X.w X.K X.mg X.base C "__eq__" k ps sp) (hr : Room j X.A) (hx : Passes (L2.CX X.prog X.w) X E) (hj : k ≤ j := by decide) :
    OpR X (compareOp .Eq) (rOwnR X.K C sp E) := by
  obtain ⟨f, fd, Fo, hm, hb⟩ := h
  intro pins s σ H x y v u Q I rx ry hh
  obtain ⟨a, dx, fs, rfl, ha, hxx, q⟩ := hh
  cases (show u = Value.ref a from ry)
  obtain ⟨mA, O, _⟩ := ins_get I.hok ha
  obtain ⟨od, J, _⟩ := O.look
  have call_ : wpAny (model X.prog X.w) X.A (call (.ref f) [.ref a, v]) (PySem.W.CmpBack (EP X pins σ Q)) X.xe s := by
    refine wpAny_mono (run_fn Fo (hr.mono hj) hb .nil hx I (.cons ry (.cons rx .nil)) q) (fun w s' z => ?_) fun _ _ x => x
    obtain ⟨z', H', I', rz, qz⟩ := z
    exact SlX.cmpback rz ⟨z', H', I', rz, qz⟩
  rcases hxx with ⟨⟨i, rfl⟩, hsub⟩ | ⟨⟨b, rfl⟩, hsub⟩
  · obtain ⟨t, rfl⟩ := (show ∃ t, v = Value.int i t from rx)
    exact rc_refl hr.units0 I.kIn J (typeIs_int s i t) hsub hm.at_ hm.fn (fun Q' hq => wpAny_tryCompare_declines (typeIs_int s i t) F.slot_int_eq
      (call_meets F.slot_int_eq (typeIs_int s i t) F.entry_int_eq (F.args_int_eq_2 _ _) (int_eq_declines_ins_int i t a C dx) ⟨O.obj, rfl, hq⟩)) call_
  · cases (show v = Value.bool b from rx)
    exact rc_refl hr.units0 I.kIn J (show s.TypeIs (.bool b) "bool" from rfl) hsub hm.at_ hm.fn (fun Q' hq => wpAny_tryCompare_declines (show s.TypeIs (.bool b) "bool" from rfl) F.slot_bool_eq
      (call_meets F.slot_bool_eq rfl F.entry_int_eq (F.args_int_eq_2 _ _) (int_eq_declines_ins_bool b a C dx) ⟨O.obj, rfl, hq⟩)) call_

/-! ### -x by x's own def -/
def rOwnU (C : Addr) (sp : Sp) (E : XK) : V → Hp → VK → Prop := fun x H Q => ∃ a dx fs, x = .ref a ∧ H a = some (.ins C dx fs) ∧ sp [x] H Q E
theorem un_own (h : HasM X.prog X.w X.K X.mg X.base C "__neg__" k ps sp) (hr : Room j X.A) (hx : Passes (L2.CX X.prog X.w) X E) (hj : k ≤ j := by decide) :
    UnR X (unaryOp .USub) (rOwnU C sp E) := by
  obtain ⟨f, fd, Fo, hm, hb⟩ := h
  intro pins s σ H x v Q I rx hh
  obtain ⟨a, dx, fs, rfl, ha, q⟩ := hh
  cases (show v = Value.ref a from rx)
  obtain ⟨mA, O, _⟩ := ins_get I.hok ha
  obtain ⟨od, J, _⟩ := O.look
  obtain ⟨m, hF⟩ := I.fr
  exact PySem.W.ksp_neg hF I.ok.mod.kin J hm.at_ hm.fn (run_fn Fo (hr.mono hj) hb .nil hx I (.cons rx .nil) q)

/-! ### math.gcd of three -/
theorem args_gcd3 (a b c : Value) : argsOk "math.gcd" ⟨[a, b, c], []⟩ := by unfold argsOk; kernel_rfl
theorem mg_run_gcd3 (a : Int) (t : Tok) (b : Int) (u : Tok) (c : Int) (w : Tok) :
    Gives (Builtin.«math.gcd» ⟨[.int a t, .int b u, .int c w], []⟩) (.int ((((Nat.gcd 0 a.natAbs).gcd b.natAbs).gcd c.natAbs : Nat) : Int)) :=
  .of_wp fun M A E s Q h => by obtain ⟨hp, g, d, tk, os⟩ := s; wp_walk; exact ⟨_, rfl, h⟩
def rGcd3 : List V → Hp → VK → Prop := fun vs H Q => ∃ a b c : Int, vs = [.int a, .int b, .int c] ∧ Q (.int (((a.natAbs.gcd b.natAbs).gcd c.natAbs : Nat) : Int)) H
theorem cr_gcd3 : CallR X (.builtin "math.gcd") rGcd3 := by
  intro pins s σ H vs us Q I r h
  obtain ⟨a, b, c, rfl, q⟩ := h
  cases r with
  | cons ra r =>
    cases r with
    | cons rb r =>
      cases r with
      | cons rc r =>
        cases r
        obtain ⟨t, rfl⟩ := ra
        obtain ⟨u, rfl⟩ := rb
        obtain ⟨w, rfl⟩ := rc
        have g := mg_run_gcd3 a t b u c w
        rw [Nat.gcd_zero_left] at g
        exact call_function_meets PySem.W.MGF.kind_gcd PySem.W.MGF.plain_gcd PySem.W.MGF.entry_gcd (args_gcd3 _ _ _) g.meets ⟨.int _, H, I.tok _, ⟨_, rfl⟩, q⟩
end
end L2.My

/-! W2: where defs stand, what is known of things, Roots. -/
namespace L2.My
open PySem PySem.Spec PyProof.Rows
/-! ### where a def of the text stands behind the top -/
def AtF (K : PySem.W.Frag) (mg : Str → Option Value) (x qual : Str) (st : Stmt) (ps : List Str) : Prop := ∃ f fd, Fun K x qual st f fd ∧ Binds K fd ps [] ∧ mg x = some (.ref f)
def AtM (K : PySem.W.Frag) (C : Addr) (m qual : Str) (st : Stmt) (ps : List Str) : Prop := ∃ f fd, Fun K m qual st f fd ∧ Binds K fd ps [] ∧ Meth K C m f
def AtC (K : PySem.W.Frag) (mg : Str → Option Value) (x : Str) (C : Addr) (qual : Str) (st : Stmt) (ps : List Str) : Prop := ∃ f fd, Fun K "__init__" qual st f fd ∧ Binds K fd ps [] ∧ Mk K C f ∧ mg x = some (.ref C)
def AtX (K : PySem.W.Frag) (mg : Str → Option Value) (x : Str) (C : Addr) (qual : Str) (st : Stmt) (ps : List Str) : Prop := ∃ f fd, Fun K "__init__" qual st f fd ∧ Binds K fd ps [] ∧ mg x = some (.ref C) ∧
  PySem.W.findIn K (.ref C) "__init__" = some (some (.ref f)) ∧ PySem.W.typeIn K (.ref f) = some (.type "function")
section
variable {P : Program} {w : World} {K : PySem.W.Frag} {mg : Str → Option Value} {base : Heap} {x m qual : Str} {st : Stmt} {N ps : List Str} {k : Nat} {sp : Sp} {C : Addr}
abbrev BodyOk (P : Program) (w : World) (K : PySem.W.Frag) (mg : Str → Option Value) (base : Heap) (N : List Str) (qual : Str) (st : Stmt) (k : Nat) (sp : Sp) (f : Addr) : Prop :=
  ∀ (cdv : Value) (A : Around) (outer : List Env) (s : Shared) (H : Hp) (vs : List V) (Q : VK) (E : XK), Room k (A.deeper (envOfC qual (defScope st) s.heap.objs.size f cdv)) → sp vs H Q E →
    ∃ t, PSs (cxOf (L2.CX P w) P w K mg base N qual (defScope st) f cdv A outer s H E) (defBody st) t ∧ t { nx := fun _ H' => Q .non H', rt := Q } (start N vs) H
theorem AtF.ok (D : AtF K mg x qual st ps) (S : FnScope N ps (defScope st)) (len : ∀ vs H Q E, sp vs H Q E → vs.length = ps.length) (h : ∀ {f : Addr}, BodyOk P w K mg base N qual st k sp f) : Has P w K mg base x (k + 1) ps sp := by
  obtain ⟨f, fd, Fo, b, g⟩ := D
  exact ⟨f, fd, Fo.okX S len h, g, Fo.kp, b⟩
theorem AtM.ok (D : AtM K C m qual st ps) (S : FnScope N ps (defScope st)) (len : ∀ vs H Q E, sp vs H Q E → vs.length = ps.length) (h : ∀ {f : Addr}, BodyOk P w K mg base N qual st k sp f) : HasM P w K mg base C m (k + 1) ps sp := by
  obtain ⟨f, fd, Fo, b, g⟩ := D
  exact ⟨f, fd, Fo.okX S len h, g, b⟩
theorem AtC.ok (D : AtC K mg x C qual st ps) (S : FnScope N ps (defScope st)) (len : ∀ vs H Q E, sp vs H Q E → vs.length = ps.length) (h : ∀ {f : Addr}, BodyOk P w K mg base N qual st k sp f) : HasC P w K mg base x C (k + 1) ps sp := by
  obtain ⟨f, fd, Fo, b, g, h2⟩ := D
  exact ⟨f, fd, Fo.okX S len h, g, h2, b⟩
/-- an own error class that is made -/
def HasX (P : Program) (w : World) (K : PySem.W.Frag) (mg : Str → Option Value) (base : Heap) (x : Str) (C : Addr) (k : Nat) (ps : List Str) (sp : Sp) : Prop :=
  ∃ f fd, FnOk P w K mg base (L2.CX P w) k f fd ps sp ∧ mg x = some (.ref C) ∧ PySem.W.findIn K (.ref C) "__init__" = some (some (.ref f)) ∧ PySem.W.typeIn K (.ref f) = some (.type "function") ∧ Binds K fd ps []
theorem AtX.ok (D : AtX K mg x C qual st ps) (S : FnScope N ps (defScope st)) (len : ∀ vs H Q E, sp vs H Q E → vs.length = ps.length) (h : ∀ {f : Addr}, BodyOk P w K mg base N qual st k sp f) : HasX P w K mg base x C (k + 1) ps sp := by
  obtain ⟨f, fd, Fo, b, g, h2, h3⟩ := D
  exact ⟨f, fd, Fo.okX S len h, g, h2, h3, b⟩
end
/-- making an own error, to be raised -/
theorem pm_h {X : Cx} {x : Str} {C : Addr} {k j : Nat} {ps : List Str} {sp : Sp} {e : Expr} {es : List Expr} {ta : TA} {p pos : Pos} (T : OexC X.K C) (h : HasX X.prog X.w X.K X.mg X.base x C k ps sp) (hr : Room j X.A) (ha : PA X (e :: es) ta) (hj : k + 1 ≤ j := by decide) (hg : Gl X x := by rfl)
    (hdb : (x == ("__debug__" : Str)) = false := by decide) (he : starEach (e :: es) X.env = (false, eval e X.env) :: starEach es X.env := by rfl) (hpl : (backTo pos (starEach es X.env)).any (·.1) = false := by rfl) :
    PMk X (.Call (.Name x p) (e :: es) [] pos) (tMkO C sp [] ta) := by
  obtain ⟨f, fd, Fo, hm, iC, tI, hb⟩ := h
  exact pmk_oex T iC tI Fo (hr.mono hj) hb .nil passL hg hm ha hdb he hpl
/-! ### what is known of things -/
/-- what stands is as it was, but for the object at p -/
def SameX (p : Addr) (H H' : Hp) : Prop := ∀ b o, b ≠ p → H b = some o → H' b = some o
theorem Same.x {p : Addr} {H H' : Hp} (h : Same H H') : SameX p H H' := fun b o _ e => h b o e
theorem SameX.trans {p : Addr} {H H1 H2 : Hp} (a : SameX p H H1) (b : SameX p H1 H2) : SameX p H H2 := fun c o n e => b c o n (a c o n e)
theorem SameX.upd {p : Addr} {H H1 : Hp} {o : HO} (a : SameX p H H1) : SameX p H (upd H1 p o) := fun c u n e => by rw [upd_ne n]; exact a c u n e
theorem Same.new {H : Hp} {p : Addr} {o : HO} (h : H p = none) : Same H (upd H p o) := fun a u e => by rw [upd_ne (ne_of_none e h)]; exact e
def rootF (t r b : Int) : List (Str × V) := [("top", .int t), ("root", .int r), ("bottom", .int b)]
/-- a number as the package keeps it -/
def RootAt (c : Addr) (H : Hp) (v : V) (t r b : Int) : Prop := ∃ a dx, v = .ref a ∧ H a = some (.ins c dx (rootF t r b))
theorem RootAt.same {c : Addr} {H H' : Hp} {v : V} {t r b : Int} (h : RootAt c H v t r b) (s : Same H H') : RootAt c H' v t r b := by
  obtain ⟨a, dx, rfl, e⟩ := h
  exact ⟨a, dx, rfl, s _ _ e⟩
/-- a thing of a kind that is known -/
inductive Th (c : Addr) (H : Hp) : V → Prop
  | non : Th c H .non
  | bl (b : Bool) : Th c H (.bl b)
  | int (i : Int) : Th c H (.int i)
  | str (s : Str) : Th c H (.str s)
  | lst (a : Addr) (xs : List V) (e : H a = some (.lst xs)) : Th c H (.ref a)
  | tup (a : Addr) (xs : List V) (e : H a = some (.tup xs)) : Th c H (.ref a)
  | dK (a : Addr) (kvs : List (Key × V)) (e : H a = some (.dK kvs)) : Th c H (.ref a)
  | root (a dx : Addr) (t r b : Int) (e : H a = some (.ins c dx (rootF t r b))) : Th c H (.ref a)
theorem Th.same {c : Addr} {H H' : Hp} {v : V} (h : Th c H v) (s : Same H H') : Th c H' v := by
  cases h with
  | non => exact .non
  | bl b => exact .bl b
  | int i => exact .int i
  | str s => exact .str s
  | lst a xs e => exact .lst a xs (s _ _ e)
  | tup a xs e => exact .tup a xs (s _ _ e)
  | dK a xs e => exact .dK a xs (s _ _ e)
  | root a dx t r b e => exact .root a dx t r b (s _ _ e)
def isI : V → Bool
  | .int _ => true
  | _ => false
def isB : V → Bool
  | .bl _ => true
  | _ => false
def isC (c : Addr) (H : Hp) : V → Bool
  | .ref a => match H a with
    | some (.ins C _ _) => decide (C = c)
    | _ => false
  | _ => false
/-- what isinstance says of the kinds, for the class at C -/
structure KiT (K : PySem.W.Frag) (c : Addr) : Prop where
  ty : Cls K c
  ha : PySem.W.findIn K (.ref c) "__class__" = some (some (.builtin "object.__class__"))
  hn : PySem.W.specialIn K (.builtin "object.__class__") "__get__" = some (some (.builtin "getset_descriptor.__get__"))
  htk : PySem.W.takesIn K (.builtin "object.__class__") = some true
  hm : PySem.W.mroIn K c (.type "object") = some true
  i : PySem.W.kitOne K (.ref c) (.type "int") = some false
  b : PySem.W.kitOne K (.ref c) (.type "bool") = some false
  cc : PySem.W.kitOne K (.ref c) (.ref c) = some true
  k1 : PySem.W.kitOne K (.type "NoneType") (.ref c) = some false
  k2 : PySem.W.kitOne K (.type "bool") (.ref c) = some false
  k3 : PySem.W.kitOne K (.type "int") (.ref c) = some false
  k4 : PySem.W.kitOne K (.type "str") (.ref c) = some false
  k5 : PySem.W.kitOne K (.type "list") (.ref c) = some false
  k6 : PySem.W.kitOne K (.type "tuple") (.ref c) = some false
  k7 : PySem.W.kitOne K (.type "dict") (.ref c) = some false
  n1 : PySem.W.subIn K (.type "NoneType") (.ref c) = some false
  n2 : PySem.W.subIn K (.type "bool") (.ref c) = some false
  n3 : PySem.W.subIn K (.type "int") (.ref c) = some false
  n4 : PySem.W.subIn K (.type "str") (.ref c) = some false
  n5 : PySem.W.subIn K (.type "list") (.ref c) = some false
  n6 : PySem.W.subIn K (.type "tuple") (.ref c) = some false
  n7 : PySem.W.subIn K (.type "dict") (.ref c) = some false
  s1 : PySem.W.subIn K (.ref c) (.type "int") = some false
  s2 : PySem.W.subIn K (.ref c) (.type "bool") = some false
theorem Th.ty {K : PySem.W.Frag} {c : Addr} {H : Hp} {v : V} (h : Th c H v) (T : KiT K c) : ∃ t, TyX K H v t ∧ PySem.W.kitOne K t (.type "int") = some (isI v || isB v) ∧ PySem.W.kitOne K t (.type "bool") = some (isB v) ∧
    PySem.W.kitOne K t (.ref c) = some (isC c H v) ∧ PySem.W.notFirst K c t = true := by
  have nf : ∀ t, PySem.W.subIn K t (.ref c) = some false → PySem.W.notFirst K c t = true := fun t e => by
    unfold PySem.W.notFirst
    rw [e]
    simp
  have kb : ∀ (a b : String) (r : Bool), kitB a b = some r → PySem.W.kitOne K (.type a) (.type b) = some r := fun _ _ _ h => kit_ty h
  have ib : ∀ {a : Addr} {o : HO} (_ : H a = some o) (_ : ∀ C dx fs, o ≠ .ins C dx fs), isC c H (.ref a) = false := fun {a o} e n => by
    show (match H a with | some (.ins C _ _) => decide (C = c) | _ => false) = false
    rw [e]
    cases o <;> first | rfl | exact absurd rfl (n _ _ _)
  cases h with
  | non => exact ⟨_, .base .non, kb "NoneType" "int" false (by decide +kernel), kb "NoneType" "bool" false (by decide +kernel), T.k1, nf _ T.n1⟩
  | bl b => exact ⟨_, .base (.bl b), kb "bool" "int" true (by decide +kernel), kb "bool" "bool" true (by decide +kernel), T.k2, nf _ T.n2⟩
  | int i => exact ⟨_, .base (.int i), kb "int" "int" true (by decide +kernel), kb "int" "bool" false (by decide +kernel), T.k3, nf _ T.n3⟩
  | str s => exact ⟨_, .base (.str s), kb "str" "int" false (by decide +kernel), kb "str" "bool" false (by decide +kernel), T.k4, nf _ T.n4⟩
  | lst a xs e => exact ⟨_, .base (.lst e), kb "list" "int" false (by decide +kernel), kb "list" "bool" false (by decide +kernel), (by rw [ib e (by intros; intro q; cases q)]; exact T.k5), nf _ T.n5⟩
  | tup a xs e => exact ⟨_, .base (.tup e), kb "tuple" "int" false (by decide +kernel), kb "tuple" "bool" false (by decide +kernel), (by rw [ib e (by intros; intro q; cases q)]; exact T.k6), nf _ T.n6⟩
  | dK a xs e => exact ⟨_, .base (.dK e), kb "dict" "int" false (by decide +kernel), kb "dict" "bool" false (by decide +kernel), (by rw [ib e (by intros; intro q; cases q)]; exact T.k7), nf _ T.n7⟩
  | root a dx t r b e =>
    have ic : isC c H (.ref a) = true := by
      show (match H a with | some (.ins C _ _) => decide (C = c) | _ => false) = true
      rw [e]
      exact decide_eq_true rfl
    exact ⟨_, .base (.ins e T.ty T.ha T.hn T.htk T.hm), T.i, T.b, (by rw [ic]; exact T.cc), (by unfold PySem.W.notFirst; simp)⟩
theorem w_isi {K : PySem.W.Frag} {H : Hp} {x : V} {n : String} {t : Value} {b : Bool} {Q : VK} (ty : TyX K H x t) (k : PySem.W.kitOne K t (.type n) = some b) (q : Q (.bl b) H) : rIsi K [x, .ty n] H Q := ⟨x, .ty n, t, _, b, rfl, .ty n, ty, k, q⟩
theorem w_isiC {K : PySem.W.Frag} {H : Hp} {x : V} {c : Addr} {t : Value} {b : Bool} {Q : VK} (ty : TyX K H x t) (k : PySem.W.kitOne K t (.ref c) = some b) (q : Q (.bl b) H) : rIsi K [x, .ref c] H Q := ⟨x, .ref c, t, _, b, rfl, .own c, ty, k, q⟩

/-! ### more steps -/
section
variable {K : PySem.W.Frag} {σ : St} {H : Hp} {Q : VK} {te : TE} {tl : TA} {a : Addr} {xs : List V} {i : Int} {v : V}
theorem sz1000 {n : Nat} (h : n ≤ 1000) : n ≤ sizeLine := Nat.le_trans h (by decide)
theorem Same.upd_new {H H1 : Hp} {p : Addr} {o : HO} (s : Same H H1) (h : H1 p = none) : Same H (upd H1 p o) := s.trans (Same.new h)
/-- a new tuple, a new list: what is asked -/
def NewT (xs : List V) (H : Hp) (Q : VK) : Prop := xs.length ≤ sizeLine ∧ ∀ p, H p = none → Q (.ref p) (upd H p (.tup xs))
def NewL (xs : List V) (H : Hp) (Q : VK) : Prop := xs.length ≤ sizeLine ∧ ∀ p, H p = none → Q (.ref p) (upd H p (.lst xs))
theorem k_tup (hl : Nat.ble xs.length 1000 = true) (q : ∀ p H2, H p = none → Same H H2 → H2 p = some (.tup xs) → Q (.ref p) H2) : NewT xs H Q :=
  ⟨sz1000 (Nat.le_of_ble_eq_true hl), fun p hp => q p _ hp (Same.new hp) upd_same⟩
theorem k_lst (hl : Nat.ble xs.length 1000 = true) (q : ∀ p H2, H p = none → Same H H2 → H2 p = some (.lst xs) → Q (.ref p) H2) : NewL xs H Q :=
  ⟨sz1000 (Nat.le_of_ble_eq_true hl), fun p hp => q p _ hp (Same.new hp) upd_same⟩
theorem w_tup (q : tl σ H fun xs H1 => NewT xs H1 Q) : tTup tl σ H Q := q
theorem w_lst (q : tl σ H fun xs H1 => NewL xs H1 Q) : tLst tl σ H Q := q
theorem w_ixL (h : H a = some (.lst xs)) (e : atI xs i = some v) (q : Q v H) : rIx K (.ref a) (.int i) H Q := .inl ⟨a, xs, i, v, rfl, rfl, SqL.of h, e, q⟩
theorem w_ixT (h : H a = some (.tup xs)) (e : atI xs i = some v) (q : Q v H) : rIx K (.ref a) (.int i) H Q := .inr (.inl ⟨a, xs, i, v, rfl, rfl, SqT.of h, e, q⟩)
/-- a field of an instance: what is asked -/
def FldP (K : PySem.W.Frag) (f : Str) (x : V) (H : Hp) (Q : VK) : Prop := ∃ a C dx fs v, x = .ref a ∧ H a = some (.ins C dx fs) ∧ Cls K C ∧ NoAttr K C f ∧ fs.lookup f = some v ∧ Q v H
theorem w_fld {C dx : Addr} {fs : List (Str × V)} {f : Str} (h : H a = some (.ins C dx fs)) (hc : Cls K C) (hn : NoAttr K C f) (l : fs.lookup f = some v) (q : Q v H) : FldP K f (.ref a) H Q :=
  ⟨a, C, dx, fs, v, rfl, h, hc, hn, l, q⟩
theorem w_fldE {f : Str} (q : te σ H fun x H1 => FldP K f x H1 Q) : tFld K te f σ H Q := q
/-- a field stored: what is asked -/
def StoP (K : PySem.W.Frag) (f : Str) (y x : V) (H : Hp) (N : Hp → Prop) : Prop := ∃ a C dx fs, x = .ref a ∧ H a = some (.ins C dx fs) ∧ Cls K C ∧ NoAttr K C f ∧ fs.length < 1000 ∧ N (upd H a (.ins C dx (putF f y fs)))
theorem w_sto {C dx : Addr} {fs : List (Str × V)} {f : Str} {N : Hp → Prop} (h : H a = some (.ins C dx fs)) (hc : Cls K C) (hn : NoAttr K C f) (l : Nat.blt fs.length 1000 = true) (q : ∀ H', SameX a H H' → H' a = some (.ins C dx (putF f v fs)) → N H') : StoP K f v (.ref a) H N :=
  ⟨a, C, dx, fs, rfl, h, hc, hn, by simpa using l, q _ (SameX.upd fun _ _ _ e => e) upd_same⟩
theorem w_stoE {f : Str} {tv : TE} {nx bk ct : L2.St → Hp → Prop} {rt : VK} (q : tv σ H fun y H1 => te σ H1 fun x H2 => StoP K f y x H2 fun H3 => nx σ H3) : sFld K te tv f ⟨nx, rt, bk, ct⟩ σ H := q
theorem rf_top (t r b : Int) : (rootF t r b).lookup ("top" : Str) = some (.int t) := by simp [rootF, List.lookup]
theorem rf_root (t r b : Int) : (rootF t r b).lookup ("root" : Str) = some (.int r) := by
  have : (("root" : Str) == "top") = false := by decide +kernel
  simp [rootF, List.lookup, this]
theorem rf_bottom (t r b : Int) : (rootF t r b).lookup ("bottom" : Str) = some (.int b) := by
  have h1 : (("bottom" : Str) == "top") = false := by decide +kernel
  have h2 : (("bottom" : Str) == "root") = false := by decide +kernel
  simp [rootF, List.lookup, h1, h2]
theorem put_root (t r b : Int) : putF "bottom" (.int b) (putF "root" (.int r) (putF "top" (.int t) [])) = rootF t r b := by
  have h1 : ¬ (("top" : Str) = "root") := by decide +kernel
  have h2 : ¬ (("top" : Str) = "bottom") := by decide +kernel
  have h3 : ¬ (("root" : Str) = "bottom") := by decide +kernel
  simp [putF, rootF, h1, h2, h3]
theorem put1 (v : V) : putF "top" v [] = [(("top" : Str), v)] := rfl
theorem put2 (u v : V) : putF "root" v [(("top" : Str), u)] = [(("top" : Str), u), ("root", v)] := by
  have h1 : ¬ (("top" : Str) = "root") := by decide +kernel
  simp [putF, h1]
theorem put3 (t r b : Int) : putF "bottom" (.int b) [(("top" : Str), .int t), ("root", .int r)] = rootF t r b := by
  have h2 : ¬ (("top" : Str) = "bottom") := by decide +kernel
  have h3 : ¬ (("root" : Str) = "bottom") := by decide +kernel
  simp [putF, rootF, h2, h3]
theorem rf_eq {t r b t' r' b' : Int} : rootF t r b = rootF t' r' b' ↔ t = t' ∧ r = r' ∧ b = b' := by simp [rootF]
end
/-! ### loops and comprehensions: the thing that is walked is known -/
section
variable {K : PySem.W.Frag} {σ : St} {H : Hp} {Q : VK} {tl : TE} {ta : TA} {g : TG} {tb : TS} {D : Ends} {p : Addr} {xs : List V} {tt : TT} {te : TE} {ws : List Nat}
def ForT (K : PySem.W.Frag) (g : TG) (tb : TS) (D : Ends) (σ : St) (x : V) (H : Hp) : Prop := tFor (iTup K (tC x)) g tb D σ H
def ForL (K : PySem.W.Frag) (g : TG) (tb : TS) (D : Ends) (σ : St) (x : V) (H : Hp) : Prop := tFor (iList K (tC x)) g tb D σ H
def ForR (g : TG) (tb : TS) (D : Ends) (σ : St) (vs : List V) (H : Hp) : Prop := tFor (iRng1 fun _ H Q => Q vs H) g tb D σ H
def ForR2 (g : TG) (tb : TS) (D : Ends) (σ : St) (vs : List V) (H : Hp) : Prop := tFor (iRng2 fun _ H Q => Q vs H) g tb D σ H
def CompL (K : PySem.W.Frag) (g : TG) (tt : TT) (te : TE) (ws : List Nat) (σ : St) (x : V) (H : Hp) (Q : VK) : Prop := tLc (iList K (tC x)) g tt te ws σ H Q
def CompT (K : PySem.W.Frag) (g : TG) (tt : TT) (te : TE) (ws : List Nat) (σ : St) (x : V) (H : Hp) (Q : VK) : Prop := tLc (iTup K (tC x)) g tt te ws σ H Q
def CompR (g : TG) (tt : TT) (te : TE) (ws : List Nat) (σ : St) (vs : List V) (H : Hp) (Q : VK) : Prop := tLc (iRng1 fun _ H Q => Q vs H) g tt te ws σ H Q
theorem w_forT (q : tl σ H fun x H1 => ForT K g tb D σ x H1) : tFor (iTup K tl) g tb D σ H := q
theorem w_forL (q : tl σ H fun x H1 => ForL K g tb D σ x H1) : tFor (iList K tl) g tb D σ H := q
theorem w_forR (q : ta σ H fun vs H1 => ForR g tb D σ vs H1) : tFor (iRng1 ta) g tb D σ H := q
theorem w_forR2 (q : ta σ H fun vs H1 => ForR2 g tb D σ vs H1) : tFor (iRng2 ta) g tb D σ H := q
theorem w_lcL (q : tl σ H fun x H1 => CompL K g tt te ws σ x H1 Q) : tLc (iList K tl) g tt te ws σ H Q := q
theorem w_lcT (q : tl σ H fun x H1 => CompT K g tt te ws σ x H1 Q) : tLc (iTup K tl) g tt te ws σ H Q := q
theorem w_lcR (q : ta σ H fun vs H1 => CompR g tt te ws σ vs H1 Q) : tLc (iRng1 ta) g tt te ws σ H Q := q
theorem k_forT {nx bk ct : L2.St → Hp → Prop} {rt : VK} (Pv : Nat → St → Hp → Prop) (h : H p = some (.tup xs)) (h0 : Pv 0 σ H) (hl : ∀ i σ H, Pv i σ H → H p = some (.tup xs))
    (hs : ∀ i x σ H, xs[i]? = some x → Pv i σ H → g x σ H fun σ2 H2 => tb ⟨Pv (i + 1), rt, nx, Pv (i + 1)⟩ σ2 H2) (hd : ∀ σ H, Pv xs.length σ H → nx σ H) : ForT K g tb ⟨nx, rt, bk, ct⟩ σ (.ref p) H :=
  ⟨p, rfl, ⟨_, SqT.of h⟩, for_tup (xs := xs) Pv h0 (fun i σ H _ q => SqT.of (hl i σ H q)) hs hd⟩
theorem k_forL {nx bk ct : L2.St → Hp → Prop} {rt : VK} (Pv : Nat → St → Hp → Prop) (h : SqL K H p xs) (h0 : Pv 0 σ H) (hl : ∀ i σ H, Pv i σ H → SqL K H p xs)
    (hs : ∀ i x σ H, xs[i]? = some x → Pv i σ H → g x σ H fun σ2 H2 => tb ⟨Pv (i + 1), rt, nx, Pv (i + 1)⟩ σ2 H2) (hd : ∀ σ H, Pv xs.length σ H → nx σ H) : ForL K g tb ⟨nx, rt, bk, ct⟩ σ (.ref p) H :=
  ⟨p, rfl, ⟨_, h⟩, for_list (xs := xs) Pv h0 (fun i σ H _ q => hl i σ H q) hs hd⟩
theorem k_forR {nx bk ct : L2.St → Hp → Prop} {rt : VK} {n : Int} (Pv : Nat → St → Hp → Prop) (h1 : -(2 ^ 62) ≤ n) (h2 : n < 2 ^ 62) (h0 : Pv 0 σ H)
    (hs : ∀ i σ H, i < n.toNat → Pv i σ H → g (.int (0 + (i : Nat))) σ H fun σ2 H2 => tb ⟨Pv (i + 1), rt, nx, Pv (i + 1)⟩ σ2 H2) (hd : ∀ σ H, Pv n.toNat σ H → nx σ H) : ForR g tb ⟨nx, rt, bk, ct⟩ σ [.int n] H :=
  ⟨n, rfl, h1, h2, for_range (lo := 0) (n := n.toNat) Pv h0 hs hd⟩
theorem k_lcR {n : Int} (Pv : Nat → Addr → Hp → Prop) (h1 : -(2 ^ 62) ≤ n) (h2 : n < 2 ^ 62) (h0 : ∀ D, H D = none → Pv 0 D (upd H D (.lst [])))
    (hs : ∀ i D H, i < n.toNat → Pv i D H → g (.int (0 + (i : Nat))) (wipe σ ws) H fun σ2 H2 => wipe σ2 ws = wipe σ ws ∧ tt σ2 H2 fun b H3 =>
      if b = true then te σ2 H3 fun y H4 => ∃ acc, H4 D = some (.lst acc) ∧ acc.length < sizeLine ∧ Pv (i + 1) D (upd H4 D (.lst (acc ++ [y]))) else Pv (i + 1) D H3) (hd : ∀ D H, Pv n.toNat D H → Q (.ref D) H) : CompR g tt te ws σ [.int n] H Q :=
  ⟨n, rfl, h1, h2, fun D hD => lc_range (lo := 0) (n := n.toNat) (fun i H => Pv i D H) (h0 D hD) (fun i H hi q => hs i D H hi q) (fun H q => hd D H q)⟩
theorem k_lcL (Pv : Nat → Addr → Hp → Prop) (h : SqL K H p xs) (h0 : ∀ D, H D = none → Pv 0 D (upd H D (.lst []))) (hl : ∀ i D H, Pv i D H → SqL K H p xs)
    (hs : ∀ i x D H, xs[i]? = some x → Pv i D H → g x (wipe σ ws) H fun σ2 H2 => wipe σ2 ws = wipe σ ws ∧ tt σ2 H2 fun b H3 =>
      if b = true then te σ2 H3 fun y H4 => ∃ acc, H4 D = some (.lst acc) ∧ acc.length < sizeLine ∧ Pv (i + 1) D (upd H4 D (.lst (acc ++ [y]))) else Pv (i + 1) D H3) (hd : ∀ D H, Pv xs.length D H → Q (.ref D) H) : CompL K g tt te ws σ (.ref p) H Q :=
  ⟨p, rfl, ⟨_, h⟩, fun D hD => lc_list (xs := xs) (fun i H => Pv i D H) (h0 D hD) (fun i H _ q => hl i D H q) (fun i x H hx q => hs i x D H hx q) (fun H q => hd D H q)⟩
end
/-! ### instances made -/
/-- C(..): what is asked -/
def MkC (C : Addr) (sp : Sp) (E : XK) (vs : List V) (H : Hp) (Q : VK) : Prop := ∀ x dx, H x = none → H dx = none → dx ≠ x →
  sp (.ref x :: vs) (upd (upd H dx (.own x)) x (.ins C dx [])) (fun v H2 => v = .non ∧ Q (.ref x) H2) E
theorem w_mkC {C : Addr} {sp : Sp} {E : L2.St → XK} {tl : TA} {σ : L2.St} {H : Hp} {Q : VK} (q : tl σ H fun vs H1 => MkC C sp (E σ) vs H1 Q) : tMakeS C sp E tl σ H Q := q
/-- o.m(..): what is asked of o -/
def MethP (C : Addr) (m : Str) (x : V) (H : Hp) (N : Hp → Prop) : Prop := ∃ a dx fs, x = .ref a ∧ H a = some (.ins C dx fs) ∧ fs.lookup m = none ∧ N H
theorem w_meth {C : Addr} {m : Str} {sp : Sp} {E : L2.St → XK} {ta : TE} {tl : TA} {σ : L2.St} {H : Hp} {Q : VK} (q : ta σ H fun x H1 => MethP C m x H1 fun H2 => tl σ H2 fun vs H3 => sp (x :: vs) H3 Q (E σ)) : tMethS C m sp E ta tl σ H Q := q
theorem k_meth {C a dx : Addr} {m : Str} {fs : List (Str × V)} {H : Hp} {N : Hp → Prop} (h : H a = some (.ins C dx fs)) (l : fs.lookup m = none) (q : N H) : MethP C m (.ref a) H N := ⟨a, dx, fs, rfl, h, l, q⟩
theorem rf_none {t r b : Int} {m : Str} (h1 : (m == ("top" : Str)) = false) (h2 : (m == ("root" : Str)) = false) (h3 : (m == ("bottom" : Str)) = false) : (rootF t r b).lookup m = none := by simp [rootF, List.lookup, h1, h2, h3]
/-! ### own errors with one field -/
def spX (C : Addr) (f : Str) : Sp := fun vs H Q _ => ∃ (a : Addr) (v : V), vs = [.ref a, v] ∧ H a = some (exo a C none) ∧ ∀ d, H d = none → d ≠ a → Q .non (upd (upd H d (exd d [(f, v)])) a (exo a C (some d)))
/-- an own error made: what is asked -/
def MkOP (C : Addr) (sp : Sp) (vs : List V) (H : Hp) (Q : XK) : Prop := vs.length ≤ 1000 ∧ ∀ a, H a = none → sp (.ref a :: (vs ++ [])) (upd H a (exo a C none))
    (fun v H2 => v = .non ∧ ∃ (d : Addr) (fs : List (Str × V)), H2 a = some (exo a C (some d)) ∧ H2 d = some (exd d fs) ∧ H d = none ∧ Q (.ref C) (some d) (upd (del H2 a) d (.xd fs))) (fun _ _ _ => False)
theorem w_mkO {C : Addr} {sp : Sp} {tl : TA} {σ : St} {H : Hp} {Q : XK} (q : tl σ H fun vs H1 => MkOP C sp vs H1 Q) : tMkO C sp [] tl σ H Q := q
theorem k_mkO {C : Addr} {f : Str} {v : V} {H : Hp} {Q : XK} (h : ∀ d H2, H d = none → Same H H2 → H2 d = some (.xd [(f, v)]) → Q (.ref C) (some d) H2) : MkOP C (spX C f) [v] H Q := by
  refine ⟨by simp, fun a ha => ⟨a, v, rfl, upd_same, fun d hd hn => ⟨rfl, d, [(f, v)], upd_same, ?_, ?_, ?_⟩⟩⟩
  · rw [upd_ne hn, upd_same]
  · rw [upd_ne hn] at hd; exact hd
  · have hd' : H d = none := by rw [upd_ne hn] at hd; exact hd
    refine h d _ hd' (fun b o e => ?_) upd_same
    have n1 : b ≠ d := ne_of_none e hd'
    have n2 : b ≠ a := ne_of_none e ha
    rw [upd_ne n1, del_ne n2, upd_ne n2, upd_ne n1, upd_ne n2]
    exact e
end L2.My

/-! W3: built-ins by name, stores into lists, products, the state that laws draw from. -/
namespace L2.My
open PySem PySem.Spec PyProof.Rows
section
variable {X : Cx} {K : PySem.W.Frag} {σ : L2.St} {H : Hp} {Q : VK} {te : TE} {tl : TA} {a p : Addr} {xs : List V} {i j : Int} {v : V}
def rInt : List V → Hp → VK → Prop := fun vs H Q => (∃ i, vs = [.int i] ∧ Q (.int i) H) ∨ ∃ k, vs = [.bl k] ∧ Q (.int (if k then 1 else 0)) H
theorem cn_int : CallR X (.type "int") rInt := call_int1
theorem w_int (q : Q (.int i) H) : rInt [.int i] H Q := .inl ⟨i, rfl, q⟩
theorem w_intB {b : Bool} (q : Q (.int (if b then 1 else 0)) H) : rInt [.bl b] H Q := .inr ⟨b, rfl, q⟩
def rAbs : List V → Hp → VK → Prop := fun vs H Q => ∃ i, vs = [.int i] ∧ Q (.int (if i < 0 then -i else i)) H
theorem cn_abs : CallR X (.builtin "abs") rAbs := call_abs
theorem w_abs (q : Q (.int (i.natAbs : Int)) H) : rAbs [.int i] H Q := ⟨i, rfl, by
  have e : (if i < 0 then -i else i) = (i.natAbs : Int) := by split <;> omega
  rw [e]; exact q⟩
def rLen (K : PySem.W.Frag) : List V → Hp → VK → Prop := fun vs H Q => ∃ x n, vs = [x] ∧ LenV K x H n ∧ Q (.int n) H
theorem cn_len : CallR X (.builtin "len") (rLen X.K) := call_len
theorem w_lenL (h : SqL K H a xs) (q : Q (.int (xs.length : Nat)) H) : rLen K [.ref a] H Q := ⟨_, _, rfl, .inl ⟨_, h, rfl⟩, q⟩
theorem w_lenT (h : SqT K H a xs) (q : Q (.int (xs.length : Nat)) H) : rLen K [.ref a] H Q := ⟨_, _, rfl, .inr ⟨_, h, rfl⟩, q⟩
def rListOf (K : PySem.W.Frag) : List V → Hp → VK → Prop := fun vs H Q => ∃ p ys, vs = [.ref p] ∧ (SqL K H p ys ∨ SqT K H p ys) ∧ ∀ l, H l = none → Q (.ref l) (upd H l (.lst ys))
theorem cn_list : CallR X (.type "list") (rListOf X.K) := call_list_of
theorem w_listL (h : SqL K H a xs) (q : ∀ l H2, H l = none → Same H H2 → H2 l = some (.lst xs) → Q (.ref l) H2) : rListOf K [.ref a] H Q := ⟨a, xs, rfl, .inl h, fun l hl => q l _ hl (Same.new hl) upd_same⟩
theorem w_listT (h : SqT K H a xs) (q : ∀ l H2, H l = none → Same H H2 → H2 l = some (.lst xs) → Q (.ref l) H2) : rListOf K [.ref a] H Q := ⟨a, xs, rfl, .inr h, fun l hl => q l _ hl (Same.new hl) upd_same⟩
def NewD (H : Hp) (Q : VK) : Prop := ∀ p, H p = none → Q (.ref p) (upd H p (.dK []))
theorem w_dnew (q : NewD H Q) : tDNewK σ H Q := q
theorem k_dnew (q : ∀ p H2, H p = none → Same H H2 → H2 p = some (.dK []) → Q (.ref p) H2) : NewD H Q := fun p hp => q p _ hp (Same.new hp) upd_same
/-- a slice of a list -/
def SlP (r : V → Option Int → Option Int → Hp → VK → Prop) (x : V) (lo hi : Option Int) (H : Hp) (Q : VK) : Prop := r x lo hi H Q
theorem w_sl {r : V → Option Int → Option Int → Hp → VK → Prop} {t1 t2 : TO} (q : te σ H fun x H1 => t1 σ H1 fun l H2 => t2 σ H2 fun u H3 => SlP r x l u H3 Q) : tSl r te t1 t2 σ H Q := q
theorem k_slL {lo hi : Option Int} (h : SqL K H a xs) (q : ∀ l H2, H l = none → Same H H2 → H2 l = some (.lst (cutV xs lo hi)) → Q (.ref l) H2) : SlP (rSlL K) (.ref a) lo hi H Q := ⟨a, xs, rfl, h, fun l hl => q l _ hl (Same.new hl) upd_same⟩
theorem w_poN {QO : Option Int → Hp → Prop} (q : QO none H) : tNoPart σ H QO := q
theorem w_poS {QO : Option Int → Hp → Prop} (q : te σ H fun x H1 => ∃ i, x = .int i ∧ QO (some i) H1) : tPart te σ H QO := q
theorem w_exI {p : Int → Prop} (q : p i) : ∃ k, V.int i = .int k ∧ p k := ⟨i, rfl, q⟩
/-- xs[i] = v -/
theorem w_gsub {to ti : TE} {t : TSet} {N : L2.St → Hp → Prop} (q : to σ H fun o H1 => ti σ H1 fun i H2 => t o i v H2 fun H3 => N σ H3) : gSub to ti t v σ H N := q
theorem w_setL {N : Hp → Prop} {n : Nat} (h : H a = some (.lst xs)) (e : ixN xs.length i = some n) (q : ∀ H2, SameX a H H2 → H2 a = some (.lst (xs.set n v)) → N H2) : rSetL (.ref a) (.int i) v H N :=
  ⟨a, xs, i, n, rfl, rfl, h, e, q _ (SameX.upd fun _ _ _ e => e) upd_same⟩
theorem w_yes {QB : Bool → Hp → Prop} (q : QB true H) : tYes σ H QB := q
/-- ways meet behind a statement -/
theorem w_cut {ts us : TS} {nx bk ct : L2.St → Hp → Prop} {rt : VK} (Mid : L2.St → Hp → Prop) (h : ts ⟨Mid, rt, bk, ct⟩ σ H) (q : ∀ σ' H', Mid σ' H' → us ⟨nx, rt, bk, ct⟩ σ' H') : C8.tCut ts us ⟨nx, rt, bk, ct⟩ σ H := ⟨Mid, h, q⟩
theorem w_cutE {ts us : TS} {nx bk ct : L2.St → Hp → Prop} {rt : VK} {σ' : L2.St} {H' : Hp} (h : ts ⟨fun σ1 H1 => σ1 = σ' ∧ H1 = H', rt, bk, ct⟩ σ H) (q : us ⟨nx, rt, bk, ct⟩ σ' H') : C8.tCut ts us ⟨nx, rt, bk, ct⟩ σ H := ⟨_, h, fun _ _ e => by rw [e.1, e.2]; exact q⟩
/-- products: one factor is small, or both together are not too large -/
def CMulS (i j : Int) : Prop := (-18446744073709551616 < i ∧ i < 18446744073709551616) ∨ (-18446744073709551616 < j ∧ j < 18446744073709551616) ∨ CMulW i j
theorem op_mulS : OpR X (binaryOp .Mult) (rI CMulS fun i j => .int (i * j)) := opI fun _ _ _ _ _ _ _ hc q => by
  rcases hc with h | h | h
  · exact mul_int q (CMul.ok (.inl h))
  · exact mul_int q (CMul.ok (.inr h))
  · exact mul_int q h.ok
theorem atI_ints {ns : List Int} {k : Int} (h0 : 0 ≤ k) (h1 : k < (ns.length : Int)) : ∃ z, atI (ns.map V.int) k = some (.int z) := by
  obtain ⟨n, rfl⟩ := Int.eq_ofNat_of_zero_le h0
  have hn : n < ns.length := by omega
  exact ⟨ns[n], atI_nat (by simp [hn])⟩
theorem cut_ints (ns : List Int) (lo hi : Option Int) : ∃ ms : List Int, cutV (ns.map V.int) lo hi = ms.map V.int := by
  unfold cutV
  exact ⟨((ns.drop (HT.sIx (ns.map V.int).length 0 lo)).take (HT.sIx (ns.map V.int).length (ns.map V.int).length hi - HT.sIx (ns.map V.int).length 0 lo)), by rw [List.map_take, List.map_drop]⟩
/-- a number that is not too great; omega doesn't see into it -/
def Bd (x : Int) : Prop := x.natAbs < 2 ^ 8000
/-! ### data compared -/
theorem dp_ints : ∀ ns : List Int, DpAll K H (ns.map V.int) (ns.map PyData.int)
  | [] => .nil
  | n :: ns => .cons (.int n) (dp_ints ns)
theorem can_ints : ∀ ns : List Int, PyData.canLayAll0 (ns.map PyData.int) = true
  | [] => rfl
  | n :: ns => by simp only [List.map_cons, PyData.canLayAll0, PyData.canLay0, can_ints ns, Bool.and_self]
theorem depth_ints : ∀ ns : List Int, PyData.depthAll (ns.map PyData.int) = 0
  | [] => rfl
  | n :: ns => by simp only [List.map_cons, PyData.depthAll, PyData.depth, depth_ints ns]; rfl
theorem eqv_ints : ∀ ns ms : List Int, PyData.eqvAll (ns.map PyData.int) (ms.map PyData.int) = decide (ns = ms)
  | [], [] => rfl
  | [], _ :: _ => rfl
  | _ :: _, [] => rfl
  | n :: ns, m :: ms => by
    simp only [List.map_cons, PyData.eqvAll, PyData.eqv, eqv_ints ns ms, List.cons.injEq, Bool.decide_and]
    rfl
theorem shaped_ints (ns : List Int) : SeqAt.shaped (.tuple (ns.map PyData.int)) = true := by
  simp only [SeqAt.shaped, PyData.canLay0, can_ints, PyData.depth, depth_ints]; decide
theorem w_eqT {b : Addr} {ns ms : List Int} (h1 : H a = some (.tup (ns.map V.int))) (h2 : H b = some (.tup (ms.map V.int))) (q : Q (.bl (decide (ns = ms))) H) : rEqD K (.ref a) (.ref b) H Q :=
  ⟨.tuple (ns.map .int), .tuple (ms.map .int), .tup (SqT.of h1) (dp_ints ns), .tup (SqT.of h2) (dp_ints ms), shaped_ints _, shaped_ints _, by rw [PyData.eqv, eqv_ints]; exact q⟩
/-- == of plain things: data of any depth, dicts -/
def rEqU (K : PySem.W.Frag) : R2 := fun x y H Q => rEqD K x y H Q ∨ rEqDA x y H Q
theorem op_eqU (hu : X.A.units + 64 < cLine) : OpR X (compareOp .Eq) (rEqU X.K) := (op_eqD hu).or (op_eq_dictA (by omega))
/-- a thing that == finds equal to itself -/
inductive Selfy (H : Hp) : V → Prop
  | non : Selfy H .non
  | int (i : Int) : Selfy H (.int i)
  | str (s : Str) (h : SeqAt.shaped (.str s) = true) : Selfy H (.str s)
  | lst (a : Addr) (ns : List Int) (e : H a = some (.lst (ns.map V.int))) : Selfy H (.ref a)
  | tup (a : Addr) (ns : List Int) (e : H a = some (.tup (ns.map V.int))) : Selfy H (.ref a)
  | dK (a : Addr) (e : H a = some (.dK [])) : Selfy H (.ref a)
theorem shaped_intsL (ns : List Int) : SeqAt.shaped (.list (ns.map PyData.int)) = true := by
  simp only [SeqAt.shaped, PyData.canLay0, can_ints, PyData.depth, depth_ints]; decide
theorem w_eqSelf (h : Selfy H v) (q : Q (.bl true) H) : rEqU K v v H Q := by
  have go : ∀ d, Dp K H v d → SeqAt.shaped d = true → rEqU K v v H Q := fun d hd sd => .inl ⟨d, d, hd, hd, sd, sd, by rw [SeqAt.eqv_refl d (SeqAt.canLay_of_shaped sd)]; exact q⟩
  cases h with
  | non => exact go _ .non (by decide +kernel)
  | int i => exact go _ (.int i) rfl
  | str s h => exact go _ (.str s) h
  | lst a ns e => exact go _ (.lst (SqL.of e) (dp_ints ns)) (shaped_intsL ns)
  | tup a ns e => exact go _ (.tup (SqT.of e) (dp_ints ns)) (shaped_ints ns)
  | dK a e => exact .inr ⟨a, a, [], [], rfl, rfl, e, e, rfl, (fun _ h => nomatch h), q⟩
/-- a thing of the law's own: a kind that is known, and if it is no int, one that is found equal to itself -/
structure Odd (c : Addr) (H : Hp) (v : V) : Prop where
  th : Th c H v
  eq : isI v = false → (∃ b, v = .bl b) ∨ isB v = false ∧ Selfy H v
theorem Odd.sx {c p : Addr} {H H' : Hp} (h : Odd c H v) (h3 : ∀ a, v = .ref a → a ≠ p) (s : SameX p H H') : Odd c H' v := by
  obtain ⟨h1, h2⟩ := h
  refine ⟨?_, fun z => ?_⟩
  · cases h1 with
    | non => exact .non
    | bl b => exact .bl b
    | int i => exact .int i
    | str s => exact .str s
    | lst a xs e => exact .lst a xs (s _ _ (h3 a rfl) e)
    | tup a xs e => exact .tup a xs (s _ _ (h3 a rfl) e)
    | dK a xs e => exact .dK a xs (s _ _ (h3 a rfl) e)
    | root a dx t r b e => exact .root a dx t r b (s _ _ (h3 a rfl) e)
  · rcases h2 z with h | ⟨hb, h⟩
    · exact .inl h
    · refine .inr ⟨hb, ?_⟩
      cases h with
      | non => exact .non
      | int i => exact .int i
      | str s h => exact .str s h
      | lst a ns e => exact .lst a ns (s _ _ (h3 a rfl) e)
      | tup a ns e => exact .tup a ns (s _ _ (h3 a rfl) e)
      | dK a e => exact .dK a (s _ _ (h3 a rfl) e)
theorem Odd.int {c : Addr} (i : Int) : Odd c H (.int i) := ⟨.int i, fun e => by cases e⟩
theorem w_Tself {α : Type} [DecidableEq α] {x : α} {A B : Prop} (q : A) : if decide (x = x) = true then A else B := by rw [decide_eq_true rfl]; exact iteT q
theorem w_Fself {α : Type} [DecidableEq α] {x : α} {A B : Prop} (q : B) : if (!decide (x = x)) = true then A else B := by rw [decide_eq_true rfl]; exact iteF q
theorem w_isB {b c : Bool} (q : Q (.bl (decide (b = c))) H) : rIsB (.bl b) (.bl c) H Q := ⟨b, c, rfl, rfl, q⟩
/-- the state that a law draws from stands at p, its cells at q -/
def StA (H : Hp) (p q : Addr) : Prop := ∃ (ns : List Int) (at_ pend : Int), H p = some (.lst [.ref q, .int at_, .int pend]) ∧ H q = some (.lst (ns.map V.int)) ∧ q ≠ p ∧ 0 ≤ at_ ∧ 0 ≤ pend
theorem StA.same {H H' : Hp} {p q : Addr} (h : StA H p q) (s : Same H H') : StA H' p q := by
  obtain ⟨ns, at_, pend, h1, h2, h3⟩ := h
  exact ⟨ns, at_, pend, s _ _ h1, s _ _ h2, h3⟩
theorem sz_lt {n : Nat} (h : n < 1000) : n < sizeLine := Nat.lt_of_lt_of_le h (by decide)
/-- a new object is another one -/
theorem StA.new {H : Hp} {p q b : Addr} (h : StA H p q) (e : H b = none) : b ≠ p ∧ b ≠ q := by
  obtain ⟨ns, at_, pend, h1, h2, _⟩ := h
  exact ⟨fun z => (by rw [z, h1] at e; cases e), fun z => (by rw [z, h2] at e; cases e)⟩
/-- a change elsewhere -/
theorem StA.other {H : Hp} {p q b : Addr} {o : HO} (h : StA H p q) (n : b ≠ p ∧ b ≠ q) : StA (upd H b o) p q := by
  obtain ⟨ns, at_, pend, h1, h2, h3⟩ := h
  exact ⟨ns, at_, pend, by rw [upd_ne (Ne.symm n.1)]; exact h1, by rw [upd_ne (Ne.symm n.2)]; exact h2, h3⟩
theorem StA.otherX {H H' : Hp} {p q b : Addr} (h : StA H p q) (n : b ≠ p ∧ b ≠ q) (s : SameX b H H') : StA H' p q := by
  obtain ⟨ns, at_, pend, h1, h2, h3⟩ := h
  exact ⟨ns, at_, pend, s _ _ (Ne.symm n.1) h1, s _ _ (Ne.symm n.2) h2, h3⟩
/-- another object than the state -/
theorem StA.ne {H : Hp} {p q b : Addr} {o : HO} (h : StA H p q) (e : H b = some o) (n : ∀ xs, o ≠ .lst xs) : b ≠ p := by
  obtain ⟨ns, at_, pend, h1, _⟩ := h
  exact ne_of e h1 (n _)
/-- a comprehension over a range whose turns draw: ints of which P holds -/
theorem k_lcDraw {st sc : Addr} {n : Int} {ws : List Nat} {slot : Nat} {te : TE} {P : Int → Prop} (h1 : -(2 ^ 62) ≤ n) (h2 : n ≤ 500) (hs : StA H st sc)
    (hw : ∀ z, wipe ((wipe σ ws).set slot (some (.int z))) ws = wipe σ ws)
    (turn : ∀ z H', StA H' st sc → SameX st H H' → ∀ N : VK, (∀ y H2, P y → SameX st H' H2 → StA H2 st sc → N (.int y) H2) → te ((wipe σ ws).set slot (some (.int z))) H' N)
    (hd : ∀ (D : Addr) (H' : Hp) (ms : List Int), H' D = some (.lst (ms.map V.int)) → ms.length = n.toNat → (∀ z ∈ ms, P z) → D ≠ st ∧ D ≠ sc → StA H' st sc → SameX st H H' → Q (.ref D) H') : CompR (gName slot) tYes te ws σ [.int n] H Q := by
  refine k_lcR (fun i D H' => H D = none ∧ ∃ ms : List Int, H' D = some (.lst (ms.map V.int)) ∧ ms.length = i ∧ (∀ z ∈ ms, P z) ∧ (D ≠ st ∧ D ≠ sc) ∧ StA H' st sc ∧ SameX st H H') h1 (by omega) (fun D hD => ⟨hD, [], upd_same, rfl, (fun _ h => nomatch h), hs.new hD, hs.same (Same.new hD), Same.x (Same.new hD)⟩) ?_ ?_
  · rintro i D H' hi ⟨hD, ms, e1, e2, e3, e4, e5, e6⟩
    refine ⟨hw _, ?_⟩
    refine w_yes (w_T rfl ?_)
    refine turn _ H' e5 e6 _ fun y H2 py s2 st2 => ?_
    refine ⟨_, s2 _ _ e4.1 e1, by rw [List.length_map, e2]; exact sz_lt (by omega), hD, ms ++ [y], by rw [List.map_append]; exact upd_same, by rw [List.length_append, e2]; rfl, ?_, e4, st2.other e4, fun b o nb e => ?_⟩
    · intro m hm
      rcases List.mem_append.mp hm with h | h
      · exact e3 m h
      · obtain rfl : m = y := by simpa using h
        exact py
    · rw [upd_ne (ne_of_none e hD)]
      exact s2 _ _ nb (e6 _ _ nb e)
  · rintro D H' ⟨hD, ms, e1, e2, e3, e4, e5, e6⟩
    exact hd D H' ms e1 e2 e3 e4 e5 e6
/-- a comprehension over a list of ints, without draws: ints again -/
theorem k_lcInts {p : Addr} {ns : List Int} {ws : List Nat} {slot : Nat} {te : TE} {f : Int → Int} (h : SqL K H p (ns.map V.int)) (hl : ns.length ≤ 500)
    (hw : ∀ z, wipe ((wipe σ ws).set slot (some (.int z))) ws = wipe σ ws) (hsame : ∀ H', Same H H' → SqL K H' p (ns.map V.int))
    (turn : ∀ z H', z ∈ ns → Same H H' → ∀ N : VK, N (.int (f z)) H' → te ((wipe σ ws).set slot (some (.int z))) H' N)
    (hd : ∀ D H', H D = none → Same H H' → H' D = some (.lst ((ns.map f).map V.int)) → Q (.ref D) H') : CompL K (gName slot) tYes te ws σ (.ref p) H Q := by
  refine k_lcL (xs := ns.map V.int) (fun i D H' => H D = none ∧ Same H H' ∧ H' D = some (.lst (((ns.take i).map f).map V.int))) h (fun D hD => ⟨hD, Same.new hD, upd_same⟩) (fun i D H' e => hsame H' e.2.1) ?_ ?_
  · rintro i x D H' hx ⟨hD, s1, e1⟩
    have hi : i < ns.length := by
      have := (List.getElem?_eq_some_iff.mp hx).1
      rwa [List.length_map] at this
    obtain rfl : x = V.int ns[i] := by
      rw [List.getElem?_map, List.getElem?_eq_getElem hi] at hx
      exact (Option.some.inj hx).symm
    refine ⟨hw _, ?_⟩
    refine w_yes (w_T rfl ?_)
    refine turn _ H' (List.getElem_mem hi) s1 _ ?_
    refine ⟨_, e1, by rw [List.length_map, List.length_map, List.length_take]; exact sz_lt (by omega), hD, fun b o e => ?_, ?_⟩
    · rw [upd_ne (ne_of_none e hD)]
      exact s1 b o e
    · have e : ns.take (i + 1) = ns.take i ++ [ns[i]] := by rw [List.take_add_one, List.getElem?_eq_getElem hi]; rfl
      rw [upd_same, e, List.map_append, List.map_append]
      rfl
  · rintro D H' ⟨hD, s1, e1⟩
    rw [List.length_map, List.take_length] at e1
    exact hd D H' hD s1 e1
end
end L2.My

/-! W4: isinstance of a caught own error that bears a field. -/
namespace PySem.W
open PySem PySem.Spec PySem.Calls PyProof.Rows
section
variable {prog : Program} {w : World} {A : Around} {E : Value → Shared → Prop} {s : Shared} {K : Frag} {x D : Addr} {ox od : Obj}
/-- what the class of such an error says -/
structure XiC (K : Frag) (D : Addr) : Prop where
  hga : findIn K (.ref D) "__getattribute__" = some (some (.builtin "BaseException.__getattribute__"))
  hgt : findIn K (.ref D) "__getattr__" = some none
  hsub : subIn K (.ref D) (.type "BaseException") = some true
  hdct : hasDictIn K D = true
  ha : findIn K (.ref D) "__class__" = some (some (.builtin "object.__class__"))
  hn : specialIn K (.builtin "object.__class__") "__get__" = some (some (.builtin "getset_descriptor.__get__"))
  htk : takesIn K (.builtin "object.__class__") = some true
  hm : mroIn K D (.type "object") = some true
theorem xi_class {Q : Option Value → Shared → Prop} (T : XiC K D) (X : K.In s.heap) (I : InstAt s.heap x ox D (some od)) (h : Q (some (.ref D)) { s with toks := s.toks + 1 }) : wpAny (model prog w) A (getAttr? (.ref x) "__class__") Q E s := by
  have fnd : findObj K D (some od) "__class__" = some (.bind (.builtin "getset_descriptor.__get__") (.builtin "object.__class__")) := findObj_data (by obtain ⟨cd, hc, _⟩ := any_some T.hdct; rw [hc]; rfl) T.ha T.hn T.htk
  obtain ⟨hp, g, d, t, os⟩ := s
  have l0 := I.type (M := model prog w)
  have l1 := looks_findIn (M := model prog w) X T.hga
  have l2 := looks_findIn (M := model prog w) X T.hgt
  have l3 := looks_find (M := model prog w) X I fnd
  have sb : Looks (model prog w) hp (isInstance (.ref x) (.type "BaseException")) true := l0.andThen (looks_subIn X T.hsub)
  have n0 : (false && onTheHeap (Value.builtin "BaseException.__getattribute__")) = false := rfl
  have n2 : (Value.builtin "BaseException.__getattribute__" == Value.builtin "object.__getattribute__") = false := by decide +kernel
  have n1 : (onTheHeap (Value.ref D) && Value.builtin "BaseException.__getattribute__" == Value.builtin "object.__getattribute__") = false := by rw [n2]; rfl
  unfold getAttr? getAttrBy? getAttrBy
  refine wpAny_bind (wpAny_mkText (wpAny_bind (wpAny_attempt (wpAny_holding (wpAny_bind (l0.at (wpAny_bind (l1.at ?_))))))))
  dsimp only
  rw [n1, if_neg Bool.false_ne_true]
  unfold getAttrByItsOwn hookBefore
  refine wpAny_bind ?_
  rw [if_pos (show onTheHeap (Value.ref D) = true from rfl)]
  refine l2.at (wpAny_bind (wpAny_attempt (wpAny_holding ?_)))
  unfold callGetattribute
  rw [n0, if_neg Bool.false_ne_true]
  unfold boundAndCalled
  rw [PySem.F.excAttr_ValueError.ga.bind (.ref x)]
  refine wpAny_bind (wpAny_pure ?_)
  show wpAny _ _ (call (.builtin "BaseException.__getattribute__") [.ref x, .str "__class__" t]) _ _ _
  refine wpAny_call (codeAny_call_builtin PySem.F.excAttr_ValueError.ga.plain PySem.F.entry_bexc_ga ?_)
  refine @check_slot (model prog w) _ _ ⟨hp, g, d, t + 1, os⟩ "BaseException.__getattribute__" "BaseException" "__getattribute__" (.ref x) [.str "__class__" t] [] _ (by decide +kernel) (by decide +kernel) sb (PySem.F.args_bexc_ga (.ref x) (.str "__class__" t)) ?_
  unfold Builtin.«object.__getattribute__»
  refine wpAny_bind (wpAny_of_eq (a := ((Value.ref x : Value), [Value.str "__class__" t])) (by first | rfl | (simp only [slotArgs]; rfl)) ?_)
  refine wpAny_bind (wpAny_pure (wpAny_bind (l0.at (wpAny_bind (l3.at ?_)))))
  show wpAny _ _ (holding [Value.builtin "object.__class__"] (call (.builtin "getset_descriptor.__get__") [.builtin "object.__class__", .ref x, .ref D]) >>= ret) _ _ _
  refine wpAny_bind (wpAny_holding (wpAny_call (class_get (s := ⟨hp, g, d, t + 1, os⟩) (ox := ox) (od := some od) X I T.hm ?_)))
  refine wpAny_pure ?_
  show wpAny _ _ (handedOut (.ref D)) _ _ _
  rw [handedOut_of (v := .ref D) rfl]
  first
    | exact wpAny_pure (wpAny_pure h)
    | exact wpAny_pure h
    | exact wpAny_pure (wpAny_bind (wpAny_pure (wpAny_pure h)))
theorem xi_kitx (T : XiC K D) : KitX K (.ref x) (.ref D) (fun h => ∃ ox od, InstAt h x ox D (some od)) where
  ty := fun _ _ _ ⟨_, _, I⟩ => I.type
  it := fun _ _ X _ => by
    obtain ⟨cdD, hcD, _⟩ := any_some T.hdct
    unfold clsIn at hcD
    split at hcD
    · rename_i c' d' cd' sl' ho
      intro A' Q' E' s' k q
      unfold isType loadHead
      exact wpAny_bind (wpAny_loadPart (k _ _ (X _ _ ho)) (wpAny_pure q))
    · cases hcD
  ne := fun h tp dd its n sl X htp => by
    obtain ⟨cdD, hcD, _⟩ := any_some T.hdct
    refine Bool.eq_false_iff.mpr fun q => ?_
    have e : D = tp := Value.ref.inj (beq_iff_eq.mp q)
    subst e
    unfold clsIn at hcD
    split at hcD
    · rename_i c' d' cd' sl' ho
      have z := (X _ _ ho).symm.trans htp
      cases z
    · cases hcD
  ca := fun X ⟨_, _, I⟩ k => xi_class T X I k
end
end PySem.W
namespace L2.My
open PySem PySem.Spec PyProof.Rows
/-- isinstance(e, c), e the own error that the suite holds -/
def rIsX (K : PySem.W.Frag) (D a : Addr) (cls : Value) (d : Option Addr) : List V → Hp → VK → Prop := fun xs H Q => ∃ (c : V) (cv : Value) (b : Bool) (dd : Addr) (fs : List (Str × V)), xs = [.ref a, c] ∧ cls = .ref D ∧ d = some dd ∧ H dd = some (.xd fs) ∧
  (∀ u, RelV c u → u = cv) ∧ PySem.W.kitOne K (.ref D) cv = some b ∧ Q (.bl b) H
theorem cn_isX {X : Cx} {a D : Addr} {cls : Value} {d : Option Addr} {oe : Obj} {pn : List (Addr × Obj)} (T : PySem.W.XiC X.K D) (hz : Zc cls d oe) (hf : ∃ vs, oe.data = .fields vs) : CallR (X.suite a ((a, oe) :: pn)) (.builtin "isinstance") (rIsX X.K D a cls d) := by
  intro pins s σ H xs us Q I r h
  obtain ⟨c, cv, b, dd, fs, rfl, rfl, rfl, ea, hcv, e, q⟩ := h
  obtain ⟨u1, u2, rfl, r1, r2⟩ := vals2 r
  cases (show u1 = Value.ref a from r1)
  have ec := hcv _ r2
  subst ec
  obtain ⟨hget, _⟩ := I.pin (a, oe) (List.mem_append_left _ List.mem_cons_self)
  obtain ⟨vs, hd⟩ := hf
  obtain ⟨mA, hns, hr⟩ := (show ObjOk X.prog X.w H s.heap dd (.xd fs) from I.hok dd _ ea)
  obtain ⟨od, ho, hl⟩ := lookIn_ns hns
  have J : PySem.W.InstAt s.heap a oe D (some od) := ⟨hget, hz.1, by unfold PySem.W.notCls; rw [hd] <;> rfl, by rw [hz.2]; exact ho⟩
  exact PySem.W.kia_one (PySem.W.xi_kitx T) I.kIn ⟨oe, od, J⟩ e (fun z => nomatch z) fun tk => ⟨.bl b, H, I.tok tk, rfl, q⟩
theorem w_isX {K : PySem.W.Frag} {D a : Addr} {d : Addr} {fs : List (Str × V)} {H : Hp} {Q : VK} {b : Bool} {C : Addr} (h : H d = some (.xd fs)) (k : PySem.W.kitOne K (.ref D) (.ref C) = some b) (q : Q (.bl b) H) : rIsX K D a (.ref D) (some d) [.ref a, .ref C] H Q :=
  ⟨.ref C, .ref C, b, d, fs, rfl, rfl, rfl, h, fun u r => r, k, q⟩
theorem w_isXT {K : PySem.W.Frag} {D a : Addr} {d : Addr} {fs : List (Str × V)} {H : Hp} {Q : VK} {b : Bool} {n : String} (h : H d = some (.xd fs)) (k : PySem.W.kitOne K (.ref D) (.type n) = some b) (q : Q (.bl b) H) : rIsX K D a (.ref D) (some d) [.ref a, .ty n] H Q :=
  ⟨.ty n, .type n, b, d, fs, rfl, rfl, rfl, h, fun u r => r, k, q⟩
/-- e.f in the suite: what is asked -/
def XfP (a : Addr) (cls : Value) (d : Option Addr) (C : Addr) (f : Str) (x : V) (H : Hp) (Q : VK) : Prop := x = .ref a ∧ cls = .ref C ∧ ∃ (dd : Addr) (fs : List (Str × V)) (v : V), d = some dd ∧ H dd = some (.xd fs) ∧ fs.lookup f = some v ∧ Q v H
theorem w_xf {a : Addr} {cls : Value} {d : Option Addr} {C : Addr} {f : Str} {te : TE} {σ : L2.St} {H : Hp} {Q : VK} (q : te σ H fun x H1 => XfP a cls d C f x H1 Q) : tXf a cls d C f te σ H Q := q
theorem k_xf {a d C : Addr} {f : Str} {v : V} {H : Hp} {Q : VK} (h : H d = some (.xd [(f, v)])) (q : Q v H) : XfP a (.ref C) (some d) C f (.ref a) H Q := ⟨rfl, rfl, d, _, v, rfl, h, by simp [List.lookup], q⟩
end L2.My

/-! W5: from what the head tells to what the walks ask. -/
namespace L2.My
open PySem PySem.Spec PyProof.Rows
theorem kit_eq {K : PySem.W.Frag} {t : Value} {C : Addr} (ic : PySem.W.isClsIn K C = true) (tc : PySem.W.typeIn K (.ref C) = some (.type "type")) : PySem.W.kitCls K t (.ref C) = PySem.W.subIn K t (.ref C) := by
  have e : ((PySem.W.clsIn K C).isSome && PySem.W.typeIn K (.ref C) == some (.type "type")) = true := by
    have h2' : (PySem.W.clsIn K C).isSome = true := ic
    rw [h2', tc] <;> rfl
  show (if ((PySem.W.clsIn K C).isSome && PySem.W.typeIn K (.ref C) == some (.type "type")) = true then PySem.W.subIn K t (.ref C) else none) = _
  rw [if_pos e]
theorem kit_ref {K : PySem.W.Frag} {t : Value} {C : Addr} (ic : PySem.W.isClsIn K C = true) (tc : PySem.W.typeIn K (.ref C) = some (.type "type")) (h : PySem.W.subIn K t (.ref C) = some true) : PySem.W.kitOne K t (.ref C) = some true := by
  unfold PySem.W.kitOne
  rw [kit_eq ic tc, h]
  split <;> rfl
theorem kit_ref0 {K : PySem.W.Frag} {t : Value} {C : Addr} (ic : PySem.W.isClsIn K C = true) (tc : PySem.W.typeIn K (.ref C) = some (.type "type")) (h : PySem.W.subIn K t (.ref C) = some false) (hn : (t == .ref C) = false) : PySem.W.kitOne K t (.ref C) = some false := by
  unfold PySem.W.kitOne
  rw [kit_eq ic tc, h, hn]
  rfl
theorem kit_type {K : PySem.W.Frag} {C : Addr} {T : String} {b : Bool} (km : PySem.W.kitMeta T = true) (h : PySem.W.subIn K (.ref C) (.type T) = some b) : PySem.W.kitOne K (.ref C) (.type T) = some b := by
  unfold PySem.W.kitOne
  have e : ((Value.ref C) == Value.type T) = false := rfl
  rw [e, if_neg Bool.false_ne_true]
  show (if PySem.W.kitMeta T = true then PySem.W.subIn K (.ref C) (.type T) else none) = some b
  rw [if_pos km, h]
theorem exm_mk {K : PySem.W.Frag} {S : Addr} (h1 : PySem.W.subIn K (.ref S) (.type "BaseException") = some true) (h2 : PySem.W.isClsIn K S = true) (h3 : PySem.W.typeIn K (.ref S) = some (.type "type")) (h4 : PySem.W.subIn K (.ref S) (.ref S) = some true) :
    PySem.W.exmOne K (.ref S) (.ref S) = some true := by
  have e1 : (PySem.W.subIn K (.ref S) (.type "BaseException") == some true) = true := by rw [h1] <;> rfl
  show (if (PySem.W.subIn K (.ref S) (.type "BaseException") == some true) = true then PySem.W.kitCls K (.ref S) (.ref S) else none) = some true
  rw [if_pos e1, kit_eq h2 h3, h4]
theorem ki_mk {K : PySem.W.Frag} {c : Addr} (ty : Cls K c) (ha : PySem.W.findIn K (.ref c) "__class__" = some (some (.builtin "object.__class__"))) (hm : PySem.W.mroIn K c (.type "object") = some true)
    (ic : PySem.W.isClsIn K c = true) (tc : PySem.W.typeIn K (.ref c) = some (.type "type")) (s1 : PySem.W.mroIn K c (.type "int") = some false) (s2 : PySem.W.mroIn K c (.type "bool") = some false) : KiT K c where
  ty := ty
  ha := ha
  hn := rfl
  htk := rfl
  hm := hm
  i := kit_type (by decide +kernel) s1
  b := kit_type (by decide +kernel) s2
  cc := by
    unfold PySem.W.kitOne
    have e : ((Value.ref c) == Value.ref c) = true := by simp
    rw [e, if_pos rfl]
  k1 := kit_ref0 ic tc rfl rfl
  k2 := kit_ref0 ic tc rfl rfl
  k3 := kit_ref0 ic tc rfl rfl
  k4 := kit_ref0 ic tc rfl rfl
  k5 := kit_ref0 ic tc rfl rfl
  k6 := kit_ref0 ic tc rfl rfl
  k7 := kit_ref0 ic tc rfl rfl
  n1 := rfl
  n2 := rfl
  n3 := rfl
  n4 := rfl
  n5 := rfl
  n6 := rfl
  n7 := rfl
  s1 := s1
  s2 := s2
theorem ref_ne {K : PySem.W.Frag} {a b : Addr} (h1 : PySem.W.mroIn K a (.ref a) = some true) (h2 : PySem.W.mroIn K a (.ref b) = some false) : (Value.ref a == Value.ref b) = false := by
  cases e : (Value.ref a == Value.ref b) with
  | false => rfl
  | true =>
    have : Value.ref a = Value.ref b := by simpa using e
    cases this
    rw [h1] at h2
    cases h2
theorem cx_no {P : Program} {w : World} {H : Hp} {s s' : Shared} {e : Value} (z : L2.CX P w [] H s (fun _ _ _ => False) e s') : False := by
  obtain ⟨_, _, _, _, _, _, _, _, _, _, _, _, h⟩ := z
  exact h
end L2.My

/-! W6: own + - * of instances and ints, both ways. -/
namespace L2.My
open PySem PySem.Spec PyProof.Rows PySem.SeqAt
open AutoSeq1 (wpAny_loadPart')
/-! ### own + - * of two instances, of one and an int, and of an int and one -/
theorem int_add_declines (b : Int) (u : Tok) (l C dx : Addr) :
    Meets (Builtin.«int.__add__» ⟨[.int b u, .ref l], []⟩) (fun _ R s => s.heap.get? l = some (PySem.W.instObj C dx) ∧ R (.ok (.ret .notImplemented)) s) :=
  .of_wp fun prog w A R s h => by obtain ⟨hp, g, d, tk, os⟩ := s; obtain ⟨hl, h⟩ := h; wp_walk using wpAny_loadPart' hl, wpAny_load hl; exact ⟨_, rfl, h⟩
theorem int_sub_declines (b : Int) (u : Tok) (l C dx : Addr) :
    Meets (Builtin.«int.__sub__» ⟨[.int b u, .ref l], []⟩) (fun _ R s => s.heap.get? l = some (PySem.W.instObj C dx) ∧ R (.ok (.ret .notImplemented)) s) :=
  .of_wp fun prog w A R s h => by obtain ⟨hp, g, d, tk, os⟩ := s; obtain ⟨hl, h⟩ := h; wp_walk using wpAny_loadPart' hl, wpAny_load hl; exact ⟨_, rfl, h⟩
theorem int_mul_declines (b : Int) (u : Tok) (l C dx : Addr) :
    Meets (Builtin.«int.__mul__» ⟨[.int b u, .ref l], []⟩) (fun _ R s => s.heap.get? l = some (PySem.W.instObj C dx) ∧ R (.ok (.ret .notImplemented)) s) :=
  .of_wp fun prog w A R s h => by obtain ⟨hp, g, d, tk, os⟩ := s; obtain ⟨hl, h⟩ := h; wp_walk using wpAny_loadPart' hl, wpAny_load hl; exact ⟨_, rfl, h⟩

/-- int op instance: the instance's own reflected def -/
theorem bin_refl {prog : Program} {w : World} {A : Around} {E : Value → Shared → Prop} {s : Shared} {K : PySem.W.Frag} {x C f g : Addr} {ox : Obj} {od : Option Obj} {op : Operator} {b : Int} {t : Tok} {id : String} {Q : Value → Shared → Prop}
    (X : K.In s.heap) (I : PySem.W.InstAt s.heap x ox C od) (sf : PySem.W.selfFirst K C = true) (hsub : PySem.W.subIn K (.ref C) (.type "int") = some false)
    (hg : PySem.W.findIn K (.ref C) (PySem.dunder op.info.2) = some (some (.ref g))) (hs : PySem.W.findIn K (.ref C) (PySem.dunderR op.info.2) = some (some (.ref f))) (hf : PySem.W.isFn K (.ref f) = true)
    (fi : fillsNumberSlot (.type "int") op.info.2 = pure true) (sl : Slot "int" (PySem.dunder op.info.2) id)
    (hd : ∀ Q' : Value → Shared → Prop, Q' .notImplemented s → wpAny (model prog w) A (call (.builtin id) [.int b t, .ref x]) Q' E s)
    (h : wpAny (model prog w) A (call (.ref f) [.ref x, .int b t]) (PySem.W.CmpBack Q) E s) : wpAny (model prog w) A (binaryOp op (.int b t) (.ref x)) Q E s := by
  obtain ⟨cd, rest, e1, e2⟩ := PySem.W.ksp_first sf
  have fC : PySem.W.Looks (model prog w) s.heap (fillsNumberSlot (.ref C) op.info.2) true := PySem.W.fills_K X e1 e2 hg
  have hne : (Value.type "int" == Value.ref C) = false := rfl
  have ti : s.TypeIs (.int b t) "int" := typeIs_int s b t
  have one : wpAny (model prog w) A (binaryOp1 op.info.2 (.int b t) (.ref x)) (fun r s' => ∃ v, r = some v ∧ Q v s') E s := by
    unfold binaryOp1
    refine wpAny_bind (wpAny_typeOf ti (wpAny_bind (I.type.here ?_)))
    rw [fi]
    refine wpAny_bind (wpAny_pure ?_)
    simp only [hne, Bool.false_eq_true, if_false]
    refine wpAny_bind (fC.here ?_)
    simp only [Bool.and_self, if_true]
    refine wpAny_bind ((PySem.W.looks_subIn X hsub).here ?_)
    simp only [Bool.false_eq_true, if_false, Bool.and_self, Bool.not_false, if_true]
    refine wpAny_bind ?_
    show wpAny _ _ (pure false) _ _ _
    refine wpAny_pure ?_
    simp only [Bool.false_eq_true, if_false]
    refine wpAny_bind (wpAny_tryMethod_declines ti sl (hd _ ⟨rfl, ?_⟩))
    refine wpAny_bind (wpAny_mono (PySem.W.ksp_try X I hs hf h) (fun r s' z => ?_) fun _ _ e => e)
    obtain ⟨v, rfl, hq⟩ := z
    exact wpAny_bind (wpAny_rule (wpAny_pure ⟨_, rfl, hq⟩))
  unfold binaryOp
  refine wpAny_holding ?_
  refine wpAny_bind (wpAny_mono one (fun r s' z => ?_) fun _ _ e => e)
  obtain ⟨v, rfl, hq⟩ := z
  exact wpAny_pure hq
section
variable {X : Cx} {C : Addr} {k k' j : Nat} {ps ps' : List Str} {sp spr : Sp} {E : XK} {m mr : Str}
/-- x op y, where one of both is an instance of C and the other one an instance of C or an int -/
def rOwnB (C : Addr) (sp spr : Sp) (E : XK) : R2 := fun x y H Q =>
  (∃ a dx fs, x = .ref a ∧ H a = some (.ins C dx fs) ∧ ((∃ i, y = .int i) ∨ ∃ a' dx' fs', y = .ref a' ∧ H a' = some (.ins C dx' fs')) ∧ sp [x, y] H Q E) ∨
  (∃ i a dx fs, x = .int i ∧ y = .ref a ∧ H a = some (.ins C dx fs) ∧ spr [y, x] H Q E)
/-- what an own operator needs of the class -/
structure OwnB (K : PySem.W.Frag) (C : Addr) : Prop where
  sf : PySem.W.selfFirst K C = true
  si : PySem.W.subIn K (.ref C) (.type "int") = some false
theorem op_ownB {op : Operator} {id : String} {fo ro : Option Value} (T : OwnB X.K C) (fi : fillsNumberSlot (.type "int") op.info.2 = pure true) (sl : Slot "int" (PySem.dunder op.info.2) id)
    (ef : PySem.W.findIn X.K (.type "int") (PySem.dunder op.info.2) = some fo) (er : PySem.W.findIn X.K (.type "int") (PySem.dunderR op.info.2) = some ro)
    (hd : ∀ {A : Around} {s : Shared} {E' : Value → Shared → Prop} (b : Int) (t : Tok) (l dx : Addr) (Q' : Value → Shared → Prop), s.heap.get? l = some (PySem.W.instObj C dx) → Q' .notImplemented s → wpAny (model X.prog X.w) A (call (.builtin id) [.int b t, .ref l]) Q' E' s)
    (h : HasM X.prog X.w X.K X.mg X.base C (PySem.dunder op.info.2) k ps sp) (h' : HasM X.prog X.w X.K X.mg X.base C (PySem.dunderR op.info.2) k' ps' spr) (hr : Room j X.A) (hx : Passes (L2.CX X.prog X.w) X E) (hj : k ≤ j := by decide) (hj' : k' ≤ j := by decide) :
    OpR X (binaryOp op) (rOwnB C sp spr E) := by
  obtain ⟨f, fd, Fo, hm, hb⟩ := h
  obtain ⟨f', fd', Fo', hm', hb'⟩ := h'
  intro pins s σ H x y v u Q I rx ry hh
  obtain ⟨m, hF⟩ := I.fr
  rcases hh with ⟨a, dx, fs, rfl, ha, hy, q⟩ | ⟨i, a, dx, fs, rfl, rfl, ha, q⟩
  · cases (show v = Value.ref a from rx)
    obtain ⟨mA, O, _⟩ := ins_get I.hok ha
    obtain ⟨od, J, _⟩ := O.look
    have cl : wpAny (model X.prog X.w) X.A (call (.ref f) [.ref a, u]) (PySem.W.CmpBack (EP X pins σ Q)) X.xe s := by
      refine wpAny_mono (run_fn Fo (hr.mono hj) hb .nil hx I (.cons rx (.cons ry .nil)) q) (fun w s' z => ?_) fun _ _ x => x
      obtain ⟨z', H', I', rz, qz⟩ := z
      exact SlX.cmpback rz ⟨z', H', I', rz, qz⟩
    rcases hy with ⟨i, rfl⟩ | ⟨a', dx', fs', rfl, ha'⟩
    · obtain ⟨t, rfl⟩ := (show ∃ t, u = Value.int i t from ry)
      exact PySem.W.ksp_binT hF I.ok.mod.kin J rfl T.sf hm.at_ hm.fn hm'.at_ (.inr ⟨_, rfl⟩) ef er rfl cl
    · cases (show u = Value.ref a' from ry)
      obtain ⟨mA', O', _⟩ := ins_get I.hok ha'
      obtain ⟨od', J', _⟩ := O'.look
      exact PySem.W.binop_K hF I.ok.mod.kin J J'.type T.sf hm.at_ hm.fn cl
  · obtain ⟨t, rfl⟩ := (show ∃ t, v = Value.int i t from rx)
    cases (show u = Value.ref a from ry)
    obtain ⟨mA, O, _⟩ := ins_get I.hok ha
    obtain ⟨od, J, _⟩ := O.look
    refine bin_refl I.kIn J T.sf T.si hm.at_ hm'.at_ hm'.fn fi sl (fun Q' hq => hd i t a dx Q' O.obj hq) ?_
    refine wpAny_mono (run_fn Fo' (hr.mono hj') hb' .nil hx I (.cons ry (.cons rx .nil)) q) (fun w s' z => ?_) fun _ _ x => x
    obtain ⟨z', H', I', rz, qz⟩ := z
    exact SlX.cmpback rz ⟨z', H', I', rz, qz⟩
theorem op_addB (T : OwnB X.K C) (h : HasM X.prog X.w X.K X.mg X.base C "__add__" k ps sp) (h' : HasM X.prog X.w X.K X.mg X.base C "__radd__" k' ps' spr) (hr : Room j X.A) (hx : Passes (L2.CX X.prog X.w) X E) (hj : k ≤ j := by decide) (hj' : k' ≤ j := by decide) :
    OpR X (binaryOp .Add) (rOwnB C sp spr E) :=
  op_ownB (op := .Add) T F.fills_int_add F.slot_int_add rfl rfl (fun b t l dx Q' hl hq => call_meets F.slot_int_add (typeIs_int _ b t) F.entry_int_add (F.args_int_add_2 _ _) (int_add_declines b t l C dx) ⟨hl, hq⟩) h h' hr hx hj hj'
theorem op_subB (T : OwnB X.K C) (h : HasM X.prog X.w X.K X.mg X.base C "__sub__" k ps sp) (h' : HasM X.prog X.w X.K X.mg X.base C "__rsub__" k' ps' spr) (hr : Room j X.A) (hx : Passes (L2.CX X.prog X.w) X E) (hj : k ≤ j := by decide) (hj' : k' ≤ j := by decide) :
    OpR X (binaryOp .Sub) (rOwnB C sp spr E) :=
  op_ownB (op := .Sub) T F.fills_int_sub F.slot_int_sub rfl rfl (fun b t l dx Q' hl hq => call_meets F.slot_int_sub (typeIs_int _ b t) F.entry_int_sub (by first | exact F.args_int_sub_2 _ _ | (unfold argsOk; kernel_rfl)) (int_sub_declines b t l C dx) ⟨hl, hq⟩) h h' hr hx hj hj'
theorem op_mulB (T : OwnB X.K C) (h : HasM X.prog X.w X.K X.mg X.base C "__mul__" k ps sp) (h' : HasM X.prog X.w X.K X.mg X.base C "__rmul__" k' ps' spr) (hr : Room j X.A) (hx : Passes (L2.CX X.prog X.w) X E) (hj : k ≤ j := by decide) (hj' : k' ≤ j := by decide) :
    OpR X (binaryOp .Mult) (rOwnB C sp spr E) :=
  op_ownB (op := .Mult) T F.fills_int_mul F.slot_int_mul rfl rfl (fun b t l dx Q' hl hq => call_meets F.slot_int_mul (typeIs_int _ b t) F.entry_int_mul (F.args_int_mul_2 _ _) (int_mul_declines b t l C dx) ⟨hl, hq⟩) h h' hr hx hj hj'
/-- x op y, where x is an instance of C and y is one or an int -/
def rOwnL (C : Addr) (sp : Sp) (E : XK) : R2 := fun x y H Q =>
  ∃ a dx fs, x = .ref a ∧ H a = some (.ins C dx fs) ∧ ((∃ i, y = .int i) ∨ ∃ a' dx' fs', y = .ref a' ∧ H a' = some (.ins C dx' fs')) ∧ sp [x, y] H Q E
theorem op_ownL {op : Operator} {fo ro : Option Value} (T : OwnB X.K C) (hrc : ∃ g, PySem.W.findIn X.K (.ref C) (PySem.dunderR op.info.2) = some (some (.ref g)))
    (ef : PySem.W.findIn X.K (.type "int") (PySem.dunder op.info.2) = some fo) (er : PySem.W.findIn X.K (.type "int") (PySem.dunderR op.info.2) = some ro)
    (h : HasM X.prog X.w X.K X.mg X.base C (PySem.dunder op.info.2) k ps sp) (hr : Room j X.A) (hx : Passes (L2.CX X.prog X.w) X E) (hj : k ≤ j := by decide) :
    OpR X (binaryOp op) (rOwnL C sp E) := by
  obtain ⟨f, fd, Fo, hm, hb⟩ := h
  obtain ⟨g, hg⟩ := hrc
  intro pins s σ H x y v u Q I rx ry hh
  obtain ⟨m, hF⟩ := I.fr
  obtain ⟨a, dx, fs, rfl, ha, hy, q⟩ := hh
  cases (show v = Value.ref a from rx)
  obtain ⟨mA, O, _⟩ := ins_get I.hok ha
  obtain ⟨od, J, _⟩ := O.look
  have cl : wpAny (model X.prog X.w) X.A (call (.ref f) [.ref a, u]) (PySem.W.CmpBack (EP X pins σ Q)) X.xe s := by
    refine wpAny_mono (run_fn Fo (hr.mono hj) hb .nil hx I (.cons rx (.cons ry .nil)) q) (fun w s' z => ?_) fun _ _ x => x
    obtain ⟨z', H', I', rz, qz⟩ := z
    exact SlX.cmpback rz ⟨z', H', I', rz, qz⟩
  rcases hy with ⟨i, rfl⟩ | ⟨a', dx', fs', rfl, ha'⟩
  · obtain ⟨t, rfl⟩ := (show ∃ t, u = Value.int i t from ry)
    exact PySem.W.ksp_binT hF I.ok.mod.kin J rfl T.sf hm.at_ hm.fn hg (.inr ⟨_, rfl⟩) ef er rfl cl
  · cases (show u = Value.ref a' from ry)
    obtain ⟨mA', O', _⟩ := ins_get I.hok ha'
    obtain ⟨od', J', _⟩ := O'.look
    exact PySem.W.binop_K hF I.ok.mod.kin J J'.type T.sf hm.at_ hm.fn cl
theorem op_addL (T : OwnB X.K C) (hrc : ∃ g, PySem.W.findIn X.K (.ref C) "__radd__" = some (some (.ref g))) (h : HasM X.prog X.w X.K X.mg X.base C "__add__" k ps sp) (hr : Room j X.A) (hx : Passes (L2.CX X.prog X.w) X E) (hj : k ≤ j := by decide) :
    OpR X (binaryOp .Add) (rOwnL C sp E) := op_ownL (op := .Add) T hrc rfl rfl h hr hx hj
theorem op_subL (T : OwnB X.K C) (hrc : ∃ g, PySem.W.findIn X.K (.ref C) "__rsub__" = some (some (.ref g))) (h : HasM X.prog X.w X.K X.mg X.base C "__sub__" k ps sp) (hr : Room j X.A) (hx : Passes (L2.CX X.prog X.w) X E) (hj : k ≤ j := by decide) :
    OpR X (binaryOp .Sub) (rOwnL C sp E) := op_ownL (op := .Sub) T hrc rfl rfl h hr hx hj
theorem op_mulL (T : OwnB X.K C) (hrc : ∃ g, PySem.W.findIn X.K (.ref C) "__rmul__" = some (some (.ref g))) (h : HasM X.prog X.w X.K X.mg X.base C "__mul__" k ps sp) (hr : Room j X.A) (hx : Passes (L2.CX X.prog X.w) X E) (hj : k ≤ j := by decide) :
    OpR X (binaryOp .Mult) (rOwnL C sp E) := op_ownL (op := .Mult) T hrc rfl rfl h hr hx hj
end
theorem w_ifx {t : TT} {ta tb : TE} {σ : L2.St} {H : Hp} {Q : VK} (q : t σ H fun c H1 => if c = true then ta σ H1 Q else tb σ H1 Q) : tIf t ta tb σ H Q := q
theorem w_truB {K : PySem.W.Frag} {b : Bool} {H : Hp} {Q : Bool → Hp → Prop} (q : Q b H) : ∃ k, TruV K (.bl b) H k ∧ Q k H := ⟨b, rfl, q⟩
theorem w_truI {K : PySem.W.Frag} {i : Int} {H : Hp} {Q : Bool → Hp → Prop} (q : Q (i != 0) H) : ∃ k, TruV K (.int i) H k ∧ Q k H := ⟨_, rfl, q⟩
/-! ### numbers that are not too great -/
def Bw (n : Nat) (x : Int) : Prop := x.natAbs < 2 ^ n
theorem Bw.mul {m n : Nat} {x y : Int} (hx : Bw m x) (hy : Bw n y) : Bw (m + n) (x * y) := by
  unfold Bw at *
  rw [Int.natAbs_mul, Nat.pow_add]
  exact Nat.mul_lt_mul'' hx hy
theorem Bw.mono {m n : Nat} {x : Int} (hx : Bw m x) (h : m ≤ n) : Bw n x := Nat.lt_of_lt_of_le hx (Nat.pow_le_pow_right (by decide) h)
theorem Bw.add {m n : Nat} {x y : Int} (hx : Bw m x) (hy : Bw n y) : Bw (max m n + 1) (x + y) := by
  have h1 := hx.mono (Nat.le_max_left m n)
  have h2 := hy.mono (Nat.le_max_right m n)
  unfold Bw at *
  rw [Nat.pow_succ]
  have := Int.natAbs_add_le x y
  omega
theorem Bw.neg {m : Nat} {x : Int} (hx : Bw m x) : Bw m (-x) := by unfold Bw at *; rw [Int.natAbs_neg]; exact hx
theorem Bw.sub {m n : Nat} {x y : Int} (hx : Bw m x) (hy : Bw n y) : Bw (max m n + 1) (x - y) := by rw [Int.sub_eq_add_neg]; exact hx.add hy.neg
theorem Bw.two : Bw 2 2 := by unfold Bw; decide
theorem Bw.zero : Bw 1 0 := by unfold Bw; decide
theorem Bw.one : Bw 1 1 := by unfold Bw; decide
theorem Bw.bd {n : Nat} {x : Int} (h : Bw n x) (hn : Nat.ble n 8000 = true) : Bd x := Nat.lt_of_lt_of_le h (Nat.pow_le_pow_right (by decide) (Nat.le_of_ble_eq_true hn))
theorem bwm {m n : Nat} {x y : Int} (hx : Bw m x) (hy : Bw n y) (h : (Nat.ble m 8000 && Nat.ble n 8000) = true) : CMulS x y := by
  simp only [Bool.and_eq_true] at h
  have hx := hx.bd h.1
  have hy := hy.bd h.2
  exact .inr (.inr (wide_mul hx hy (by decide) (by decide) (by decide)))
theorem bw_of {x : Int} {n k : Nat} (h : x.natAbs ≤ n) (hn : Nat.blt n (2 ^ k) = true) : Bw k x := Nat.lt_of_le_of_lt h (by simpa using hn)
end L2.My

/-! W7: math.isqrt of great numbers. -/
namespace L2.My
open PySem PySem.Spec PyProof.Rows
section
variable {X : Cx}
/-- the whole of the square root -/
def sqr (a : Int) : Int := ((Float64.isqrt a.toNat : Nat) : Int)
theorem sqr_spec {a : Int} (h : 0 ≤ a) : 0 ≤ sqr a ∧ sqr a * sqr a ≤ a ∧ a < (sqr a + 1) * (sqr a + 1) := by
  obtain ⟨h1, h2⟩ := Float64.isqrt_spec a.toNat
  have e : ((a.toNat : Nat) : Int) = a := by omega
  unfold sqr
  refine ⟨by omega, ?_, ?_⟩
  · have := Int.ofNat_le.mpr h1
    rw [Int.natCast_mul, e] at this
    exact this
  · have := Int.ofNat_lt.mpr h2
    rw [Int.natCast_mul, e] at this
    exact this
def rSq : List V → Hp → VK → Prop := fun vs H Q => ∃ a : Int, vs = [.int a] ∧ 0 ≤ a ∧ Bw 8000 a ∧ Q (.int (sqr a)) H
theorem cr_isqrt : CallR X (.builtin "math.isqrt") rSq := by
  intro pins s σ H vs us Q I r h
  obtain ⟨a, rfl, h0, hb, q⟩ := h
  cases r with
  | cons ra r =>
    cases r
    obtain ⟨t, rfl⟩ := ra
    have hl : a.toNat.log2 < 8000 := PySem.Flt.log2_lt_of (by decide) (by unfold Bw at hb; omega)
    have g := PySem.W.mg_run_isqrt a t (by omega) (by omega) (by omega)
    exact call_function_meets PySem.W.MGF.kind_isqrt PySem.W.MGF.plain_isqrt PySem.W.MGF.entry_isqrt (PySem.W.MGF.args_isqrt _) g.meets ⟨.int _, H, I.tok _, ⟨_, rfl⟩, q⟩
end
end L2.My

/-! W8: for a, b in zip(l, m). -/
namespace L2.My
open PySem PySem.Spec PyProof.Rows
section
variable {K : PySem.W.Frag} {σ : St} {H : Hp} {g : TG} {tb : TS} {D : Ends} {a b : Addr} {xs ys : List V} {ta : TA}
theorem for_zip (Pv : Nat → St → Hp → Prop) (h0 : Pv 0 σ H) (hl : ∀ i σ H, i ≤ xs.length → Pv i σ H → SqL K H a xs ∧ SqL K H b ys) (e : xs.length = ys.length)
    (hs : ∀ i x y σ H T H', xs[i]? = some x → ys[i]? = some y → Pv i σ H → H T = none → Same H H' → H' T = some (.tup [x, y]) → g (.ref T) σ H' fun σ2 H2 => tb ⟨Pv (i + 1), D.rt, D.nx, Pv (i + 1)⟩ σ2 H2) (hd : ∀ σ H, Pv xs.length σ H → D.nx σ H) :
    ∃ W : Nat → Nat → St → Hp → Prop, (∃ m, W 0 m σ H) ∧ ∀ i m σ H, W i m σ H → (Itz K a b).stop i H ∧ D.nx σ H ∨ (Itz K a b).go i H ∧ ∃ N, (∀ σ' H', N σ' H' → ∃ m', m' < m ∧ W (i + 1) m' σ' H') ∧
      ∀ x H', (Itz K a b).yld i H x H' → g x σ H' fun σ2 H2 => tb ⟨N, D.rt, D.nx, N⟩ σ2 H2 := by
  refine ⟨fun i m σ H => Pv i σ H ∧ m + i = xs.length, ⟨xs.length, h0, rfl⟩, fun i m σ H ⟨q, em⟩ => ?_⟩
  obtain ⟨l1, l2⟩ := hl i σ H (by omega) q
  rcases Nat.lt_or_ge i xs.length with h | h
  · right
    have ex : xs[i]? = some xs[i] := List.getElem?_eq_getElem h
    have ey : ys[i]? = some (ys[i]'(by omega)) := List.getElem?_eq_getElem (by omega)
    refine ⟨⟨xs, ys, _, _, l1, l2, ex, ey⟩, Pv (i + 1), fun σ' H' q' => ⟨m - 1, by omega, q', by omega⟩, ?_⟩
    rintro x H' ⟨T, x', y', rfl, hT, rfl, h1, h2⟩
    exact hs i x' y' σ H T _ (h1 xs l1) (h2 ys l2) q hT (Same.new hT) upd_same
  · left
    have : i = xs.length := by omega
    subst this
    exact ⟨⟨xs, ys, l1, l2, .inl (Nat.le_refl _)⟩, hd σ H q⟩
def ForZ (K : PySem.W.Frag) (g : TG) (tb : TS) (D : Ends) (σ : St) (vs : List V) (H : Hp) : Prop := tFor (iZip K fun _ H Q => Q vs H) g tb D σ H
theorem w_forZ (q : ta σ H fun vs H1 => ForZ K g tb D σ vs H1) : tFor (iZip K ta) g tb D σ H := q
theorem k_forZ {nx bk ct : L2.St → Hp → Prop} {rt : VK} (Pv : Nat → St → Hp → Prop) (hx : SqL K H a xs) (hy : SqL K H b ys) (e : xs.length = ys.length) (h0 : Pv 0 σ H) (hl : ∀ i σ H, Pv i σ H → SqL K H a xs ∧ SqL K H b ys)
    (hs : ∀ i x y σ H T H', xs[i]? = some x → ys[i]? = some y → Pv i σ H → H T = none → Same H H' → H' T = some (.tup [x, y]) → g (.ref T) σ H' fun σ2 H2 => tb ⟨Pv (i + 1), rt, nx, Pv (i + 1)⟩ σ2 H2) (hd : ∀ σ H, Pv xs.length σ H → nx σ H) :
    ForZ K g tb ⟨nx, rt, bk, ct⟩ σ [.ref a, .ref b] H :=
  ⟨a, b, xs, ys, rfl, hx, hy, for_zip (D := ⟨nx, rt, bk, ct⟩) Pv h0 (fun i σ H _ q => hl i σ H q) e hs hd⟩
theorem ix_seqZ {X : Cx} {K : PySem.W.Frag} (h : X.K = K) : IxR X (rIx K) := h ▸ ix_seq
end
end L2.My

local macro_rules | `(tactic| walk_at "side") => `(tactic| first | (exact Or.inl ⟨by omega, by omega⟩) | (exact Or.inr (Or.inl ⟨by omega, by omega⟩)) | (exact ⟨by decide, by decide⟩) | (show (0 : Int) < _; omega) | assumption | (exact ⟨by decide, by decide, by decide⟩))
local macro_rules | `(tactic| walk_at "st") => `(tactic| first | with_reducible exact L2.My.set0 | with_reducible exact L2.My.set1 | with_reducible exact L2.My.set2 | with_reducible exact L2.My.set3 | with_reducible exact L2.My.set4 | with_reducible exact L2.My.set5 | with_reducible exact L2.My.set6 | with_reducible exact L2.My.set7 | with_reducible exact L2.My.set8 | with_reducible exact L2.My.set9 | with_reducible exact L2.My.set10 | with_reducible exact L2.My.set11 | with_reducible exact L2.My.set12 | with_reducible exact L2.My.set13 | with_reducible exact L2.My.set14 | with_reducible exact L2.My.set15 | with_reducible exact L2.My.set16 | with_reducible exact L2.My.set17 | with_reducible exact L2.My.set18 | with_reducible exact L2.My.set19 | with_reducible exact L2.My.set20 | with_reducible exact L2.My.set21 | with_reducible exact L2.My.set22 | with_reducible exact L2.My.set23 | exact L2.My.set0 | exact L2.My.set1 | exact L2.My.set2 | exact L2.My.set3 | exact L2.My.set4 | exact L2.My.set5 | exact L2.My.set6 | exact L2.My.set7 | exact L2.My.set8 | exact L2.My.set9 | exact L2.My.set10 | exact L2.My.set11 | exact L2.My.set12 | exact L2.My.set13 | exact L2.My.set14 | exact L2.My.set15 | exact L2.My.set16 | exact L2.My.set17 | exact L2.My.set18 | exact L2.My.set19 | exact L2.My.set20 | exact L2.My.set21 | exact L2.My.set22 | exact L2.My.set23)
local macro_rules | `(tactic| walk_at "s") => `(tactic| first
  | with_reducible refine L2.My.w_seq ?_ | with_reducible refine L2.My.w_asg ?_ | with_reducible refine L2.My.w_op ?_ | with_reducible refine L2.My.w_ret ?_ | with_reducible refine L2.My.w_if ?_
  | ((with_reducible refine' L2.My.w_var ?hv ?_); (case hv => exact rfl)) | with_reducible refine L2.My.w_c ?_ | with_reducible refine L2.My.w_I0 ?_ | with_reducible refine L2.My.w_U ?_
  | ((with_reducible refine' L2.My.w_name ?hs ?_); (case hs => walk_at "st")) | with_reducible refine L2.My.w_next ?_ | with_reducible refine L2.My.w_drop ?_
  | with_reducible refine L2.My.w_test ?_ | with_reducible refine L2.My.w_B ?_ | with_reducible refine L2.My.w_bl ?_ | with_reducible refine L2.My.w_blV ?_ | with_reducible refine L2.My.w_and ?_ | with_reducible refine L2.My.w_or ?_ | with_reducible refine L2.My.w_not ?_
  | with_reducible refine L2.My.w_andV ?_ | with_reducible refine L2.My.w_orV ?_ | with_reducible refine L2.My.w_notV ?_ | with_reducible refine L2.My.w_un ?_
  | ((with_reducible refine' L2.My.w_T ?hc ?_); (case hc => exact rfl)) | ((with_reducible refine' L2.My.w_F ?hc ?_); (case hc => exact rfl))
  | with_reducible refine L2.My.w_cons ?_ | with_reducible refine L2.My.w_nil ?_ | with_reducible refine L2.My.w_call ?_ | with_reducible refine L2.My.w_cb ?_
  | with_reducible refine L2.My.w_tup ?_ | with_reducible refine L2.My.w_lst ?_ | with_reducible refine L2.My.w_fldE ?_ | with_reducible refine L2.My.w_mkO ?_ | with_reducible refine L2.My.w_int ?_ | with_reducible refine L2.My.w_intB ?_ | with_reducible refine L2.My.w_abs ?_ | with_reducible refine L2.My.w_yes ?_ | with_reducible refine L2.My.w_Tself ?_ | with_reducible refine L2.My.w_Fself ?_ | with_reducible refine L2.My.w_sl ?_ | with_reducible refine L2.My.w_dnew ?_ | with_reducible refine L2.My.w_isB ?_ | with_reducible refine L2.My.w_gsub ?_ | with_reducible refine L2.My.w_poN ?_ | with_reducible refine L2.My.w_poS ?_ | with_reducible refine L2.My.w_exI ?_
  | ((with_reducible refine' L2.My.w_I ?hc ?_); (case hc => walk_at "side"))
  | ((with_reducible refine' L2.My.w_ixL ?hh ?he ?_); (case hh => assumption); (case he => exact rfl)) | ((with_reducible refine' L2.My.w_ixT ?hh ?he ?_); (case hh => assumption); (case he => exact rfl))
  | with_reducible refine L2.My.w_xf ?_ | with_reducible refine L2.My.w_stoE ?_ | with_reducible refine L2.My.w_mkC ?_ | with_reducible refine L2.My.w_meth ?_
  | with_reducible refine L2.My.w_forT ?_ | with_reducible refine L2.My.w_forL ?_ | with_reducible refine L2.My.w_forR ?_ | with_reducible refine L2.My.w_forR2 ?_ | with_reducible refine L2.My.w_forZ ?_ | with_reducible refine L2.My.w_lcL ?_ | with_reducible refine L2.My.w_lcT ?_ | with_reducible refine L2.My.w_lcR ?_
  | with_reducible refine L2.My.w_ifx ?_ | with_reducible refine L2.My.w_truB ?_ | with_reducible refine L2.My.w_truI ?_
  | with_reducible refine L2.My.w_eq rfl ?_ | with_reducible refine L2.My.w_ne rfl ?_)
local macro_rules | `(tactic| walk_at "W") => `(tactic| repeat (walk_at "s"))

namespace L2.My
open PySem PySem.Spec PyProof.Rows
def top (i : Nat) : Stmt := PySem.Challenge.pw_threetiles_k02_whole_numbers_in_order.main.body.getD i (.Pass ⟨0, 0, 0, 0⟩)
/-- where the classes stand -/
structure Zs where
  K : PySem.W.Frag
  c_FloorError : Addr
  c_BadNumber : Addr
  c_Root : Addr

/-- what the top has left -/
structure Txt (Z : Zs) (mg : Str → Option Value) : Prop where
  n_isinstance : mg "isinstance" = none
  n_int : mg "int" = none
  n_bool : mg "bool" = none
  n_list : mg "list" = none
  n_range : mg "range" = none
  n_len : mg "len" = none
  n_abs : mg "abs" = none
  g_gcd : mg "gcd" = some (.builtin "math.gcd")
  g_Root : mg "Root" = some (.ref Z.c_Root)
  g_BadNumber : mg "BadNumber" = some (.ref Z.c_BadNumber)
  g_FloorError : mg "FloorError" = some (.ref Z.c_FloorError)
  n_ValueError : mg "ValueError" = none
  ki : KiT Z.K Z.c_Root
  nf_top : NoAttr Z.K Z.c_Root "top"
  nf_root : NoAttr Z.K Z.c_Root "root"
  nf_bottom : NoAttr Z.K Z.c_Root "bottom"
  x_BadNumber : OexC Z.K Z.c_BadNumber
  xn_BadNumber : PySem.W.findIn Z.K (.ref Z.c_BadNumber) "value" = some none
  xf_BadNumber : XfC Z.K Z.c_BadNumber
  xi_BadNumber : PySem.W.XiC Z.K Z.c_BadNumber
  xm_BadNumber : PySem.W.exmOne Z.K (.ref Z.c_BadNumber) (.ref Z.c_BadNumber) = some true
  x1 : PySem.W.kitOne Z.K (.ref Z.c_BadNumber) (.ref Z.c_FloorError) = some true
  x2 : PySem.W.kitOne Z.K (.ref Z.c_BadNumber) (.type "ValueError") = some true
  n_zip : mg "zip" = none
  g_isqrt : mg "isqrt" = some (.builtin "math.isqrt")
  ow : OwnB Z.K Z.c_Root
  ra : ∃ g, PySem.W.findIn Z.K (.ref Z.c_Root) "__radd__" = some (some (.ref g))
  rs : ∃ g, PySem.W.findIn Z.K (.ref Z.c_Root) "__rsub__" = some (some (.ref g))
  rm : ∃ g, PySem.W.findIn Z.K (.ref Z.c_Root) "__rmul__" = some (some (.ref g))
theorem Txt.c_Root {Z : Zs} {mg : Str → Option Value} (T : Txt Z mg) : Cls Z.K Z.c_Root := T.ki.ty
variable {P : Program} {w : World} {mg : Str → Option Value} {base : Heap} {Z : Zs}
abbrev s_is_integral : Stmt := top 6
theorem sc_is_integral : FnScope ["thing"] ["thing"] (defScope s_is_integral) := ⟨rfl, rfl, rfl, by decide +kernel, rfl, by decide +kernel, by decide +kernel⟩

def sp_is_integral (Z : Zs) : Sp := fun vs H Q E =>
  ∃ v, vs = [v] ∧ Th Z.c_Root H v ∧ Q (.bl (isI v)) H
theorem ok_is_integral (T : Txt Z mg)  (D : AtF Z.K mg "is_integral" "is_integral" s_is_integral ["thing"]) : Has P w Z.K mg base "is_integral" 1 ["thing"] (sp_is_integral Z) := by
  refine D.ok sc_is_integral (fun vs H Q E h => ?_) (fun cdv A outer s H vs Q E hr h => ?_)
  · obtain ⟨v, rfl, _⟩ := h
    rfl
  · refine ⟨_, (pss_one (ps_ret (pe_and (pe_callB call_isi rfl T.n_isinstance (by decide +kernel) (pa_cons (pv 0) (pa_cons (pe_bltn (v := .ty "int") rfl T.n_int (by decide +kernel) rfl) pa_nil))) (pe_one (pe_not (pe_callB call_isi rfl T.n_isinstance (by decide +kernel) (pa_cons (pv 0) (pa_cons (pe_bltn (v := .ty "bool") rfl T.n_bool (by decide +kernel) rfl) pa_nil)))))))), ?_⟩
    try simp only [cxOf]
    obtain ⟨v, rfl, hv, q⟩ := h
    obtain ⟨t, ty, k1, k2, _⟩ := hv.ty T.ki
    walk_at "W"
    refine w_isi ty k1 ?_
    walk_at "W"
    cases e : isI v || isB v
    · walk_at "W"
      have : isI v = false := by cases v <;> simp_all [isI, isB]
      rw [this] at q; exact q
    · walk_at "W"
      refine w_isi ty k2 ?_
      walk_at "W"
      have : (!isB v) = isI v := by cases v <;> simp_all [isI, isB]
      rw [this]; exact q
abbrev s_BadNumber_init : Stmt := inClass (top 4) 0
theorem sc_BadNumber_init : FnScope ["self", "value"] ["self", "value"] (defScope s_BadNumber_init) := ⟨rfl, rfl, rfl, by decide +kernel, rfl, by decide +kernel, by decide +kernel⟩

def sp_BadNumber_init (Z : Zs) : Sp := fun vs H Q E =>
  spX Z.c_BadNumber "value" vs H Q E
theorem ok_BadNumber_init (T : Txt Z mg)  (D : AtX Z.K mg "BadNumber" Z.c_BadNumber "BadNumber.__init__" s_BadNumber_init ["self", "value"]) : HasX P w Z.K mg base "BadNumber" Z.c_BadNumber 1 ["self", "value"] (sp_BadNumber_init Z) := by
  refine D.ok sc_BadNumber_init (fun vs H Q E h => ?_) (fun cdv A outer s H vs Q E hr h => ?_)
  · obtain ⟨a, v, rfl, _⟩ := h
    rfl
  · refine ⟨_, (pss_one (ps_ost (pv 0) (pv 1))), ?_⟩
    try simp only [cxOf]
    obtain ⟨a, v, rfl, ha, q⟩ := h
    exact ⟨_, rfl, _, rfl, a, Z.c_BadNumber, rfl, T.x_BadNumber, T.xn_BadNumber, Or.inl ⟨ha, fun d hd hn => q d hd hn⟩⟩
/-- the common divisor with the sign that the bottom shall lose -/
def sg (t r b : Int) : Int := if b < 0 then -(((t.natAbs.gcd r.natAbs).gcd b.natAbs : Nat) : Int) else (((t.natAbs.gcd r.natAbs).gcd b.natAbs : Nat) : Int)
def lowT (t r b : Int) : Int := t.fdiv (sg t r b)
def lowR (t r b : Int) : Int := r.fdiv (sg t r b)
def lowB (t r b : Int) : Int := b.fdiv (sg t r b)
/-- the first of three that is no integer, or the last one if it is 0 -/
def badOf (a b c : V) : Option V := if isI a = false then some a else if isI b = false then some b else if isI c = false then some c else if c = .int 0 then some (.int 0) else none
theorem isI_int {v : V} (h : isI v = true) : ∃ i, v = .int i := by cases v <;> simp_all [isI]
theorem sg_ne {t r b : Int} (h : b ≠ 0) : sg t r b ≠ 0 := by
  have : 0 < (t.natAbs.gcd r.natAbs).gcd b.natAbs := Nat.gcd_pos_of_pos_right _ (Int.natAbs_pos.mpr h)
  unfold sg
  split <;> omega
theorem sg_le {t r b : Int} (h : b ≠ 0) : (sg t r b).natAbs ≤ b.natAbs := by
  have : (t.natAbs.gcd r.natAbs).gcd b.natAbs ≤ b.natAbs := Nat.le_of_dvd (Int.natAbs_pos.mpr h) (Nat.gcd_dvd_right _ _)
  unfold sg
  split <;> omega
theorem sg_div {t r b x : Int} (h : b ≠ 0) (hb : Bd b) : CDivN9 x (sg t r b) :=
  ⟨sg_ne h, Nat.lt_of_lt_of_le (PySem.Flt.log2_lt_of (by decide) (Nat.lt_of_le_of_lt (sg_le h) hb)) (by decide)⟩
abbrev s_Root_init : Stmt := inClass (top 11) 0
theorem sc_Root_init : FnScope ["self", "top", "root", "bottom", "value", "shared"] ["self", "top", "root", "bottom"] (defScope s_Root_init) := ⟨rfl, rfl, rfl, by decide +kernel, rfl, by decide +kernel, by decide +kernel⟩

def sp_Root_init (Z : Zs) : Sp := fun vs H Q E =>
  ∃ p dx a b c, vs = [.ref p, a, b, c] ∧ H p = some (.ins Z.c_Root dx []) ∧ Th Z.c_Root H a ∧ Th Z.c_Root H b ∧ Th Z.c_Root H c ∧ (∀ k, c = .int k → Bd k) ∧
    (∀ i j k, a = .int i → b = .int j → c = .int k → k ≠ 0 → ∀ H', SameX p H H' → H' p = some (.ins Z.c_Root dx (rootF (lowT i j k) (lowR i j k) (lowB i j k))) → Q .non H') ∧
    (∀ v, badOf a b c = some v → ∀ d H', H d = none → SameX p H H' → H' d = some (.xd [("value", v)]) → E (.ref Z.c_BadNumber) (some d) H')
theorem ok_Root_init (T : Txt Z mg) (h_BadNumber : HasX P w Z.K mg base "BadNumber" Z.c_BadNumber 1 ["self", "value"] (sp_BadNumber_init Z)) (h_is_integral : Has P w Z.K mg base "is_integral" 1 ["thing"] (sp_is_integral Z)) (D : AtC Z.K mg "Root" Z.c_Root "Root.__init__" s_Root_init ["self", "top", "root", "bottom"]) : HasC P w Z.K mg base "Root" Z.c_Root 3 ["self", "top", "root", "bottom"] (sp_Root_init Z) := by
  refine D.ok sc_Root_init (fun vs H Q E h => ?_) (fun cdv A outer s H vs Q E hr h => ?_)
  · obtain ⟨p, dx, a, b, c, rfl, _⟩ := h
    rfl
  · refine ⟨_, (pss_cons (ps_for (passes_of rfl) rfl (pi_tup (pe_tup (pa_cons (pv 1) (pa_cons (pv 2) (pa_cons (pv 3) pa_nil))))) (pg_name (i := 4) sc_Root_init.nd rfl (Or.inl rfl)) (pss_one (ps_if (pt_not (pt_val (pe_h (E := ED E) h_is_integral hr (paW (takes_of rfl rfl rfl rfl)) (pa_cons (pv 4) pa_nil)))) (pss_one (ps_raise rfl (takes_of rfl rfl rfl rfl) (pm_h T.x_BadNumber h_BadNumber hr (pa_cons (pv 4) pa_nil)))) pss_nil)))
      (pss_cons (ps_if (pt_cmpR op_eq (pv 3) pe_int (nomark _)) (pss_one (ps_raise rfl (takes_of rfl rfl rfl rfl) (pm_h T.x_BadNumber h_BadNumber hr (pa_cons (pv 3) pa_nil)))) pss_nil)
      (pss_cons (ps_set (i := 5) sc_Root_init.nd rfl (Or.inl rfl) (pe_callBfun cr_gcd3 rfl T.g_gcd (pa_cons (pv 1) (pa_cons (pv 2) (pa_cons (pv 3) pa_nil)))))
      (pss_cons (ps_if (pt_cmpR op_lt (pv 3) pe_int (nomark _)) (pss_one (ps_set (i := 5) sc_Root_init.nd rfl (Or.inl rfl) (pe_un un_neg (pv 5)))) pss_nil)
      (pss_cons (ps_fld (pv 0) (pe_op op_fdivV (pv 1) (pv 5)) rfl)
      (pss_cons (ps_fld (pv 0) (pe_op op_fdivV (pv 2) (pv 5)) rfl)
      (pss_one (ps_fld (pv 0) (pe_op op_fdivV (pv 3) (pv 5)) rfl)))))))), ?_⟩
    try simp only [cxOf]
    obtain ⟨p, dx, a, b, c, rfl, hp, ha, hb, hc, hk, ok, er⟩ := h
    walk_at "W"
    refine k_tup rfl fun p0 H1 hp0 s1 e1 => ?_
    refine k_forT (fun i σ H' => ∃ v, σ = [some (.ref p), some a, some b, some c, v, none] ∧ Same H1 H' ∧ ∀ j x, j < i → [a, b, c][j]? = some x → isI x = true) e1 ⟨none, rfl, Same.refl _, fun j x hj => absurd hj (Nat.not_lt_zero _)⟩ (fun i σ H' ⟨_, _, s2, _⟩ => s2 _ _ e1) ?_ ?_
    · rintro i x σ H' hx ⟨v, rfl, s2, hi⟩
      have s3 := s1.trans s2
      have hxT : Th Z.c_Root H' x := by
        rcases i with _ | _ | _ | i
        · cases hx; exact ha.same s3
        · cases hx; exact hb.same s3
        · cases hx; exact hc.same s3
        · simp at hx
      have bad : isI x = false → badOf a b c = some x := fun e => by
        rcases i with _ | _ | _ | i
        · cases hx; unfold badOf; rw [if_pos e]
        · cases hx; unfold badOf; rw [if_neg (by rw [hi 0 a (by decide) rfl]; simp), if_pos e]
        · cases hx; unfold badOf; rw [if_neg (by rw [hi 0 a (by decide) rfl]; simp), if_neg (by rw [hi 1 b (by decide) rfl]; simp), if_pos e]
        · simp at hx
      walk_at "W"
      refine ⟨x, rfl, hxT, ?_⟩
      walk_at "W"
      cases e : isI x
      · walk_at "W"
        refine k_mkO fun d H2 hd s4 e4 => ?_
        exact er x (bad e) d H2 (s3.free hd) (Same.x (s3.trans s4)) e4
      · walk_at "W"
        refine ⟨_, rfl, s2, fun j y hj hy => ?_⟩
        rcases Nat.lt_or_eq_of_le (Nat.lt_succ_iff.mp hj) with h | h
        · exact hi j y h hy
        · subst h; rw [hx] at hy; cases hy; exact e
    · rintro σ H' ⟨v, rfl, s2, hi⟩
      have s3 := s1.trans s2
      obtain ⟨i, rfl⟩ := isI_int (hi 0 a (by simp) rfl)
      obtain ⟨j, rfl⟩ := isI_int (hi 1 b (by simp) rfl)
      obtain ⟨k, rfl⟩ := isI_int (hi 2 c (by simp) rfl)
      walk_at "W"
      refine w_ite (fun h => ?_) (fun h => ?_)
      · obtain rfl : k = 0 := by injection h
        walk_at "W"
        refine k_mkO fun d H2 hd s4 e4 => ?_
        exact er _ rfl d H2 (s3.free hd) (Same.x (s3.trans s4)) e4
      · have hk0 : k ≠ 0 := fun z => h (by rw [z])
        have hkb := hk k rfl
        walk_at "W"
        refine ⟨i, j, k, rfl, ?_⟩
        walk_at "W"
        have hd : ∀ x, CDivN9 x (sg i j k) := fun x => sg_div hk0 hkb
        refine w_ite (fun hn => ?_) (fun hn => ?_)
        · walk_at "W"
          have eg : sg i j k = -(((i.natAbs.gcd j.natAbs).gcd k.natAbs : Nat) : Int) := if_pos hn
          rw [← eg]
          refine w_I (hd i) ?_
          walk_at "W"
          refine w_sto (s3 _ _ hp) T.c_Root T.nf_top rfl fun H3 s5 e5 => ?_
          rw [put1] at e5
          walk_at "W"
          refine w_I (hd j) ?_
          walk_at "W"
          refine w_sto e5 T.c_Root T.nf_root rfl fun H4 s6 e6 => ?_
          rw [put2] at e6
          walk_at "W"
          refine w_I (hd k) ?_
          walk_at "W"
          refine w_sto e6 T.c_Root T.nf_bottom rfl fun H5 s7 e7 => ?_
          rw [put3] at e7
          exact ok i j k rfl rfl rfl hk0 H5 ((Same.x s3).trans (s5.trans (s6.trans s7))) e7
        · walk_at "W"
          have eg : sg i j k = (((i.natAbs.gcd j.natAbs).gcd k.natAbs : Nat) : Int) := if_neg hn
          rw [← eg]
          refine w_I (hd i) ?_
          walk_at "W"
          refine w_sto (s3 _ _ hp) T.c_Root T.nf_top rfl fun H3 s5 e5 => ?_
          rw [put1] at e5
          walk_at "W"
          refine w_I (hd j) ?_
          walk_at "W"
          refine w_sto e5 T.c_Root T.nf_root rfl fun H4 s6 e6 => ?_
          rw [put2] at e6
          walk_at "W"
          refine w_I (hd k) ?_
          walk_at "W"
          refine w_sto e6 T.c_Root T.nf_bottom rfl fun H5 s7 e7 => ?_
          rw [put3] at e7
          exact ok i j k rfl rfl rfl hk0 H5 ((Same.x s3).trans (s5.trans (s6.trans s7))) e7
/-- what == says of a number and a thing -/
def eqRt (H : Hp) (t r b : Int) : V → Bool
  | .int n => decide (r = 0) && (decide (b = 1) && decide (t = n))
  | .ref a => match H a with
    | some (.ins _ _ fs) => decide (fs = rootF t r b)
    | _ => false
  | _ => false
abbrev s_Root_eq : Stmt := inClass (top 11) 1
theorem sc_Root_eq : FnScope ["self", "other"] ["self", "other"] (defScope s_Root_eq) := ⟨rfl, rfl, rfl, by decide +kernel, rfl, by decide +kernel, by decide +kernel⟩

def sp_Root_eq (Z : Zs) : Sp := fun vs H Q E =>
  ∃ v o t r b, vs = [v, o] ∧ RootAt Z.c_Root H v t r b ∧ Th Z.c_Root H o ∧ Q (.bl (eqRt H t r b o)) H
theorem ok_Root_eq (T : Txt Z mg) (h_is_integral : Has P w Z.K mg base "is_integral" 1 ["thing"] (sp_is_integral Z)) (D : AtM Z.K Z.c_Root "__eq__" "Root.__eq__" s_Root_eq ["self", "other"]) : HasM P w Z.K mg base Z.c_Root "__eq__" 2 ["self", "other"] (sp_Root_eq Z) := by
  refine D.ok sc_Root_eq (fun vs H Q E h => ?_) (fun cdv A outer s H vs Q E hr h => ?_)
  · obtain ⟨v, o, t, r, b, rfl, _⟩ := h
    rfl
  · refine ⟨_, (pss_cons (ps_if (pt_val (pe_callB call_isi rfl T.n_isinstance (by decide +kernel) (pa_cons (pv 1) (pa_cons (pe_glob (v := .ref Z.c_Root) rfl T.g_Root rfl) pa_nil)))) (pss_one (ps_ret (pe_and (pe_cmpR op_eq (pe_fld (pv 0) rfl) (pe_fld (pv 1) rfl) (nomark _)) (pe_and (pe_cmpR op_eq (pe_fld (pv 0) rfl) (pe_fld (pv 1) rfl) (nomark _)) (pe_one (pe_cmpR op_eq (pe_fld (pv 0) rfl) (pe_fld (pv 1) rfl) (nomark _))))))) pss_nil)
      (pss_one (ps_ret (pe_and (pe_h (E := ED E) h_is_integral hr (paW (takes_of rfl rfl rfl rfl)) (pa_cons (pv 1) pa_nil)) (pe_and (pe_cmpR op_eq (pe_fld (pv 0) rfl) pe_int (nomark _)) (pe_and (pe_cmpR op_eq (pe_fld (pv 0) rfl) pe_int (nomark _)) (pe_one (pe_cmpR op_eq (pe_fld (pv 0) rfl) (pv 1) (nomark _))))))))), ?_⟩
    try simp only [cxOf]
    obtain ⟨v, o, t, r, b, rfl, ⟨a, dx, rfl, ha⟩, ho, q⟩ := h
    obtain ⟨ty, hty, k1, k2, k3, _⟩ := ho.ty T.ki
    walk_at "W"
    refine w_isiC hty k3 ?_
    walk_at "W"
    cases ho with
    | root a' dx' t' r' b' e =>
      have ic : isC Z.c_Root H (.ref a') = true := by
        show (match H a' with | some (.ins C _ _) => decide (C = Z.c_Root) | _ => false) = true
        rw [e]
        exact decide_eq_true rfl
      have er : eqRt H t r b (.ref a') = (decide (t = t') && (decide (r = r') && decide (b = b'))) := by
        show (match H a' with | some (.ins _ _ fs) => decide (fs = rootF t r b) | _ => false) = _
        rw [e]
        simp only [rf_eq, Bool.decide_and]
        rw [decide_eq_decide.mpr (eq_comm (a := t') (b := t)), decide_eq_decide.mpr (eq_comm (a := r') (b := r)), decide_eq_decide.mpr (eq_comm (a := b') (b := b))]
      rw [ic]
      rw [er] at q
      walk_at "W"
      refine w_fld ha T.c_Root T.nf_top (rf_top _ _ _) ?_
      walk_at "W"
      refine w_fld e T.c_Root T.nf_top (rf_top _ _ _) ?_
      walk_at "W"
      rw [decide_eq_decide.mpr (show V.int t = V.int t' ↔ t = t' by simp)]
      cases h1 : decide (t = t')
      · walk_at "W"
        rw [h1] at q
        exact q
      walk_at "W"
      refine w_fld ha T.c_Root T.nf_root (rf_root _ _ _) ?_
      walk_at "W"
      refine w_fld e T.c_Root T.nf_root (rf_root _ _ _) ?_
      walk_at "W"
      rw [decide_eq_decide.mpr (show V.int r = V.int r' ↔ r = r' by simp)]
      cases h2 : decide (r = r')
      · walk_at "W"
        rw [h1, h2] at q
        exact q
      walk_at "W"
      refine w_fld ha T.c_Root T.nf_bottom (rf_bottom _ _ _) ?_
      walk_at "W"
      refine w_fld e T.c_Root T.nf_bottom (rf_bottom _ _ _) ?_
      walk_at "W"
      rw [decide_eq_decide.mpr (show V.int b = V.int b' ↔ b = b' by simp)]
      rw [h1, h2] at q
      exact q
    | int n =>
      walk_at "W"
      refine ⟨_, rfl, .int n, ?_⟩
      walk_at "W"
      refine w_fld ha T.c_Root T.nf_root (rf_root _ _ _) ?_
      walk_at "W"
      have q' : Q (.bl (decide (r = 0) && (decide (b = 1) && decide (t = n)))) H := q
      rw [decide_eq_decide.mpr (show V.int r = V.int 0 ↔ r = 0 by simp)]
      cases h1 : decide (r = 0)
      · walk_at "W"
        rw [h1] at q'
        exact q'
      walk_at "W"
      refine w_fld ha T.c_Root T.nf_bottom (rf_bottom _ _ _) ?_
      walk_at "W"
      rw [decide_eq_decide.mpr (show V.int b = V.int 1 ↔ b = 1 by simp)]
      cases h2 : decide (b = 1)
      · walk_at "W"
        rw [h1, h2] at q'
        exact q'
      walk_at "W"
      refine w_fld ha T.c_Root T.nf_top (rf_top _ _ _) ?_
      walk_at "W"
      rw [decide_eq_decide.mpr (show V.int t = V.int n ↔ t = n by simp)]
      rw [h1, h2] at q'
      exact q'
    | non => walk_at "W"; exact ⟨_, rfl, .non, by walk_at "W"; exact q⟩
    | bl y => walk_at "W"; exact ⟨_, rfl, .bl y, by walk_at "W"; exact q⟩
    | str y => walk_at "W"; exact ⟨_, rfl, .str y, by walk_at "W"; exact q⟩
    | lst a' xs e =>
      have ic : isC Z.c_Root H (.ref a') = false := by unfold isC; simp only [e]
      have er : eqRt H t r b (.ref a') = false := by unfold eqRt; simp only [e]
      rw [ic]; rw [er] at q
      walk_at "W"; exact ⟨_, rfl, .lst a' xs e, by walk_at "W"; exact q⟩
    | tup a' xs e =>
      have ic : isC Z.c_Root H (.ref a') = false := by unfold isC; simp only [e]
      have er : eqRt H t r b (.ref a') = false := by unfold eqRt; simp only [e]
      rw [ic]; rw [er] at q
      walk_at "W"; exact ⟨_, rfl, .tup a' xs e, by walk_at "W"; exact q⟩
    | dK a' xs e =>
      have ic : isC Z.c_Root H (.ref a') = false := by unfold isC; simp only [e]
      have er : eqRt H t r b (.ref a') = false := by unfold eqRt; simp only [e]
      rw [ic]; rw [er] at q
      walk_at "W"; exact ⟨_, rfl, .dK a' xs e, by walk_at "W"; exact q⟩
/-- Root(a, b, c) of any things, from its __init__'s promise -/
theorem k_mkRoot {a b c : V} {H : Hp} {Q : VK} {E : XK} (ha : Th Z.c_Root H a) (hb : Th Z.c_Root H b) (hc : Th Z.c_Root H c) (hk : ∀ k, c = .int k → Bd k)
    (ok : ∀ i j k, a = .int i → b = .int j → c = .int k → k ≠ 0 → ∀ v H', Same H H' → RootAt Z.c_Root H' v (lowT i j k) (lowR i j k) (lowB i j k) → Q v H')
    (er : ∀ v, badOf a b c = some v → ∀ d H', H d = none → Same H H' → H' d = some (.xd [("value", v)]) → E (.ref Z.c_BadNumber) (some d) H') : MkC Z.c_Root (sp_Root_init Z) E [a, b, c] H Q := by
  intro x dx nx ndx nex
  have s0 : Same H (upd (upd H dx (.own x)) x (.ins Z.c_Root dx [])) := fun b o e => by
    rw [upd_ne (ne_of_none e nx), upd_ne (ne_of_none e ndx)]; exact e
  have sx : ∀ H', SameX x (upd (upd H dx (.own x)) x (.ins Z.c_Root dx [])) H' → Same H H' := fun H' s b o e => s b o (ne_of_none e nx) (s0 b o e)
  refine ⟨x, dx, a, b, c, rfl, upd_same, ha.same s0, hb.same s0, hc.same s0, hk, fun i j k e1 e2 e3 n H' s e => ⟨rfl, ok i j k e1 e2 e3 n _ H' (sx H' s) ⟨x, dx, rfl, e⟩⟩, fun v e d H' hd s ed => er v e d H' ?_ (sx H' s) ed⟩
  cases q : H d with
  | none => rfl
  | some o => rw [s0 d o q] at hd; cases hd
/-- .. of three ints, the last one not 0 -/
theorem k_mkRootI {i j k : Int} {H : Hp} {Q : VK} {E : XK} (n : k ≠ 0) (hk : Bd k)
    (ok : ∀ v H', Same H H' → RootAt Z.c_Root H' v (lowT i j k) (lowR i j k) (lowB i j k) → Q v H') : MkC Z.c_Root (sp_Root_init Z) E [.int i, .int j, .int k] H Q :=
  k_mkRoot (.int i) (.int j) (.int k) (fun k' e => by injection e with e; rw [← e]; exact hk) (fun i' j' k' e1 e2 e3 _ => by injection e1 with e1; injection e2 with e2; injection e3 with e3; rw [← e1, ← e2, ← e3]; exact ok)
    (fun v e => by
      exfalso
      unfold badOf at e
      rw [if_neg (by simp [isI]), if_neg (by simp [isI]), if_neg (by simp [isI]), if_neg (by intro z; injection z with z; exact n z)] at e
      cases e)
abbrev s_Root_neg : Stmt := inClass (top 11) 8
theorem sc_Root_neg : FnScope ["self"] ["self"] (defScope s_Root_neg) := ⟨rfl, rfl, rfl, by decide +kernel, rfl, by decide +kernel, by decide +kernel⟩

def sp_Root_neg (Z : Zs) : Sp := fun vs H Q E =>
  ∃ v t r b, vs = [v] ∧ RootAt Z.c_Root H v t r b ∧ b ≠ 0 ∧ Bd b ∧ ∀ v' H', Same H H' → RootAt Z.c_Root H' v' (lowT (-t) (-r) b) (lowR (-t) (-r) b) (lowB (-t) (-r) b) → Q v' H'
theorem ok_Root_neg (T : Txt Z mg) (h_Root : HasC P w Z.K mg base "Root" Z.c_Root 3 ["self", "top", "root", "bottom"] (sp_Root_init Z)) (D : AtM Z.K Z.c_Root "__neg__" "Root.__neg__" s_Root_neg ["self"]) : HasM P w Z.K mg base Z.c_Root "__neg__" 5 ["self"] (sp_Root_neg Z) := by
  refine D.ok sc_Root_neg (fun vs H Q E h => ?_) (fun cdv A outer s H vs Q E hr h => ?_)
  · obtain ⟨v, t, r, b, rfl, _⟩ := h
    rfl
  · refine ⟨_, (pss_one (ps_ret (pe_hc (E := ED E) h_Root hr (paW (takes_of rfl rfl rfl rfl)) (pa_cons (pe_un un_neg (pe_fld (pv 0) rfl)) (pa_cons (pe_un un_neg (pe_fld (pv 0) rfl)) (pa_cons (pe_fld (pv 0) rfl) pa_nil)))))), ?_⟩
    try simp only [cxOf]
    obtain ⟨v, t, r, b, rfl, ⟨a, dx, rfl, ha⟩, hb, hk, q⟩ := h
    walk_at "W"
    refine w_fld ha T.c_Root T.nf_top (rf_top _ _ _) ?_
    walk_at "W"
    refine w_fld ha T.c_Root T.nf_root (rf_root _ _ _) ?_
    walk_at "W"
    refine w_fld ha T.c_Root T.nf_bottom (rf_bottom _ _ _) ?_
    walk_at "W"
    exact k_mkRootI hb hk q
/-! ### lowest terms -/
theorem fdiv_exact {g x : Int} (h : g ≠ 0) (d : g ∣ x) : x.fdiv g * g = x := by
  obtain ⟨c, rfl⟩ := d
  rw [Int.mul_comm g c, Int.mul_fdiv_cancel _ h]
theorem sg_dvd (t r b : Int) : sg t r b ∣ t ∧ sg t r b ∣ r ∧ sg t r b ∣ b := by
  have h1 : (((t.natAbs.gcd r.natAbs).gcd b.natAbs : Nat) : Int) ∣ t := Int.ofNat_dvd_left.mpr (Nat.dvd_trans (Nat.gcd_dvd_left _ _) (Nat.gcd_dvd_left _ _))
  have h2 : (((t.natAbs.gcd r.natAbs).gcd b.natAbs : Nat) : Int) ∣ r := Int.ofNat_dvd_left.mpr (Nat.dvd_trans (Nat.gcd_dvd_left _ _) (Nat.gcd_dvd_right _ _))
  have h3 : (((t.natAbs.gcd r.natAbs).gcd b.natAbs : Nat) : Int) ∣ b := Int.ofNat_dvd_left.mpr (Nat.gcd_dvd_right _ _)
  unfold sg
  split
  · exact ⟨Int.neg_dvd.mpr h1, Int.neg_dvd.mpr h2, Int.neg_dvd.mpr h3⟩
  · exact ⟨h1, h2, h3⟩
/-- t r b are x y z, each times one number that is not 0, z is above 0 and no number above 1 divides x, y, z -/
structure Low (t r b x y z : Int) : Prop where
  s : ∃ s : Int, s ≠ 0 ∧ t = x * s ∧ r = y * s ∧ b = z * s
  pos : 0 < z
  one : (x.natAbs.gcd y.natAbs).gcd z.natAbs = 1
theorem low_is {t r b : Int} (h : b ≠ 0) : Low t r b (lowT t r b) (lowR t r b) (lowB t r b) := by
  have hs := sg_ne (t := t) (r := r) h
  obtain ⟨d1, d2, d3⟩ := sg_dvd t r b
  have e1 := fdiv_exact hs d1
  have e2 := fdiv_exact hs d2
  have e3 := fdiv_exact hs d3
  refine ⟨⟨_, hs, e1.symm, e2.symm, e3.symm⟩, ?_, ?_⟩
  · have hz : lowB t r b * sg t r b = b := e3
    have hsg : (b < 0 → sg t r b < 0) ∧ (¬ b < 0 → 0 < sg t r b) := by
      have : 0 < (t.natAbs.gcd r.natAbs).gcd b.natAbs := Nat.gcd_pos_of_pos_right _ (Int.natAbs_pos.mpr h)
      unfold sg
      constructor <;> intro hb <;> simp only [hb, if_true, if_false] <;> omega
    rcases Int.lt_trichotomy (lowB t r b) 0 with z | z | z
    · exfalso
      by_cases hb : b < 0
      · have := Int.mul_pos_of_neg_of_neg z (hsg.1 hb); omega
      · have := Int.mul_neg_of_neg_of_pos z (hsg.2 hb); omega
    · rw [z] at hz; omega
    · exact z
  · have hg : 0 < (t.natAbs.gcd r.natAbs).gcd b.natAbs := Nat.gcd_pos_of_pos_right _ (Int.natAbs_pos.mpr h)
    have hn : (sg t r b).natAbs = (t.natAbs.gcd r.natAbs).gcd b.natAbs := by unfold sg; split <;> omega
    have f1 : t.natAbs = (lowT t r b).natAbs * (sg t r b).natAbs := by rw [← Int.natAbs_mul]; exact congrArg _ e1.symm
    have f2 : r.natAbs = (lowR t r b).natAbs * (sg t r b).natAbs := by rw [← Int.natAbs_mul]; exact congrArg _ e2.symm
    have f3 : b.natAbs = (lowB t r b).natAbs * (sg t r b).natAbs := by rw [← Int.natAbs_mul]; exact congrArg _ e3.symm
    have : (((lowT t r b).natAbs.gcd (lowR t r b).natAbs).gcd (lowB t r b).natAbs) * (sg t r b).natAbs = 1 * (sg t r b).natAbs := by
      rw [← Nat.gcd_mul_right, ← Nat.gcd_mul_right, ← f1, ← f2, ← f3, Nat.one_mul, hn]
    exact Nat.eq_of_mul_eq_mul_right (by rw [hn]; exact hg) this
/-- lowest terms are told by the number alone -/
theorem Low.uniq {t r b x y z x' y' z' : Int} (h : Low t r b x y z) (h' : Low t r b x' y' z') : x = x' ∧ y = y' ∧ z = z' := by
  obtain ⟨⟨s, hs, a1, a2, a3⟩, p, o⟩ := h
  obtain ⟨⟨s', hs', b1, b2, b3⟩, p', o'⟩ := h'
  have k : ∀ {x y z s x' y' z' s' : Int}, x * s = x' * s' → y * s = y' * s' → z * s = z' * s' → ((x.natAbs.gcd y.natAbs).gcd z.natAbs) * s.natAbs = ((x'.natAbs.gcd y'.natAbs).gcd z'.natAbs) * s'.natAbs := fun {x y z s x' y' z' s'} h1 h2 h3 => by
    rw [← Nat.gcd_mul_right, ← Nat.gcd_mul_right, ← Nat.gcd_mul_right, ← Nat.gcd_mul_right, ← Int.natAbs_mul, ← Int.natAbs_mul, ← Int.natAbs_mul, ← Int.natAbs_mul, ← Int.natAbs_mul, ← Int.natAbs_mul, h1, h2, h3]
  have e := k (a1.symm.trans b1) (a2.symm.trans b2) (a3.symm.trans b3)
  rw [o, o', Nat.one_mul, Nat.one_mul] at e
  have ez : z * s = z' * s' := a3.symm.trans b3
  have es : s = s' := by
    rcases Int.natAbs_eq_natAbs_iff.mp e with q | q
    · exact q
    · exfalso
      rw [q, Int.mul_neg] at ez
      have : (z + z') * s' = 0 := by rw [Int.add_mul, ← ez]; omega
      rcases Int.mul_eq_zero.mp this with w | w
      · omega
      · exact hs' w
  subst es
  exact ⟨Int.eq_of_mul_eq_mul_right hs (a1.symm.trans b1), Int.eq_of_mul_eq_mul_right hs (a2.symm.trans b2), Int.eq_of_mul_eq_mul_right hs ez⟩
theorem Low.eqs {t r b x y z : Int} (h : Low t r b x y z) (hb : b ≠ 0) : x = lowT t r b ∧ y = lowR t r b ∧ z = lowB t r b := h.uniq (low_is hb)
theorem Low.zle {t r b x y z : Int} (h : Low t r b x y z) : z.natAbs ≤ b.natAbs := by
  obtain ⟨⟨s, hs, _, _, e⟩, _, _⟩ := h
  rw [e, Int.natAbs_mul]
  exact Nat.le_mul_of_pos_right _ (Int.natAbs_pos.mpr hs)
theorem Low.self {t r b x y z : Int} (h : Low t r b x y z) : Low x y z x y z := ⟨⟨1, by decide, by simp, by simp, by simp⟩, h.pos, h.one⟩
theorem Low.scale {t r b x y z : Int} (h : Low t r b x y z) {f : Int} (hf : f ≠ 0) : Low (t * f) (r * f) (b * f) x y z := by
  obtain ⟨⟨s, hs, a1, a2, a3⟩, p, o⟩ := h
  exact ⟨⟨s * f, Int.mul_ne_zero hs hf, by rw [a1, Int.mul_assoc], by rw [a2, Int.mul_assoc], by rw [a3, Int.mul_assoc]⟩, p, o⟩
theorem Low.turned {t r b x y z : Int} (h : Low t r b x y z) : Low t (-r) b x (-y) z := by
  obtain ⟨⟨s, hs, a1, a2, a3⟩, p, o⟩ := h
  exact ⟨⟨s, hs, a1, by rw [a2, Int.neg_mul], a3⟩, p, by rw [Int.natAbs_neg]; exact o⟩
theorem Low.neg {t r b x y z : Int} (h : Low t r b x y z) : Low (-t) (-r) b (-x) (-y) z := by
  obtain ⟨⟨s, hs, a1, a2, a3⟩, p, o⟩ := h
  exact ⟨⟨s, hs, by rw [a1, Int.neg_mul], by rw [a2, Int.neg_mul], a3⟩, p, by rw [Int.natAbs_neg, Int.natAbs_neg]; exact o⟩
theorem Low.far {t r b x y z x' y' z' : Int} (h : Low t r b x y z) (h' : Low (t + b) r b x' y' z') (hb : b ≠ 0) : ¬ (x' = x ∧ y' = y ∧ z' = z) := by
  rintro ⟨rfl, rfl, rfl⟩
  obtain ⟨⟨s, hs, a1, a2, a3⟩, p, o⟩ := h
  obtain ⟨⟨s', hs', b1, b2, b3⟩, _, _⟩ := h'
  have : s = s' := Int.eq_of_mul_eq_mul_left (by omega) (a3.symm.trans b3)
  subst this
  rw [← a1] at b1
  omega
theorem Low.aside {t r b x y z x' y' z' : Int} (h : Low t r b x y z) (h' : Low t (r + 1) b x' y' z') : ¬ (x' = x ∧ y' = y ∧ z' = z) := by
  rintro ⟨rfl, rfl, rfl⟩
  obtain ⟨⟨s, hs, a1, a2, a3⟩, p, o⟩ := h
  obtain ⟨⟨s', hs', b1, b2, b3⟩, _, _⟩ := h'
  have : s = s' := Int.eq_of_mul_eq_mul_left (by omega) (a3.symm.trans b3)
  subst this
  rw [← a2] at b2
  omega
theorem Low.whole {t r b x y z : Int} (h : Low t r b x y z) (w : Int) : (y = 0 ∧ z = 1 ∧ x = w) ↔ (r = 0 ∧ t = w * b) := by
  obtain ⟨⟨s, hs, a1, a2, a3⟩, p, o⟩ := h
  constructor
  · rintro ⟨rfl, rfl, rfl⟩
    rw [Int.one_mul] at a3
    rw [a3]
    exact ⟨by rw [a2, Int.zero_mul], a1⟩
  · rintro ⟨hr, ht⟩
    have hy : y = 0 := by
      rcases Int.mul_eq_zero.mp (a2.symm.trans hr) with q | q
      · exact q
      · exact absurd q hs
    have hx : x = w * z := by
      rw [a1, a3, ← Int.mul_assoc] at ht
      exact Int.eq_of_mul_eq_mul_right hs ht
    subst hy
    rw [hx, Int.natAbs_zero, Nat.gcd_zero_right, Int.natAbs_mul, Nat.gcd_mul_left_left] at o
    have : z = 1 := by omega
    subst this
    exact ⟨rfl, rfl, by rw [hx, Int.mul_one]⟩
theorem eqRt_root {H : Hp} {t r b t' r' b' : Int} {v : V} {c : Addr} (h : RootAt c H v t' r' b') : eqRt H t r b v = decide (t' = t ∧ r' = r ∧ b' = b) := by
  obtain ⟨a, dx, rfl, e⟩ := h
  unfold eqRt
  simp only [e, rf_eq]
theorem RootAt.th {c : Addr} {H : Hp} {v : V} {t r b : Int} (h : RootAt c H v t r b) : Th c H v := by
  obtain ⟨a, dx, rfl, e⟩ := h
  exact .root a dx t r b e
theorem RootAt.sx {c st sc : Addr} {H H' : Hp} {v : V} {t r b : Int} (h : RootAt c H v t r b) (hs : StA H st sc) (s : SameX st H H') : RootAt c H' v t r b := by
  obtain ⟨a, dx, rfl, e⟩ := h
  exact ⟨a, dx, rfl, s _ _ (hs.ne e (by intro xs z; cases z)) e⟩
theorem k_eqC {mg : Str → Option Value} (T : Txt Z mg) {H : Hp} {Q : VK} {E : XK} {x y : V} {t r b : Int} (hx : RootAt Z.c_Root H x t r b) (hy : Th Z.c_Root H y) (q : Q (.bl (eqRt H t r b y)) H) : rOwnC Z.K Z.c_Root (sp_Root_eq Z) E x y H Q := by
  obtain ⟨a, dx, rfl, e⟩ := hx
  obtain ⟨ty, hty, _, _, _, nf⟩ := hy.ty T.ki
  exact ⟨a, dx, _, ty, rfl, e, hty, nf, _, _, t, r, b, rfl, ⟨a, dx, rfl, e⟩, hy, q⟩
theorem k_eqR {mg : Str → Option Value} (T : Txt Z mg) {H : Hp} {Q : VK} {E : XK} {x y : V} {t r b : Int} (hy : RootAt Z.c_Root H y t r b) (hx : (∃ i, x = .int i) ∨ ∃ b, x = .bl b) (q : Q (.bl (eqRt H t r b x)) H) : rOwnR Z.K Z.c_Root (sp_Root_eq Z) E x y H Q := by
  obtain ⟨a, dx, rfl, e⟩ := hy
  rcases hx with ⟨i, rfl⟩ | ⟨c, rfl⟩
  · exact ⟨a, dx, _, rfl, e, .inl ⟨⟨i, rfl⟩, T.ki.s1⟩, _, _, t, r, b, rfl, ⟨a, dx, rfl, e⟩, .int i, q⟩
  · exact ⟨a, dx, _, rfl, e, .inr ⟨⟨c, rfl⟩, T.ki.s2⟩, _, _, t, r, b, rfl, ⟨a, dx, rfl, e⟩, .bl c, q⟩
local macro_rules | `(tactic| walk_at "bw") => `(tactic| first | assumption | exact L2.My.Bw.two | exact L2.My.Bw.zero | exact L2.My.Bw.one | ((refine' L2.My.Bw.mul ?hx ?hy); (case hx => walk_at "bw"); (case hy => walk_at "bw")) | ((refine' L2.My.Bw.add ?hx ?hy); (case hx => walk_at "bw"); (case hy => walk_at "bw")) | ((refine' L2.My.Bw.sub ?hx ?hy); (case hx => walk_at "bw"); (case hy => walk_at "bw")) | ((refine' L2.My.Bw.neg ?hx); (case hx => walk_at "bw")))
local macro_rules | `(tactic| walk_at "mul") => `(tactic| ((refine' L2.My.w_I (L2.My.bwm (m := ?m) (n := ?n) ?hx ?hy ?hm) ?_); (case hx => walk_at "bw"); (case hy => walk_at "bw"); (case hm => decide)))
/-- a number, as a Root or as an int -/
def NumAt (c : Addr) (H : Hp) (v : V) (t r b : Int) : Prop := RootAt c H v t r b ∨ ∃ i, v = .int i ∧ t = i ∧ r = 0 ∧ b = 1
/-- its parts are not too great, the bottom is not 0 -/
structure Sm (t r b : Int) : Prop where
  ht : Bw 1000 t
  hr : Bw 1000 r
  hb : Bw 1000 b
  lw : Low t r b t r b
theorem Sm.hn {t r b : Int} (h : Sm t r b) : b ≠ 0 := by have := h.lw.pos; omega
theorem bw_div {n : Nat} {x y s : Int} (h : Bw n x) (e : x = y * s) (hs : s ≠ 0) : Bw n y := by
  unfold Bw at *
  rw [e, Int.natAbs_mul] at h
  exact Nat.lt_of_le_of_lt (Nat.le_mul_of_pos_right _ (Int.natAbs_pos.mpr hs)) h
theorem Sm.low {t r b : Int} (hb : b ≠ 0) (bt : Bw 1000 t) (br : Bw 1000 r) (bb : Bw 1000 b) : Sm (lowT t r b) (lowR t r b) (lowB t r b) := by
  have l := low_is (t := t) (r := r) hb
  obtain ⟨s, hs, e1, e2, e3⟩ := l.s
  exact ⟨bw_div bt e1 hs, bw_div br e2 hs, bw_div bb e3 hs, l.self⟩
theorem low_congr {t r b t' r' b' s : Int} (hb : b' ≠ 0) (hs : s ≠ 0) (e1 : t = t' * s) (e2 : r = r' * s) (e3 : b = b' * s) : lowT t r b = lowT t' r' b' ∧ lowR t r b = lowR t' r' b' ∧ lowB t r b = lowB t' r' b' := by
  have l := (low_is (t := t') (r := r') hb).scale hs
  rw [← e1, ← e2, ← e3] at l
  obtain ⟨a, b, c⟩ := l.eqs (by rw [e3]; exact Int.mul_ne_zero hb hs)
  exact ⟨a.symm, b.symm, c.symm⟩
/-- a Root that is (t + r * root) / b in lowest terms -/
def LowAt (c : Addr) (H : Hp) (v : V) (t r b : Int) : Prop := RootAt c H v (lowT t r b) (lowR t r b) (lowB t r b)
theorem LowAt.congr {c : Addr} {H : Hp} {v : V} {t r b t' r' b' s : Int} (h : LowAt c H v t r b) (hb : b' ≠ 0) (hs : s ≠ 0) (e1 : t = t' * s) (e2 : r = r' * s) (e3 : b = b' * s) : LowAt c H v t' r' b' := by
  obtain ⟨a, b, c⟩ := low_congr hb hs e1 e2 e3
  unfold LowAt at *
  rw [← a, ← b, ← c]
  exact h
theorem LowAt.congr' {c : Addr} {H : Hp} {v : V} {t r b t' r' b' s : Int} (h : LowAt c H v t r b) (hb : b ≠ 0) (hs : s ≠ 0) (e1 : t' = t * s) (e2 : r' = r * s) (e3 : b' = b * s) : LowAt c H v t' r' b' := by
  obtain ⟨a, b, c⟩ := low_congr hb hs e1 e2 e3
  unfold LowAt at *
  rw [a, b, c]
  exact h
/-- what two numbers make -/
structure F3 where
  t : Int → Int → Int → Int → Int → Int → Int
  r : Int → Int → Int → Int → Int → Int → Int
  b : Int → Int → Int → Int → Int → Int → Int
def plus : F3 := ⟨fun t _ b t' _ b' => t * b' + t' * b, fun _ r b _ r' b' => r * b' + r' * b, fun _ _ b _ _ b' => b * b'⟩
def minus : F3 := ⟨fun t _ b t' _ b' => t * b' - t' * b, fun _ r b _ r' b' => r * b' - r' * b, fun _ _ b _ _ b' => b * b'⟩
def times : F3 := ⟨fun t r _ t' r' _ => t * t' + 2 * r * r', fun t r _ t' r' _ => t * r' + r * t', fun _ _ b _ _ b' => b * b'⟩
/-- other minus one -/
def back (F : F3) : F3 := ⟨fun t r b t' r' b' => F.t t' r' b' t r b, fun t r b t' r' b' => F.r t' r' b' t r b, fun t r b t' r' b' => F.b t' r' b' t r b⟩
def spBin (c : Addr) (F : F3) : Sp := fun vs H Q _ => ∃ v o t r b t' r' b', vs = [v, o] ∧ RootAt c H v t r b ∧ Sm t r b ∧ NumAt c H o t' r' b' ∧ Sm t' r' b' ∧
  ∀ v' H', Same H H' → LowAt c H' v' (F.t t r b t' r' b') (F.r t r b t' r' b') (F.b t r b t' r' b') → Q v' H'
def isN (c : Addr) (H : Hp) (v : V) : Bool := isC c H v || isI v
theorem RootAt.isC {c : Addr} {H : Hp} {v : V} {t r b : Int} (h : RootAt c H v t r b) : isC c H v = true := by
  obtain ⟨a, dx, rfl, e⟩ := h
  show (match H a with | some (.ins C _ _) => decide (C = c) | _ => false) = true
  rw [e]
  exact decide_eq_true rfl
theorem NumAt.th {c : Addr} {H : Hp} {v : V} {t r b : Int} (h : NumAt c H v t r b) : Th c H v := by
  rcases h with ⟨a, dx, rfl, e⟩ | ⟨i, rfl, _⟩
  · exact .root a dx t r b e
  · exact .int i
theorem NumAt.isN {c : Addr} {H : Hp} {v : V} {t r b : Int} (h : NumAt c H v t r b) : isN c H v = true := by
  unfold L2.My.isN
  rcases h with h | ⟨i, rfl, _⟩
  · rw [h.isC]; rfl
  · rfl
theorem NumAt.same {c : Addr} {H H' : Hp} {v : V} {t r b : Int} (h : NumAt c H v t r b) (s : Same H H') : NumAt c H' v t r b := h.imp (·.same s) id
theorem low1 (i : Int) : lowT i 0 1 = i ∧ lowR i 0 1 = 0 ∧ lowB i 0 1 = 1 := by
  have e : sg i 0 1 = 1 := by unfold sg; rw [if_neg (by decide)]; simp
  unfold lowT lowR lowB
  rw [e]
  exact ⟨Int.fdiv_one i, by decide, by decide⟩
abbrev s_is_number : Stmt := top 7
theorem sc_is_number : FnScope ["thing"] ["thing"] (defScope s_is_number) := ⟨rfl, rfl, rfl, by decide +kernel, rfl, by decide +kernel, by decide +kernel⟩

def sp_is_number (Z : Zs) : Sp := fun vs H Q E =>
  ∃ v, vs = [v] ∧ Th Z.c_Root H v ∧ Q (.bl (isN Z.c_Root H v)) H
theorem ok_is_number (T : Txt Z mg) (h_is_integral : Has P w Z.K mg base "is_integral" 1 ["thing"] (sp_is_integral Z)) (D : AtF Z.K mg "is_number" "is_number" s_is_number ["thing"]) : Has P w Z.K mg base "is_number" 2 ["thing"] (sp_is_number Z) := by
  refine D.ok sc_is_number (fun vs H Q E h => ?_) (fun cdv A outer s H vs Q E hr h => ?_)
  · obtain ⟨v, rfl, _⟩ := h
    rfl
  · refine ⟨_, (pss_one (ps_ret (pe_or (pe_callB call_isi rfl T.n_isinstance (by decide +kernel) (pa_cons (pv 0) (pa_cons (pe_glob (v := .ref Z.c_Root) rfl T.g_Root rfl) pa_nil))) (pe_one (pe_h (E := ED E) h_is_integral hr (paW (takes_of rfl rfl rfl rfl)) (pa_cons (pv 0) pa_nil)))))), ?_⟩
    try simp only [cxOf]
    obtain ⟨v, rfl, hv, q⟩ := h
    obtain ⟨ty, hty, _, _, k3, _⟩ := hv.ty T.ki
    unfold isN at q
    walk_at "W"
    refine w_isiC hty k3 ?_
    walk_at "W"
    cases e : isC Z.c_Root H v
    · rw [e] at q
      walk_at "W"
      refine ⟨v, rfl, hv, ?_⟩
      walk_at "W"
      exact q
    · rw [e] at q
      walk_at "W"
      exact q
abbrev s_as_root : Stmt := top 8
theorem sc_as_root : FnScope ["number"] ["number"] (defScope s_as_root) := ⟨rfl, rfl, rfl, by decide +kernel, rfl, by decide +kernel, by decide +kernel⟩

def sp_as_root (Z : Zs) : Sp := fun vs H Q E =>
  ∃ v t r b, vs = [v] ∧ NumAt Z.c_Root H v t r b ∧ ∀ v' H', Same H H' → RootAt Z.c_Root H' v' t r b → Q v' H'
theorem ok_as_root (T : Txt Z mg) (h_Root : HasC P w Z.K mg base "Root" Z.c_Root 3 ["self", "top", "root", "bottom"] (sp_Root_init Z)) (D : AtF Z.K mg "as_root" "as_root" s_as_root ["number"]) : Has P w Z.K mg base "as_root" 5 ["number"] (sp_as_root Z) := by
  refine D.ok sc_as_root (fun vs H Q E h => ?_) (fun cdv A outer s H vs Q E hr h => ?_)
  · obtain ⟨v, t, r, b, rfl, _⟩ := h
    rfl
  · refine ⟨_, (pss_cons (ps_if (pt_val (pe_callB call_isi rfl T.n_isinstance (by decide +kernel) (pa_cons (pv 0) (pa_cons (pe_glob (v := .ref Z.c_Root) rfl T.g_Root rfl) pa_nil)))) (pss_one (ps_ret (pv 0))) pss_nil)
      (pss_one (ps_ret (pe_hc (E := ED E) h_Root hr (paW (takes_of rfl rfl rfl rfl)) (pa_cons (pv 0) (pa_cons pe_int (pa_cons pe_int pa_nil))))))), ?_⟩
    try simp only [cxOf]
    obtain ⟨v, t, r, b, rfl, hv, q⟩ := h
    obtain ⟨ty, hty, _, _, k3, _⟩ := hv.th.ty T.ki
    walk_at "W"
    refine w_isiC hty k3 ?_
    rcases hv with hv | ⟨i, rfl, rfl, rfl, rfl⟩
    · rw [hv.isC]
      walk_at "W"
      exact q _ _ (Same.refl _) hv
    · have e : isC Z.c_Root H (.int t) = false := rfl
      rw [e]
      walk_at "W"
      refine k_mkRootI (by decide) (Bw.one.bd (by decide)) fun v' H' s hv' => ?_
      obtain ⟨e1, e2, e3⟩ := low1 t
      rw [e1, e2, e3] at hv'
      exact q _ _ s hv'
/-- the sign of t + r * the square root of 2 -/
def sgn (t r : Int) : Int :=
  if t = 0 ∧ r = 0 then 0 else if 0 ≤ t ∧ 0 ≤ r then 1 else if t ≤ 0 ∧ r ≤ 0 then -1 else if t * t > 2 * r * r then (if 0 < t then 1 else -1) else if 0 < r then 1 else -1
abbrev s_surd_sign : Stmt := top 9
theorem sc_surd_sign : FnScope ["top", "root"] ["top", "root"] (defScope s_surd_sign) := ⟨rfl, rfl, rfl, by decide +kernel, rfl, by decide +kernel, by decide +kernel⟩

def sp_surd_sign (Z : Zs) : Sp := fun vs H Q E =>
  ∃ t r : Int, vs = [.int t, .int r] ∧ Bw 3000 t ∧ Bw 3000 r ∧ Q (.int (sgn t r)) H
theorem ok_surd_sign (T : Txt Z mg)  (D : AtF Z.K mg "surd_sign" "surd_sign" s_surd_sign ["top", "root"]) : Has P w Z.K mg base "surd_sign" 1 ["top", "root"] (sp_surd_sign Z) := by
  refine D.ok sc_surd_sign (fun vs H Q E h => ?_) (fun cdv A outer s H vs Q E hr h => ?_)
  · obtain ⟨t, r, rfl, _⟩ := h
    rfl
  · refine ⟨_, (C8.pss_cut (ps_if (PW.pt (pw_and (pt_cmpR op_ge (pv 0) pe_int (nomark _)) (pw_and1 (pt_cmpR op_ge (pv 1) pe_int (nomark _))))) (pss_one (ps_ret (pe_ifExp (PW.pt (pw_or (pt_cmpR op_gt (pv 0) pe_int (nomark _)) (pw_or1 (pt_cmpR op_gt (pv 1) pe_int (nomark _))))) pe_int pe_int))) pss_nil)
      (C8.pss_cut (ps_if (PW.pt (pw_and (pt_cmpR op_le (pv 0) pe_int (nomark _)) (pw_and1 (pt_cmpR op_le (pv 1) pe_int (nomark _))))) (pss_one (ps_ret (pe_un un_neg pe_int))) pss_nil)
      (pss_cons (ps_if (pt_cmpR op_gt (pe_op op_mulS (pv 0) (pv 0)) (pe_op op_mulS (pe_op op_mulS pe_int (pv 1)) (pv 1)) (nomark _)) (pss_one (ps_ret (pe_ifExp (pt_cmpR op_gt (pv 0) pe_int (nomark _)) pe_int (pe_un un_neg pe_int)))) pss_nil)
      (pss_one (ps_ret (pe_ifExp (pt_cmpR op_gt (pv 1) pe_int (nomark _)) pe_int (pe_un un_neg pe_int))))))), ?_⟩
    try simp only [cxOf]
    obtain ⟨t, r, rfl, bt, br, q⟩ := h
    have L : ∀ {k : Int}, sgn t r = k → Q (.int k) H := fun e => e ▸ q
    have big : ¬ (t = 0 ∧ r = 0) → ¬ (0 ≤ t ∧ 0 ≤ r) → ¬ (t ≤ 0 ∧ r ≤ 0) → ∀ {k : Int}, (if t * t > 2 * r * r then (if 0 < t then 1 else -1) else if 0 < r then 1 else -1) = k → Q (.int k) H := fun n1 n2 n3 k e => L (by unfold sgn; rw [if_neg n1, if_neg n2, if_neg n3]; exact e)
    walk_at "W"
    refine w_cut (fun σ' H' => (σ' = [some (.int t), some (.int r)] ∧ H' = H) ∧ ¬ (0 ≤ t ∧ 0 ≤ r)) ?_ ?_
    · walk_at "W"
      refine w_ite (fun h1 => ?_) (fun h1 => ?_)
      · walk_at "W"
        refine w_ite (fun h2 => ?_) (fun h2 => ?_)
        · walk_at "W"
          refine w_ite (fun h3 => ?_) (fun h3 => ?_)
          · walk_at "W"
            exact L (by unfold sgn; rw [if_neg (by omega), if_pos (by omega)])
          · walk_at "W"
            refine w_ite (fun h4 => ?_) (fun h4 => ?_)
            · walk_at "W"
              exact L (by unfold sgn; rw [if_neg (by omega), if_pos (by omega)])
            · walk_at "W"
              exact L (by unfold sgn; rw [if_pos (by omega)])
        · walk_at "W"
          exact ⟨⟨rfl, rfl⟩, by omega⟩
      · walk_at "W"
        exact ⟨⟨rfl, rfl⟩, by omega⟩
    rintro σ' H' ⟨⟨rfl, rfl⟩, n2⟩
    walk_at "W"
    refine w_cut (fun σ' H1 => (σ' = [some (.int t), some (.int r)] ∧ H1 = H') ∧ ¬ (t ≤ 0 ∧ r ≤ 0)) ?_ ?_
    · walk_at "W"
      refine w_ite (fun h1 => ?_) (fun h1 => ?_)
      · walk_at "W"
        refine w_ite (fun h2 => ?_) (fun h2 => ?_)
        · walk_at "W"
          exact L (by unfold sgn; rw [if_neg (by omega), if_neg (by omega), if_pos (by omega)])
        · walk_at "W"
          exact ⟨⟨rfl, rfl⟩, by omega⟩
      · walk_at "W"
        exact ⟨⟨rfl, rfl⟩, by omega⟩
    rintro σ' H1 ⟨⟨rfl, rfl⟩, n3⟩
    walk_at "W"
    walk_at "mul"
    walk_at "W"
    walk_at "mul"
    walk_at "W"
    have go : ∀ {k : Int}, (if t * t > 2 * r * r then (if 0 < t then 1 else -1) else if 0 < r then 1 else -1) = k → Q (.int k) H1 := fun e => big (by omega) n2 n3 e
    refine w_ite (fun h1 => ?_) (fun h1 => ?_)
    · walk_at "W"
      refine w_ite (fun h2 => ?_) (fun h2 => ?_)
      · walk_at "W"
        exact go (by rw [if_pos h1, if_pos h2])
      · walk_at "W"
        exact go (by rw [if_pos h1, if_neg h2])
    · walk_at "W"
      refine w_ite (fun h2 => ?_) (fun h2 => ?_)
      · walk_at "W"
        exact go (by rw [if_neg h1, if_pos h2])
      · walk_at "W"
        exact go (by rw [if_neg h1, if_neg h2])
abbrev s_Root_add : Stmt := inClass (top 11) 2
theorem sc_Root_add : FnScope ["self", "other", "more", "top", "root"] ["self", "other"] (defScope s_Root_add) := ⟨rfl, rfl, rfl, by decide +kernel, rfl, by decide +kernel, by decide +kernel⟩

def sp_Root_add (Z : Zs) : Sp := fun vs H Q E =>
  spBin Z.c_Root plus vs H Q E
theorem ok_Root_add (T : Txt Z mg) (h_Root : HasC P w Z.K mg base "Root" Z.c_Root 3 ["self", "top", "root", "bottom"] (sp_Root_init Z)) (h_as_root : Has P w Z.K mg base "as_root" 5 ["number"] (sp_as_root Z)) (h_is_number : Has P w Z.K mg base "is_number" 2 ["thing"] (sp_is_number Z)) (D : AtM Z.K Z.c_Root "__add__" "Root.__add__" s_Root_add ["self", "other"]) : HasM P w Z.K mg base Z.c_Root "__add__" 6 ["self", "other"] (sp_Root_add Z) := by
  refine D.ok sc_Root_add (fun vs H Q E h => ?_) (fun cdv A outer s H vs Q E hr h => ?_)
  · obtain ⟨v, o, t, r, b, t', r', b', rfl, _⟩ := h
    rfl
  · refine ⟨_, (pss_cons (ps_if (pt_not (pt_val (pe_h (E := ED E) h_is_number hr (paW (takes_of rfl rfl rfl rfl)) (pa_cons (pv 1) pa_nil)))) (pss_one ps_never) pss_nil)
      (pss_cons (ps_set (i := 2) sc_Root_add.nd rfl (Or.inl rfl) (pe_h (E := ED E) h_as_root hr (paW (takes_of rfl rfl rfl rfl)) (pa_cons (pv 1) pa_nil)))
      (pss_cons (ps_set (i := 3) sc_Root_add.nd rfl (Or.inl rfl) (pe_op op_add (pe_op op_mulS (pe_fld (pv 0) rfl) (pe_fld (pv 2) rfl)) (pe_op op_mulS (pe_fld (pv 2) rfl) (pe_fld (pv 0) rfl))))
      (pss_cons (ps_set (i := 4) sc_Root_add.nd rfl (Or.inl rfl) (pe_op op_add (pe_op op_mulS (pe_fld (pv 0) rfl) (pe_fld (pv 2) rfl)) (pe_op op_mulS (pe_fld (pv 2) rfl) (pe_fld (pv 0) rfl))))
      (pss_one (ps_ret (pe_hc (E := ED E) h_Root hr (paW (takes_of rfl rfl rfl rfl)) (pa_cons (pv 3) (pa_cons (pv 4) (pa_cons (pe_op op_mulS (pe_fld (pv 0) rfl) (pe_fld (pv 2) rfl)) pa_nil)))))))))), ?_⟩
    try simp only [cxOf]
    obtain ⟨v, o, t, r, b, t', r', b', rfl, ⟨a, dx, rfl, ha⟩, ⟨bt, br, bb, lw⟩, ho, ⟨bt', br', bb', lw'⟩, q⟩ := h
    have p := lw.pos
    have p' := lw'.pos
    walk_at "W"
    refine ⟨o, rfl, ho.th, ?_⟩
    rw [ho.isN]
    walk_at "W"
    refine ⟨o, t', r', b', rfl, ho, ?_⟩
    rintro m H1 s1 ⟨a', dx', rfl, ha'⟩
    have ha1 := s1 _ _ ha
    repeat (first | walk_at "s" | walk_at "mul" | refine w_fld ha1 T.c_Root T.nf_top (rf_top _ _ _) ?_ | refine w_fld ha1 T.c_Root T.nf_root (rf_root _ _ _) ?_ | refine w_fld ha1 T.c_Root T.nf_bottom (rf_bottom _ _ _) ?_ | refine w_fld ha' T.c_Root T.nf_top (rf_top _ _ _) ?_ | refine w_fld ha' T.c_Root T.nf_root (rf_root _ _ _) ?_ | refine w_fld ha' T.c_Root T.nf_bottom (rf_bottom _ _ _) ?_)
    exact k_mkRootI (Int.mul_ne_zero (by omega) (by omega)) ((bb.mul bb').bd (by decide)) fun v' H' s' hv => q v' H' (s1.trans s') hv
abbrev s_Root_sub : Stmt := inClass (top 11) 4
theorem sc_Root_sub : FnScope ["self", "other", "less", "top", "root"] ["self", "other"] (defScope s_Root_sub) := ⟨rfl, rfl, rfl, by decide +kernel, rfl, by decide +kernel, by decide +kernel⟩

def sp_Root_sub (Z : Zs) : Sp := fun vs H Q E =>
  spBin Z.c_Root minus vs H Q E
theorem ok_Root_sub (T : Txt Z mg) (h_Root : HasC P w Z.K mg base "Root" Z.c_Root 3 ["self", "top", "root", "bottom"] (sp_Root_init Z)) (h_as_root : Has P w Z.K mg base "as_root" 5 ["number"] (sp_as_root Z)) (h_is_number : Has P w Z.K mg base "is_number" 2 ["thing"] (sp_is_number Z)) (D : AtM Z.K Z.c_Root "__sub__" "Root.__sub__" s_Root_sub ["self", "other"]) : HasM P w Z.K mg base Z.c_Root "__sub__" 6 ["self", "other"] (sp_Root_sub Z) := by
  refine D.ok sc_Root_sub (fun vs H Q E h => ?_) (fun cdv A outer s H vs Q E hr h => ?_)
  · obtain ⟨v, o, t, r, b, t', r', b', rfl, _⟩ := h
    rfl
  · refine ⟨_, (pss_cons (ps_if (pt_not (pt_val (pe_h (E := ED E) h_is_number hr (paW (takes_of rfl rfl rfl rfl)) (pa_cons (pv 1) pa_nil)))) (pss_one ps_never) pss_nil)
      (pss_cons (ps_set (i := 2) sc_Root_sub.nd rfl (Or.inl rfl) (pe_h (E := ED E) h_as_root hr (paW (takes_of rfl rfl rfl rfl)) (pa_cons (pv 1) pa_nil)))
      (pss_cons (ps_set (i := 3) sc_Root_sub.nd rfl (Or.inl rfl) (pe_op op_sub (pe_op op_mulS (pe_fld (pv 0) rfl) (pe_fld (pv 2) rfl)) (pe_op op_mulS (pe_fld (pv 2) rfl) (pe_fld (pv 0) rfl))))
      (pss_cons (ps_set (i := 4) sc_Root_sub.nd rfl (Or.inl rfl) (pe_op op_sub (pe_op op_mulS (pe_fld (pv 0) rfl) (pe_fld (pv 2) rfl)) (pe_op op_mulS (pe_fld (pv 2) rfl) (pe_fld (pv 0) rfl))))
      (pss_one (ps_ret (pe_hc (E := ED E) h_Root hr (paW (takes_of rfl rfl rfl rfl)) (pa_cons (pv 3) (pa_cons (pv 4) (pa_cons (pe_op op_mulS (pe_fld (pv 0) rfl) (pe_fld (pv 2) rfl)) pa_nil)))))))))), ?_⟩
    try simp only [cxOf]
    obtain ⟨v, o, t, r, b, t', r', b', rfl, ⟨a, dx, rfl, ha⟩, ⟨bt, br, bb, lw⟩, ho, ⟨bt', br', bb', lw'⟩, q⟩ := h
    have p := lw.pos
    have p' := lw'.pos
    walk_at "W"
    refine ⟨o, rfl, ho.th, ?_⟩
    rw [ho.isN]
    walk_at "W"
    refine ⟨o, t', r', b', rfl, ho, ?_⟩
    rintro m H1 s1 ⟨a', dx', rfl, ha'⟩
    have ha1 := s1 _ _ ha
    repeat (first | walk_at "s" | walk_at "mul" | refine w_fld ha1 T.c_Root T.nf_top (rf_top _ _ _) ?_ | refine w_fld ha1 T.c_Root T.nf_root (rf_root _ _ _) ?_ | refine w_fld ha1 T.c_Root T.nf_bottom (rf_bottom _ _ _) ?_ | refine w_fld ha' T.c_Root T.nf_top (rf_top _ _ _) ?_ | refine w_fld ha' T.c_Root T.nf_root (rf_root _ _ _) ?_ | refine w_fld ha' T.c_Root T.nf_bottom (rf_bottom _ _ _) ?_)
    exact k_mkRootI (Int.mul_ne_zero (by omega) (by omega)) ((bb.mul bb').bd (by decide)) fun v' H' s' hv => q v' H' (s1.trans s') hv
abbrev s_Root_mul : Stmt := inClass (top 11) 6
theorem sc_Root_mul : FnScope ["self", "other", "by", "top", "root"] ["self", "other"] (defScope s_Root_mul) := ⟨rfl, rfl, rfl, by decide +kernel, rfl, by decide +kernel, by decide +kernel⟩

def sp_Root_mul (Z : Zs) : Sp := fun vs H Q E =>
  spBin Z.c_Root times vs H Q E
theorem ok_Root_mul (T : Txt Z mg) (h_Root : HasC P w Z.K mg base "Root" Z.c_Root 3 ["self", "top", "root", "bottom"] (sp_Root_init Z)) (h_as_root : Has P w Z.K mg base "as_root" 5 ["number"] (sp_as_root Z)) (h_is_number : Has P w Z.K mg base "is_number" 2 ["thing"] (sp_is_number Z)) (D : AtM Z.K Z.c_Root "__mul__" "Root.__mul__" s_Root_mul ["self", "other"]) : HasM P w Z.K mg base Z.c_Root "__mul__" 6 ["self", "other"] (sp_Root_mul Z) := by
  refine D.ok sc_Root_mul (fun vs H Q E h => ?_) (fun cdv A outer s H vs Q E hr h => ?_)
  · obtain ⟨v, o, t, r, b, t', r', b', rfl, _⟩ := h
    rfl
  · refine ⟨_, (pss_cons (ps_if (pt_not (pt_val (pe_h (E := ED E) h_is_number hr (paW (takes_of rfl rfl rfl rfl)) (pa_cons (pv 1) pa_nil)))) (pss_one ps_never) pss_nil)
      (pss_cons (ps_set (i := 2) sc_Root_mul.nd rfl (Or.inl rfl) (pe_h (E := ED E) h_as_root hr (paW (takes_of rfl rfl rfl rfl)) (pa_cons (pv 1) pa_nil)))
      (pss_cons (ps_set (i := 3) sc_Root_mul.nd rfl (Or.inl rfl) (pe_op op_add (pe_op op_mulS (pe_fld (pv 0) rfl) (pe_fld (pv 2) rfl)) (pe_op op_mulS (pe_op op_mulS pe_int (pe_fld (pv 0) rfl)) (pe_fld (pv 2) rfl))))
      (pss_cons (ps_set (i := 4) sc_Root_mul.nd rfl (Or.inl rfl) (pe_op op_add (pe_op op_mulS (pe_fld (pv 0) rfl) (pe_fld (pv 2) rfl)) (pe_op op_mulS (pe_fld (pv 0) rfl) (pe_fld (pv 2) rfl))))
      (pss_one (ps_ret (pe_hc (E := ED E) h_Root hr (paW (takes_of rfl rfl rfl rfl)) (pa_cons (pv 3) (pa_cons (pv 4) (pa_cons (pe_op op_mulS (pe_fld (pv 0) rfl) (pe_fld (pv 2) rfl)) pa_nil)))))))))), ?_⟩
    try simp only [cxOf]
    obtain ⟨v, o, t, r, b, t', r', b', rfl, ⟨a, dx, rfl, ha⟩, ⟨bt, br, bb, lw⟩, ho, ⟨bt', br', bb', lw'⟩, q⟩ := h
    have p := lw.pos
    have p' := lw'.pos
    walk_at "W"
    refine ⟨o, rfl, ho.th, ?_⟩
    rw [ho.isN]
    walk_at "W"
    refine ⟨o, t', r', b', rfl, ho, ?_⟩
    rintro m H1 s1 ⟨a', dx', rfl, ha'⟩
    have ha1 := s1 _ _ ha
    repeat (first | walk_at "s" | walk_at "mul" | refine w_fld ha1 T.c_Root T.nf_top (rf_top _ _ _) ?_ | refine w_fld ha1 T.c_Root T.nf_root (rf_root _ _ _) ?_ | refine w_fld ha1 T.c_Root T.nf_bottom (rf_bottom _ _ _) ?_ | refine w_fld ha' T.c_Root T.nf_top (rf_top _ _ _) ?_ | refine w_fld ha' T.c_Root T.nf_root (rf_root _ _ _) ?_ | refine w_fld ha' T.c_Root T.nf_bottom (rf_bottom _ _ _) ?_)
    exact k_mkRootI (Int.mul_ne_zero (by omega) (by omega)) ((bb.mul bb').bd (by decide)) fun v' H' s' hv => q v' H' (s1.trans s') hv
theorem k_ownL {x y : V} {t r b t' r' b' : Int} {H : Hp} {Q : VK} {sp : Sp} {E : XK} {c : Addr} (hx : RootAt c H x t r b) (hy : NumAt c H y t' r' b') (h : sp [x, y] H Q E) : rOwnL c sp E x y H Q := by
  obtain ⟨a, dx, rfl, ha⟩ := hx
  refine ⟨a, dx, _, rfl, ha, ?_, h⟩
  rcases hy with ⟨a', dx', rfl, ha'⟩ | ⟨i, rfl, _⟩
  · exact .inr ⟨a', dx', _, rfl, ha'⟩
  · exact .inl ⟨i, rfl⟩
abbrev s_Root_radd : Stmt := inClass (top 11) 3
theorem sc_Root_radd : FnScope ["self", "other"] ["self", "other"] (defScope s_Root_radd) := ⟨rfl, rfl, rfl, by decide +kernel, rfl, by decide +kernel, by decide +kernel⟩

def sp_Root_radd (Z : Zs) : Sp := fun vs H Q E =>
  spBin Z.c_Root (back plus) vs H Q E
theorem ok_Root_radd (T : Txt Z mg) (h_Root_add : HasM P w Z.K mg base Z.c_Root "__add__" 6 ["self", "other"] (sp_Root_add Z)) (D : AtM Z.K Z.c_Root "__radd__" "Root.__radd__" s_Root_radd ["self", "other"]) : HasM P w Z.K mg base Z.c_Root "__radd__" 7 ["self", "other"] (sp_Root_radd Z) := by
  refine D.ok sc_Root_radd (fun vs H Q E h => ?_) (fun cdv A outer s H vs Q E hr h => ?_)
  · obtain ⟨v, o, t, r, b, t', r', b', rfl, _⟩ := h
    rfl
  · refine ⟨_, (pss_one (ps_ret (pe_op (op_addL T.ow T.ra h_Root_add hr passL) (pv 0) (pv 1)))), ?_⟩
    try simp only [cxOf]
    obtain ⟨v, o, t, r, b, t', r', b', rfl, hv, sm, ho, sm', q⟩ := h
    walk_at "W"
    refine k_ownL hv ho ⟨_, _, t, r, b, t', r', b', rfl, hv, sm, ho, sm', fun v' H' s' hv' => q v' H' s' ?_⟩
    exact hv'.congr (s := 1) (Int.mul_ne_zero sm'.hn sm.hn) (by decide) (by show t * b' + t' * b = (t' * b + t * b') * 1; grind) (by show r * b' + r' * b = (r' * b + r * b') * 1; grind) (by show b * b' = (b' * b) * 1; grind)
abbrev s_Root_rmul : Stmt := inClass (top 11) 7
theorem sc_Root_rmul : FnScope ["self", "other"] ["self", "other"] (defScope s_Root_rmul) := ⟨rfl, rfl, rfl, by decide +kernel, rfl, by decide +kernel, by decide +kernel⟩

def sp_Root_rmul (Z : Zs) : Sp := fun vs H Q E =>
  spBin Z.c_Root (back times) vs H Q E
theorem ok_Root_rmul (T : Txt Z mg) (h_Root_mul : HasM P w Z.K mg base Z.c_Root "__mul__" 6 ["self", "other"] (sp_Root_mul Z)) (D : AtM Z.K Z.c_Root "__rmul__" "Root.__rmul__" s_Root_rmul ["self", "other"]) : HasM P w Z.K mg base Z.c_Root "__rmul__" 7 ["self", "other"] (sp_Root_rmul Z) := by
  refine D.ok sc_Root_rmul (fun vs H Q E h => ?_) (fun cdv A outer s H vs Q E hr h => ?_)
  · obtain ⟨v, o, t, r, b, t', r', b', rfl, _⟩ := h
    rfl
  · refine ⟨_, (pss_one (ps_ret (pe_op (op_mulL T.ow T.rm h_Root_mul hr passL) (pv 0) (pv 1)))), ?_⟩
    try simp only [cxOf]
    obtain ⟨v, o, t, r, b, t', r', b', rfl, hv, sm, ho, sm', q⟩ := h
    walk_at "W"
    refine k_ownL hv ho ⟨_, _, t, r, b, t', r', b', rfl, hv, sm, ho, sm', fun v' H' s' hv' => q v' H' s' ?_⟩
    exact hv'.congr (s := 1) (Int.mul_ne_zero sm'.hn sm.hn) (by decide) (by show t * t' + 2 * r * r' = (t' * t + 2 * r' * r) * 1; grind) (by show t * r' + r * t' = (t' * r + r' * t) * 1; grind) (by show b * b' = (b' * b) * 1; grind)
abbrev s_Root_rsub : Stmt := inClass (top 11) 5
theorem sc_Root_rsub : FnScope ["self", "other"] ["self", "other"] (defScope s_Root_rsub) := ⟨rfl, rfl, rfl, by decide +kernel, rfl, by decide +kernel, by decide +kernel⟩

def sp_Root_rsub (Z : Zs) : Sp := fun vs H Q E =>
  spBin Z.c_Root (back minus) vs H Q E
theorem ok_Root_rsub (T : Txt Z mg) (h_Root_add : HasM P w Z.K mg base Z.c_Root "__add__" 6 ["self", "other"] (sp_Root_add Z)) (h_Root_neg : HasM P w Z.K mg base Z.c_Root "__neg__" 5 ["self"] (sp_Root_neg Z)) (D : AtM Z.K Z.c_Root "__rsub__" "Root.__rsub__" s_Root_rsub ["self", "other"]) : HasM P w Z.K mg base Z.c_Root "__rsub__" 7 ["self", "other"] (sp_Root_rsub Z) := by
  refine D.ok sc_Root_rsub (fun vs H Q E h => ?_) (fun cdv A outer s H vs Q E hr h => ?_)
  · obtain ⟨v, o, t, r, b, t', r', b', rfl, _⟩ := h
    rfl
  · refine ⟨_, (pss_one (ps_ret (pe_op (op_addL T.ow T.ra h_Root_add hr passL) (pe_un (un_own h_Root_neg hr passL) (pv 0)) (pv 1)))), ?_⟩
    try simp only [cxOf]
    obtain ⟨v, o, t, r, b, t', r', b', rfl, hv, sm, ho, sm', q⟩ := h
    walk_at "W"
    obtain ⟨a, dx, rfl, ha⟩ := hv
    refine ⟨a, dx, _, rfl, ha, _, t, r, b, rfl, ⟨a, dx, rfl, ha⟩, sm.hn, sm.hb.bd (by decide), fun u H1 s1 hu => ?_⟩
    walk_at "W"
    have ho1 := ho.same s1
    obtain ⟨bt, br, bb, lw⟩ := sm
    have sn := Sm.low (by have := lw.pos; omega) bt.neg br.neg bb
    refine k_ownL hu ho1 ⟨_, _, _, _, _, t', r', b', rfl, hu, sn, ho1, sm', fun v' H' s' hv' => q v' H' (s1.trans s') ?_⟩
    obtain ⟨s, hs, e1, e2, e3⟩ := (low_is (t := -t) (r := -r) (by have := lw.pos; omega : b ≠ 0)).s
    refine LowAt.congr' hv' (Int.mul_ne_zero sn.hn sm'.hn) hs ?_ ?_ ?_
    · show t' * b - t * b' = (lowT (-t) (-r) b * b' + t' * lowB (-t) (-r) b) * s
      grind
    · show r' * b - r * b' = (lowR (-t) (-r) b * b' + r' * lowB (-t) (-r) b) * s
      grind
    · show b' * b = (lowB (-t) (-r) b * b') * s
      grind
theorem nat_sq2 : ∀ m n : Nat, m * m = 2 * (n * n) → n = 0 := by
  intro m
  induction m using Nat.strongRecOn with
  | ind m ih =>
    intro n h
    rcases Nat.eq_zero_or_pos n with h0 | h0
    · exact h0
    have hn : n < m := by
      rcases Nat.lt_or_ge n m with q | q
      · exact q
      · have := Nat.mul_le_mul q q
        have : 0 < n * n := Nat.mul_pos h0 h0
        omega
    have he : m % 2 = 0 := by
      rcases Nat.mod_two_eq_zero_or_one m with q | q
      · exact q
      · have : m * m % 2 = 1 := by rw [Nat.mul_mod, q]
        omega
    obtain ⟨k, rfl⟩ : ∃ k, m = 2 * k := ⟨m / 2, by omega⟩
    have h2 : n * n = 2 * (k * k) := by
      have : 2 * k * (2 * k) = 4 * (k * k) := by grind
      omega
    have hk := ih n hn k h2
    subst hk
    simp at h2
    rcases Nat.mul_eq_zero.mp h2 with q | q <;> exact q
/-- the square root of 2 is no fraction -/
theorem sq2 {t r : Int} (h : t * t - 2 * r * r = 0) : t = 0 ∧ r = 0 := by
  have e : t.natAbs * t.natAbs = 2 * (r.natAbs * r.natAbs) := by
    have h1 : ((t.natAbs * t.natAbs : Nat) : Int) = t * t := Int.natAbs_mul_self
    have h2 : ((r.natAbs * r.natAbs : Nat) : Int) = r * r := Int.natAbs_mul_self
    have h3 : 2 * r * r = 2 * (r * r) := Int.mul_assoc ..
    omega
  have hr := nat_sq2 _ _ e
  rw [hr] at e
  simp at e
  have h0 : t.natAbs = 0 := by rcases Nat.mul_eq_zero.mp e with q | q <;> exact q
  exact ⟨by omega, by omega⟩
theorem sm_zero {t r b : Int} (h : Sm t r b) : (r = 0 ∧ b = 1 ∧ t = 0) ↔ (t = 0 ∧ r = 0) := by
  constructor
  · rintro ⟨a, _, c⟩; exact ⟨c, a⟩
  · rintro ⟨rfl, rfl⟩
    have o := h.lw.one
    have p := h.lw.pos
    simp at o
    exact ⟨rfl, by omega, rfl⟩
def quot : F3 := ⟨fun t r _ t' r' b' => (t * t' - 2 * r * r') * b', fun t r _ t' r' b' => (r * t' - t * r') * b', fun _ _ b t' r' _ => b * (t' * t' - 2 * r' * r')⟩
/-- an own error with what was bad -/
def Er (Z : Zs) (o : V) (H : Hp) (E : XK) : Prop := ∀ d H', H d = none → Same H H' → H' d = some (.xd [("value", o)]) → E (.ref Z.c_BadNumber) (some d) H'
abbrev s_Root_less : Stmt := inClass (top 11) 10
theorem sc_Root_less : FnScope ["self", "number", "more", "top", "root"] ["self", "number"] (defScope s_Root_less) := ⟨rfl, rfl, rfl, by decide +kernel, rfl, by decide +kernel, by decide +kernel⟩

def sp_Root_less (Z : Zs) : Sp := fun vs H Q E =>
  ∃ v o t r b, vs = [v, o] ∧ RootAt Z.c_Root H v t r b ∧ Sm t r b ∧ Th Z.c_Root H o ∧
    (isN Z.c_Root H o = false ∧ Er Z o H E ∨ ∃ t' r' b', NumAt Z.c_Root H o t' r' b' ∧ Sm t' r' b' ∧
      ∀ H', Same H H' → Q (.bl (decide (sgn (minus.t t r b t' r' b') (minus.r t r b t' r' b') < 0))) H')
theorem ok_Root_less (T : Txt Z mg) (h_surd_sign : Has P w Z.K mg base "surd_sign" 1 ["top", "root"] (sp_surd_sign Z)) (h_as_root : Has P w Z.K mg base "as_root" 5 ["number"] (sp_as_root Z)) (h_is_number : Has P w Z.K mg base "is_number" 2 ["thing"] (sp_is_number Z)) (h_BadNumber : HasX P w Z.K mg base "BadNumber" Z.c_BadNumber 1 ["self", "value"] (sp_BadNumber_init Z)) (D : AtM Z.K Z.c_Root "less" "Root.less" s_Root_less ["self", "number"]) : HasM P w Z.K mg base Z.c_Root "less" 6 ["self", "number"] (sp_Root_less Z) := by
  refine D.ok sc_Root_less (fun vs H Q E h => ?_) (fun cdv A outer s H vs Q E hr h => ?_)
  · obtain ⟨v, o, t, r, b, rfl, _⟩ := h
    rfl
  · refine ⟨_, (pss_cons (ps_if (pt_not (pt_val (pe_h (E := ED E) h_is_number hr (paW (takes_of rfl rfl rfl rfl)) (pa_cons (pv 1) pa_nil)))) (pss_one (ps_raise rfl (takes_of rfl rfl rfl rfl) (pm_h T.x_BadNumber h_BadNumber hr (pa_cons (pv 1) pa_nil)))) pss_nil)
      (pss_cons (ps_set (i := 2) sc_Root_less.nd rfl (Or.inl rfl) (pe_h (E := ED E) h_as_root hr (paW (takes_of rfl rfl rfl rfl)) (pa_cons (pv 1) pa_nil)))
      (pss_cons (ps_set (i := 3) sc_Root_less.nd rfl (Or.inl rfl) (pe_op op_sub (pe_op op_mulS (pe_fld (pv 0) rfl) (pe_fld (pv 2) rfl)) (pe_op op_mulS (pe_fld (pv 2) rfl) (pe_fld (pv 0) rfl))))
      (pss_cons (ps_set (i := 4) sc_Root_less.nd rfl (Or.inl rfl) (pe_op op_sub (pe_op op_mulS (pe_fld (pv 0) rfl) (pe_fld (pv 2) rfl)) (pe_op op_mulS (pe_fld (pv 2) rfl) (pe_fld (pv 0) rfl))))
      (pss_one (ps_ret (pe_cmpR op_lt (pe_h (E := ED E) h_surd_sign hr (paW (takes_of rfl rfl rfl rfl)) (pa_cons (pv 3) (pa_cons (pv 4) pa_nil))) pe_int (nomark _)))))))), ?_⟩
    try simp only [cxOf]
    obtain ⟨v, o, t, r, b, rfl, ⟨a, dx, rfl, ha⟩, ⟨bt, br, bb, lw⟩, ho, hh⟩ := h
    walk_at "W"
    refine ⟨o, rfl, ho, ?_⟩
    rcases hh with ⟨e, er⟩ | ⟨t', r', b', hn, ⟨bt', br', bb', lw'⟩, q⟩
    · rw [e]
      walk_at "W"
      exact k_mkO fun d H2 hd s4 e4 => er d H2 hd s4 e4
    rw [hn.isN]
    walk_at "W"
    refine ⟨o, t', r', b', rfl, hn, ?_⟩
    rintro m H1 s1 ⟨a', dx', rfl, ha'⟩
    have ha1 := s1 _ _ ha
    repeat (first | walk_at "s" | walk_at "mul" | refine w_fld ha1 T.c_Root T.nf_top (rf_top _ _ _) ?_ | refine w_fld ha1 T.c_Root T.nf_root (rf_root _ _ _) ?_ | refine w_fld ha1 T.c_Root T.nf_bottom (rf_bottom _ _ _) ?_ | refine w_fld ha' T.c_Root T.nf_top (rf_top _ _ _) ?_ | refine w_fld ha' T.c_Root T.nf_root (rf_root _ _ _) ?_ | refine w_fld ha' T.c_Root T.nf_bottom (rf_bottom _ _ _) ?_)
    refine ⟨_, _, rfl, ((bt.mul bb').sub (bt'.mul bb)).mono (by decide), ((br.mul bb').sub (br'.mul bb)).mono (by decide), ?_⟩
    walk_at "W"
    exact q H1 s1
/-! ### whole numbers below t + r * the square root of 2 -/
theorem sq_nn (r : Int) : 0 ≤ r * r := by
  have : ((r.natAbs * r.natAbs : Nat) : Int) = r * r := Int.natAbs_mul_self
  omega
def cw (r : Int) : Int := if r < 0 then - sqr (2 * r * r) - 1 else sqr (2 * r * r)
def fl (t r : Int) : Int := t + cw r
/-- the sign goes by the whole number below -/
theorem sgn_fl (x r : Int) : sgn x r < 0 ↔ fl x r < 0 := by
  have hn : 0 ≤ 2 * r * r := by
    have := sq_nn r
    have : 2 * r * r = 2 * (r * r) := Int.mul_assoc ..
    omega
  obtain ⟨s0, s1, s2⟩ := sqr_spec hn
  have up : ∀ y : Int, sqr (2 * r * r) < y → y * y > 2 * r * r := fun y hy => by
    have : (sqr (2 * r * r) + 1) * (sqr (2 * r * r) + 1) ≤ y * y := Int.mul_le_mul (by omega) (by omega) (by omega) (by omega)
    omega
  have dn : ∀ y : Int, 0 ≤ y → y ≤ sqr (2 * r * r) → ¬ (y * y > 2 * r * r) := fun y h0 hy => by
    have : y * y ≤ sqr (2 * r * r) * sqr (2 * r * r) := Int.mul_le_mul hy hy h0 s0
    omega
  have ng : x * x = -x * -x := by rw [Int.neg_mul_neg]
  unfold fl cw
  by_cases hr : r < 0
  · rw [if_pos hr]
    have c1 : ¬ (x = 0 ∧ r = 0) := by omega
    have c2 : ¬ (0 ≤ x ∧ 0 ≤ r) := by omega
    unfold sgn
    rw [if_neg c1, if_neg c2]
    by_cases hx : x ≤ 0
    · rw [if_pos ⟨hx, by omega⟩]
      omega
    · rw [if_neg (by omega)]
      by_cases hs : sqr (2 * r * r) < x
      · rw [if_pos (up x hs), if_pos (by omega)]
        omega
      · rw [if_neg (dn x (by omega) (by omega)), if_neg (by omega)]
        omega
  · rw [if_neg hr]
    unfold sgn
    by_cases c1 : x = 0 ∧ r = 0
    · rw [if_pos c1]; omega
    rw [if_neg c1]
    by_cases c2 : 0 ≤ x ∧ 0 ≤ r
    · rw [if_pos c2]; omega
    rw [if_neg c2]
    by_cases c3 : x ≤ 0 ∧ r ≤ 0
    · rw [if_pos c3]
      obtain rfl : r = 0 := by omega
      have z : sqr (2 * 0 * 0) = 0 := by
        rcases Int.lt_or_eq_of_le s0 with q | q
        · have := Int.mul_pos q q; omega
        · exact q.symm
      rw [z]; omega
    rw [if_neg c3]
    by_cases hs : sqr (2 * r * r) < -x
    · have := up _ hs
      rw [if_pos (by rw [ng]; exact this), if_neg (by omega)]
      omega
    · have := dn (-x) (by omega) (by omega)
      rw [if_neg (by rw [ng]; exact this), if_pos (by omega)]
      omega
theorem sgn_eq0 (x r : Int) : sgn x r = 0 ↔ (x = 0 ∧ r = 0) := by
  unfold sgn
  (repeat' split) <;> first | omega | (constructor <;> intro h <;> first | omega | (exfalso; omega))
/-- the whole of (t + r * root) / b -/
def wh (t r b : Int) : Int := (fl t r).fdiv b
theorem wh_spec {t r b : Int} (hb : 0 < b) : ¬ (sgn (t - wh t r b * b) r < 0) ∧ sgn (t - (wh t r b + 1) * b) r < 0 := by
  rw [sgn_fl, sgn_fl]
  have e := Int.fmod_add_mul_fdiv (fl t r) b
  have h1 := Int.fmod_nonneg_of_pos (fl t r) hb
  have h2 := Int.fmod_lt_of_pos (fl t r) hb
  have m : wh t r b * b = b * (fl t r).fdiv b := Int.mul_comm ..
  have m1 : (wh t r b + 1) * b = b * (fl t r).fdiv b + b := by rw [Int.add_mul, m]; omega
  unfold fl at *
  constructor <;> omega
theorem bw_div9 {n : Nat} {x y : Int} (h : Bw n y) (hy : y ≠ 0) (hn : Nat.ble n 8000 = true := by decide) : CDivN9 x y :=
  ⟨hy, Nat.lt_of_lt_of_le (PySem.Flt.log2_lt_of (by decide) (h.bd hn)) (by decide)⟩
abbrev s_surd_whole : Stmt := top 10
theorem sc_surd_whole : FnScope ["top", "root", "across"] ["top", "root"] (defScope s_surd_whole) := ⟨rfl, rfl, rfl, by decide +kernel, rfl, by decide +kernel, by decide +kernel⟩

def sp_surd_whole (Z : Zs) : Sp := fun vs H Q E =>
  ∃ t r : Int, vs = [.int t, .int r] ∧ Bw 3000 r ∧ Q (.int (fl t r)) H
theorem ok_surd_whole (T : Txt Z mg)  (D : AtF Z.K mg "surd_whole" "surd_whole" s_surd_whole ["top", "root"]) : Has P w Z.K mg base "surd_whole" 1 ["top", "root"] (sp_surd_whole Z) := by
  refine D.ok sc_surd_whole (fun vs H Q E h => ?_) (fun cdv A outer s H vs Q E hr h => ?_)
  · obtain ⟨t, r, rfl, _⟩ := h
    rfl
  · refine ⟨_, (pss_cons (ps_set (i := 2) sc_surd_whole.nd rfl (Or.inl rfl) (pe_callBfun cr_isqrt rfl T.g_isqrt (pa_cons (pe_op op_mulS (pe_op op_mulS pe_int (pv 1)) (pv 1)) pa_nil)))
      (pss_cons (ps_if (pt_cmpR op_lt (pv 1) pe_int (nomark _)) (pss_one (ps_ret (pe_op op_sub (pe_op op_sub (pv 0) (pv 2)) pe_int))) pss_nil)
      (pss_one (ps_ret (pe_op op_add (pv 0) (pv 2)))))), ?_⟩
    try simp only [cxOf]
    obtain ⟨t, r, rfl, br, q⟩ := h
    have hn : 0 ≤ 2 * r * r := by
      have := sq_nn r
      have : 2 * r * r = 2 * (r * r) := Int.mul_assoc ..
      omega
    repeat (first | walk_at "s" | walk_at "mul")
    refine ⟨_, rfl, hn, ((Bw.two.mul br).mul br).mono (by decide), ?_⟩
    unfold fl cw at q
    repeat (first | walk_at "s" | walk_at "mul")
    refine w_ite (fun h1 => ?_) (fun h1 => ?_)
    · rw [if_pos h1] at q
      walk_at "W"
      rw [show t - sqr (2 * r * r) - 1 = t + (-sqr (2 * r * r) - 1) by omega]
      exact q
    · rw [if_neg h1] at q
      walk_at "W"
      exact q
abbrev s_Root_sign : Stmt := inClass (top 11) 11
theorem sc_Root_sign : FnScope ["self"] ["self"] (defScope s_Root_sign) := ⟨rfl, rfl, rfl, by decide +kernel, rfl, by decide +kernel, by decide +kernel⟩

def sp_Root_sign (Z : Zs) : Sp := fun vs H Q E =>
  ∃ v t r b, vs = [v] ∧ RootAt Z.c_Root H v t r b ∧ Sm t r b ∧ Q (.int (sgn t r)) H
theorem ok_Root_sign (T : Txt Z mg) (h_surd_sign : Has P w Z.K mg base "surd_sign" 1 ["top", "root"] (sp_surd_sign Z)) (D : AtM Z.K Z.c_Root "sign" "Root.sign" s_Root_sign ["self"]) : HasM P w Z.K mg base Z.c_Root "sign" 2 ["self"] (sp_Root_sign Z) := by
  refine D.ok sc_Root_sign (fun vs H Q E h => ?_) (fun cdv A outer s H vs Q E hr h => ?_)
  · obtain ⟨v, t, r, b, rfl, _⟩ := h
    rfl
  · refine ⟨_, (pss_one (ps_ret (pe_h (E := ED E) h_surd_sign hr (paW (takes_of rfl rfl rfl rfl)) (pa_cons (pe_fld (pv 0) rfl) (pa_cons (pe_fld (pv 0) rfl) pa_nil))))), ?_⟩
    try simp only [cxOf]
    obtain ⟨v, t, r, b, rfl, ⟨a, dx, rfl, ha⟩, ⟨bt, br, bb, lw⟩, q⟩ := h
    repeat (first | walk_at "s" | refine w_fld ha T.c_Root T.nf_top (rf_top _ _ _) ?_ | refine w_fld ha T.c_Root T.nf_root (rf_root _ _ _) ?_ | refine w_fld ha T.c_Root T.nf_bottom (rf_bottom _ _ _) ?_)
    exact ⟨_, _, rfl, bt.mono (by decide), br.mono (by decide), q⟩
abbrev s_Root_whole : Stmt := inClass (top 11) 12
theorem sc_Root_whole : FnScope ["self"] ["self"] (defScope s_Root_whole) := ⟨rfl, rfl, rfl, by decide +kernel, rfl, by decide +kernel, by decide +kernel⟩

def sp_Root_whole (Z : Zs) : Sp := fun vs H Q E =>
  ∃ v t r b, vs = [v] ∧ RootAt Z.c_Root H v t r b ∧ Sm t r b ∧ Q (.int (wh t r b)) H
theorem ok_Root_whole (T : Txt Z mg) (h_surd_whole : Has P w Z.K mg base "surd_whole" 1 ["top", "root"] (sp_surd_whole Z)) (D : AtM Z.K Z.c_Root "whole" "Root.whole" s_Root_whole ["self"]) : HasM P w Z.K mg base Z.c_Root "whole" 2 ["self"] (sp_Root_whole Z) := by
  refine D.ok sc_Root_whole (fun vs H Q E h => ?_) (fun cdv A outer s H vs Q E hr h => ?_)
  · obtain ⟨v, t, r, b, rfl, _⟩ := h
    rfl
  · refine ⟨_, (pss_one (ps_ret (pe_op op_fdivV (pe_h (E := ED E) h_surd_whole hr (paW (takes_of rfl rfl rfl rfl)) (pa_cons (pe_fld (pv 0) rfl) (pa_cons (pe_fld (pv 0) rfl) pa_nil))) (pe_fld (pv 0) rfl)))), ?_⟩
    try simp only [cxOf]
    obtain ⟨v, t, r, b, rfl, ⟨a, dx, rfl, ha⟩, ⟨bt, br, bb, lw⟩, q⟩ := h
    repeat (first | walk_at "s" | refine w_fld ha T.c_Root T.nf_top (rf_top _ _ _) ?_ | refine w_fld ha T.c_Root T.nf_root (rf_root _ _ _) ?_ | refine w_fld ha T.c_Root T.nf_bottom (rf_bottom _ _ _) ?_)
    refine ⟨_, _, rfl, br.mono (by decide), ?_⟩
    repeat (first | walk_at "s" | refine w_fld ha T.c_Root T.nf_top (rf_top _ _ _) ?_ | refine w_fld ha T.c_Root T.nf_root (rf_root _ _ _) ?_ | refine w_fld ha T.c_Root T.nf_bottom (rf_bottom _ _ _) ?_)
    refine w_I (bw_div9 bb (by have := lw.pos; omega)) ?_
    exact q
abbrev s_Root_nearest : Stmt := inClass (top 11) 13
theorem sc_Root_nearest : FnScope ["self"] ["self"] (defScope s_Root_nearest) := ⟨rfl, rfl, rfl, by decide +kernel, rfl, by decide +kernel, by decide +kernel⟩

def sp_Root_nearest (Z : Zs) : Sp := fun vs H Q E =>
  ∃ v t r b, vs = [v] ∧ RootAt Z.c_Root H v t r b ∧ Sm t r b ∧ Q (.int (wh (2 * t + b) (2 * r) (2 * b))) H
theorem ok_Root_nearest (T : Txt Z mg) (h_surd_whole : Has P w Z.K mg base "surd_whole" 1 ["top", "root"] (sp_surd_whole Z)) (D : AtM Z.K Z.c_Root "nearest" "Root.nearest" s_Root_nearest ["self"]) : HasM P w Z.K mg base Z.c_Root "nearest" 2 ["self"] (sp_Root_nearest Z) := by
  refine D.ok sc_Root_nearest (fun vs H Q E h => ?_) (fun cdv A outer s H vs Q E hr h => ?_)
  · obtain ⟨v, t, r, b, rfl, _⟩ := h
    rfl
  · refine ⟨_, (pss_one (ps_ret (pe_op op_fdivV (pe_h (E := ED E) h_surd_whole hr (paW (takes_of rfl rfl rfl rfl)) (pa_cons (pe_op op_add (pe_op op_mulS pe_int (pe_fld (pv 0) rfl)) (pe_fld (pv 0) rfl)) (pa_cons (pe_op op_mulS pe_int (pe_fld (pv 0) rfl)) pa_nil))) (pe_op op_mulS pe_int (pe_fld (pv 0) rfl))))), ?_⟩
    try simp only [cxOf]
    obtain ⟨v, t, r, b, rfl, ⟨a, dx, rfl, ha⟩, ⟨bt, br, bb, lw⟩, q⟩ := h
    repeat (first | walk_at "s" | walk_at "mul" | refine w_fld ha T.c_Root T.nf_top (rf_top _ _ _) ?_ | refine w_fld ha T.c_Root T.nf_root (rf_root _ _ _) ?_ | refine w_fld ha T.c_Root T.nf_bottom (rf_bottom _ _ _) ?_)
    refine ⟨_, _, rfl, (Bw.two.mul br).mono (by decide), ?_⟩
    repeat (first | walk_at "s" | walk_at "mul" | refine w_fld ha T.c_Root T.nf_top (rf_top _ _ _) ?_ | refine w_fld ha T.c_Root T.nf_root (rf_root _ _ _) ?_ | refine w_fld ha T.c_Root T.nf_bottom (rf_bottom _ _ _) ?_)
    refine w_I (bw_div9 (Bw.two.mul bb) (by have := lw.pos; omega)) ?_
    exact q
abbrev s__law_start : Stmt := top 14
theorem sc__law_start : FnScope ["script"] ["script"] (defScope s__law_start) := ⟨rfl, rfl, rfl, by decide +kernel, rfl, by decide +kernel, by decide +kernel⟩

def sp__law_start (Z : Zs) : Sp := fun vs H Q E =>
  ∃ (a : Addr) (ns : List Int), vs = [.ref a] ∧ SqL Z.K H a (ns.map V.int) ∧ ∀ p c H', H p = none → Same H H' → StA H' p c → Q (.ref p) H'
theorem ok__law_start (T : Txt Z mg)  (D : AtF Z.K mg "_law_start" "_law_start" s__law_start ["script"]) : Has P w Z.K mg base "_law_start" 1 ["script"] (sp__law_start Z) := by
  refine D.ok sc__law_start (fun vs H Q E h => ?_) (fun cdv A outer s H vs Q E hr h => ?_)
  · obtain ⟨a, ns, rfl, _⟩ := h
    rfl
  · refine ⟨_, (pss_one (ps_ret (pe_lst (pa_cons (pe_callTy cn_list rfl T.n_list (by decide +kernel) (pa_cons (pe_slice sl_list (pv 0) po_none (po_some pe_int)) pa_nil)) (pa_cons pe_int (pa_cons pe_int pa_nil)))))), ?_⟩
    try simp only [cxOf]
    obtain ⟨a, ns, rfl, hs, q⟩ := h
    walk_at "W"
    refine k_slL hs fun l H1 hl s1 e1 => ?_
    obtain ⟨ms, em⟩ := cut_ints ns none (some 63)
    rw [em] at e1
    walk_at "W"
    refine w_listL (SqL.of e1) fun l2 H2 hl2 s2 e2 => ?_
    walk_at "W"
    refine k_lst rfl fun p H3 hp s3 e3 => ?_
    exact q p l2 H3 ((s1.trans s2).free hp) (s1.trans (s2.trans s3)) ⟨ms, 0, 0, e3, s3 _ _ e2, fun z => (by rw [z] at e2; rw [hp] at e2; cases e2), by decide, by decide⟩
abbrev s__law_mixed : Stmt := top 15
theorem sc__law_mixed : FnScope ["cell", "count", "number"] ["cell", "count"] (defScope s__law_mixed) := ⟨rfl, rfl, rfl, by decide +kernel, rfl, by decide +kernel, by decide +kernel⟩

def sp__law_mixed (Z : Zs) : Sp := fun vs H Q E =>
  ∃ c n : Int, vs = [.int c, .int n] ∧ ∀ r : Int, 0 ≤ r → r < 2147483399 → Q (.int r) H
theorem ok__law_mixed (T : Txt Z mg)  (D : AtF Z.K mg "_law_mixed" "_law_mixed" s__law_mixed ["cell", "count"]) : Has P w Z.K mg base "_law_mixed" 1 ["cell", "count"] (sp__law_mixed Z) := by
  refine D.ok sc__law_mixed (fun vs H Q E h => ?_) (fun cdv A outer s H vs Q E hr h => ?_)
  · obtain ⟨c, n, rfl, _⟩ := h
    rfl
  · refine ⟨_, (pss_cons (ps_set (i := 2) sc__law_mixed.nd rfl (Or.inl rfl) (pe_op op_mod (pe_op op_mulS (pe_callTy cn_int rfl T.n_int (by decide +kernel) (pa_cons (pe_op op_add (pe_op op_add (pv 0) (pe_op op_mulS pe_int (pv 1))) pe_int) pa_nil)) pe_int) pe_int))
      (pss_cons (ps_set (i := 2) sc__law_mixed.nd rfl (Or.inl rfl) (pe_op op_mod (pe_op op_mulS (pv 2) (pe_op op_add (pe_op op_fdivW (pv 2) pe_int) pe_int)) pe_int))
      (pss_one (ps_ret (pe_op op_mod (pe_op op_mulS (pv 2) (pe_op op_add (pe_op op_fdivW (pv 2) pe_int) pe_int)) pe_int))))), ?_⟩
    try simp only [cxOf]
    obtain ⟨c, n, rfl, q⟩ := h
    walk_at "W"
    exact q _ (Int.emod_nonneg _ (by decide)) (Int.emod_lt_of_pos _ (by decide))
abbrev s__law_draw : Stmt := top 16
theorem sc__law_draw : FnScope ["state", "many", "digit", "cells", "at", "cell", "number", "turn"] ["state", "many"] (defScope s__law_draw) := ⟨rfl, rfl, rfl, by decide +kernel, rfl, by decide +kernel, by decide +kernel⟩

def sp__law_draw (Z : Zs) : Sp := fun vs H Q E =>
  ∃ p c many, vs = [.ref p, .int many] ∧ StA H p c ∧ 0 < many ∧ Bd many ∧ ∀ n H', 0 ≤ n → n < many → SameX p H H' → StA H' p c → Q (.int n) H'
theorem ok__law_draw (T : Txt Z mg) (h__law_mixed : Has P w Z.K mg base "_law_mixed" 1 ["cell", "count"] (sp__law_mixed Z)) (D : AtF Z.K mg "_law_draw" "_law_draw" s__law_draw ["state", "many"]) : Has P w Z.K mg base "_law_draw" 2 ["state", "many"] (sp__law_draw Z) := by
  refine D.ok sc__law_draw (fun vs H Q E h => ?_) (fun cdv A outer s H vs Q E hr h => ?_)
  · obtain ⟨p, c, many, rfl, _⟩ := h
    rfl
  · refine ⟨_, (pss_cons (ps_if (pt_cmpR op_gt (pe_ix ix_seq (pv 0) pe_int (fun _ _ => rfl)) pe_int (nomark _)) (pss_cons (ps_set (i := 2) sc__law_draw.nd rfl (Or.inl rfl) (pe_op op_mod (pe_callTy cn_int rfl T.n_int (by decide +kernel) (pa_cons (pe_ix ix_seq (pv 0) pe_int (fun _ _ => rfl)) pa_nil)) (pv 1)))
      (pss_cons (ps_asg (pe_op op_fdivW (pe_ix ix_seq (pv 0) pe_int (fun _ _ => rfl)) (pv 1)) (pg_sub (pv 0) pe_int set_list))
      (pss_one (ps_ret (pv 2))))) pss_nil)
      (pss_cons (ps_set (i := 3) sc__law_draw.nd rfl (Or.inl rfl) (pe_ix ix_seq (pv 0) pe_int (fun _ _ => rfl)))
      (pss_cons (ps_set (i := 4) sc__law_draw.nd rfl (Or.inl rfl) (pe_ix ix_seq (pv 0) pe_int (fun _ _ => rfl)))
      (pss_cons (ps_asg (pe_op op_add (pv 4) pe_int) (pg_sub (pv 0) pe_int set_list))
      (C8.pss_cut (ps_if (PW.pt (pw_and (pt_cmpR op_lt (pv 4) (pe_callB cn_len rfl T.n_len (by decide +kernel) (pa_cons (pv 3) pa_nil)) (nomark _)) (pw_and1 (pt_cmpR op_ge (pe_callB cn_abs rfl T.n_abs (by decide +kernel) (pa_cons (pe_ix ix_seq (pv 3) (pv 4) (fun _ _ => rfl)) pa_nil)) (pe_op op_pow pe_int pe_int) (nomark _))))) (pss_cons (ps_asg (pe_op op_fdivW (pe_callB cn_abs rfl T.n_abs (by decide +kernel) (pa_cons (pe_ix ix_seq (pv 3) (pv 4) (fun _ _ => rfl)) pa_nil)) (pv 1)) (pg_sub (pv 0) pe_int set_list))
      (pss_one (ps_ret (pe_op op_mod (pe_callTy cn_int rfl T.n_int (by decide +kernel) (pa_cons (pe_callB cn_abs rfl T.n_abs (by decide +kernel) (pa_cons (pe_ix ix_seq (pv 3) (pv 4) (fun _ _ => rfl)) pa_nil)) pa_nil)) (pv 1))))) pss_nil)
      (pss_cons (ps_set (i := 5) sc__law_draw.nd rfl (Or.inl rfl) pe_int)
      (C8.pss_cut (ps_if (pt_cmpR op_gt (pe_callB cn_len rfl T.n_len (by decide +kernel) (pa_cons (pv 3) pa_nil)) pe_int (nomark _)) (pss_one (ps_set (i := 5) sc__law_draw.nd rfl (Or.inl rfl) (pe_ix ix_seq (pv 3) (pe_op op_mod (pe_callTy cn_int rfl T.n_int (by decide +kernel) (pa_cons (pv 4) pa_nil)) (pe_callB cn_len rfl T.n_len (by decide +kernel) (pa_cons (pv 3) pa_nil))) (fun _ _ => rfl)))) pss_nil)
      (pss_cons (ps_set (i := 6) sc__law_draw.nd rfl (Or.inl rfl) (pe_h (E := ED E) h__law_mixed hr (paW (takes_of rfl rfl rfl rfl)) (pa_cons (pv 5) (pa_cons (pv 4) pa_nil))))
      (C8.pss_cut (ps_if (pt_cmpR op_gt (pv 1) pe_int (nomark _)) (pss_one (ps_for (passes_of rfl) rfl (pi_range1 rfl T.n_range (pa_cons pe_int pa_nil)) (pg_name (i := 7) sc__law_draw.nd rfl (Or.inl rfl)) (pss_one (ps_set (i := 6) sc__law_draw.nd rfl (Or.inl rfl) (pe_op op_add (pe_op op_mulS (pv 6) pe_int) (pe_h (E := ED E) h__law_mixed hr (paW (takes_of rfl rfl rfl rfl)) (pa_cons (pe_op op_add (pv 5) (pe_op op_mulS pe_int (pv 7))) (pa_cons (pe_op op_add (pe_op op_add (pe_op op_mulS pe_int (pv 4)) (pe_op op_mulS pe_int (pv 7))) pe_int) pa_nil)))))))) pss_nil)
      (pss_one (ps_ret (pe_op op_mod (pe_callTy cn_int rfl T.n_int (by decide +kernel) (pa_cons (pv 6) pa_nil)) (pv 1))))))))))))), ?_⟩
    try simp only [cxOf]
    obtain ⟨p, c, many, rfl, ⟨ns, at_, pend, hp, hc, cp, h0, h1⟩, hm, hmb, q⟩ := h
    have hdw : ∀ x : Int, CDivW x many := fun x => wide_div hm hmb (by decide) (by decide)
    walk_at "W"
    refine w_ite (fun hg => ?_) (fun hg => ?_)
    · walk_at "W"
      refine w_I (hdw _) ?_
      walk_at "W"
      refine w_setL hp rfl fun H1 s1 e1 => ?_
      walk_at "W"
      exact q _ _ (Int.emod_nonneg _ (by omega)) (Int.emod_lt_of_pos _ hm) s1 ⟨ns, at_, pend / many, e1, s1 _ _ cp hc, cp, h0, Int.ediv_nonneg h1 (by omega)⟩
    walk_at "W"
    refine w_setL hp rfl fun H1 s1 e1 => ?_
    have hc1 : H1 c = some (.lst (ns.map V.int)) := s1 _ _ cp hc
    have st1 : StA H1 p c := ⟨ns, at_ + 1, pend, e1, hc1, cp, by omega, h1⟩
    walk_at "W"
    refine w_cutE (σ' := [some (.ref p), some (.int many), none, some (.ref c), some (.int at_), none, none, none]) (H' := H1) ?_ ?_
    · walk_at "W"
      refine w_lenL (SqL.of hc1) ?_
      walk_at "W"
      refine w_ite (fun hl => ?_) (fun hl => ?_)
      · obtain ⟨z, hz⟩ := atI_ints (ns := ns) h0 (by simpa using hl)
        walk_at "W"
        refine w_ixL hc1 hz ?_
        walk_at "W"
        refine w_ite (fun _ => ?_) (fun _ => ?_)
        · walk_at "W"
          refine w_ixL hc1 hz ?_
          walk_at "W"
          refine w_I (hdw _) ?_
          walk_at "W"
          refine w_setL e1 rfl fun H2 s2 e2 => ?_
          walk_at "W"
          have hc2 : H2 c = some (.lst (ns.map V.int)) := s2 _ _ cp hc1
          refine w_ixL hc2 hz ?_
          walk_at "W"
          exact q _ _ (Int.emod_nonneg _ (by omega)) (Int.emod_lt_of_pos _ hm) (s1.trans s2) ⟨ns, at_ + 1, _, e2, hc2, cp, by omega, Int.ediv_nonneg (Int.natCast_nonneg _) (by omega)⟩
        · walk_at "W"
          exact ⟨rfl, rfl⟩
      · walk_at "W"
        exact ⟨rfl, rfl⟩
    walk_at "W"
    refine w_cut (fun σ' H' => H' = H1 ∧ ∃ z : Int, σ' = [some (.ref p), some (.int many), none, some (.ref c), some (.int at_), some (.int z), none, none]) ?_ ?_
    · walk_at "W"
      refine w_lenL (SqL.of hc1) ?_
      walk_at "W"
      refine w_ite (fun hl => ?_) (fun hl => ?_)
      · walk_at "W"
        refine w_lenL (SqL.of hc1) ?_
        walk_at "W"
        have hl' : 0 < (ns.length : Int) := by simpa using hl
        have hl2 : (0 : Int) < (((ns.map V.int).length : Nat) : Int) := by simpa using hl'
        obtain ⟨z, hz⟩ := atI_ints (ns := ns) (k := at_ % ((ns.map V.int).length : Int)) (Int.emod_nonneg _ (by rw [List.length_map]; omega)) (by have := Int.emod_lt_of_pos at_ (b := ((ns.map V.int).length : Int)) (by simpa using hl'); simpa using this)
        refine w_ixL hc1 hz ?_
        walk_at "W"
        exact ⟨rfl, z, rfl⟩
      · walk_at "W"
        exact ⟨rfl, 0, rfl⟩
    rintro σ1 H2 ⟨rfl, z, rfl⟩
    walk_at "W"
    refine ⟨z, at_, rfl, fun r hr0 hr1 => ?_⟩
    walk_at "W"
    refine w_cut (fun σ' H' => Same H2 H' ∧ ∃ (n : Int) (v : Option V), σ' = [some (.ref p), some (.int many), none, some (.ref c), some (.int at_), some (.int z), some (.int n), v]) ?_ ?_
    · walk_at "W"
      refine w_ite (fun _ => ?_) (fun _ => ?_)
      · walk_at "W"
        refine k_forR (fun _ σ' H' => Same H2 H' ∧ ∃ (n : Int) (v : Option V), σ' = [some (.ref p), some (.int many), none, some (.ref c), some (.int at_), some (.int z), some (.int n), v]) (by decide) (by decide) ⟨Same.refl _, r, none, rfl⟩ ?_ ?_
        · rintro i σ' H' hi ⟨s2, n, v, rfl⟩
          have hi7 : i < 7 := hi
          walk_at "W"
          refine ⟨_, _, rfl, fun r' _ _ => ?_⟩
          walk_at "W"
          exact ⟨s2, _, _, rfl⟩
        · rintro σ' H' ⟨s2, n, v, rfl⟩
          walk_at "W"
          exact ⟨s2, n, v, rfl⟩
      · walk_at "W"
        exact ⟨Same.refl _, r, none, rfl⟩
    rintro σ1 H3 ⟨s2, n, v, rfl⟩
    walk_at "W"
    exact q _ _ (Int.emod_nonneg _ (by omega)) (Int.emod_lt_of_pos _ hm) (s1.trans (Same.x s2)) (st1.same s2)
abbrev s__law_between : Stmt := top 17
theorem sc__law_between : FnScope ["state", "least", "most"] ["state", "least", "most"] (defScope s__law_between) := ⟨rfl, rfl, rfl, by decide +kernel, rfl, by decide +kernel, by decide +kernel⟩

def sp__law_between (Z : Zs) : Sp := fun vs H Q E =>
  ∃ p c lo hi, vs = [.ref p, .int lo, .int hi] ∧ StA H p c ∧ lo ≤ hi ∧ Bd (hi - lo + 1) ∧ ∀ n H', lo ≤ n → n ≤ hi → SameX p H H' → StA H' p c → Q (.int n) H'
theorem ok__law_between (T : Txt Z mg) (h__law_draw : Has P w Z.K mg base "_law_draw" 2 ["state", "many"] (sp__law_draw Z)) (D : AtF Z.K mg "_law_between" "_law_between" s__law_between ["state", "least", "most"]) : Has P w Z.K mg base "_law_between" 3 ["state", "least", "most"] (sp__law_between Z) := by
  refine D.ok sc__law_between (fun vs H Q E h => ?_) (fun cdv A outer s H vs Q E hr h => ?_)
  · obtain ⟨p, c, lo, hi, rfl, _⟩ := h
    rfl
  · refine ⟨_, (pss_one (ps_ret (pe_op op_add (pv 1) (pe_h (E := ED E) h__law_draw hr (paW (takes_of rfl rfl rfl rfl)) (pa_cons (pv 0) (pa_cons (pe_op op_add (pe_op op_sub (pv 2) (pv 1)) pe_int) pa_nil)))))), ?_⟩
    try simp only [cxOf]
    obtain ⟨p, c, lo, hi, rfl, hs, hl, hb, q⟩ := h
    walk_at "W"
    refine ⟨p, c, _, rfl, hs, by omega, hb, fun n H' h0 h1 s1 st => ?_⟩
    walk_at "W"
    exact q _ H' (by omega) (by omega) s1 st
theorem natgcd_mod (a b : Nat) : Nat.gcd b (a % b) = Nat.gcd a b := by rw [Nat.gcd_comm a b, Nat.gcd_rec b a, Nat.gcd_comm]
theorem bd_of {x : Int} {n : Nat} (h : x.natAbs ≤ n) (hn : Nat.blt n (2 ^ 8000) = true) : Bd x := Nat.lt_of_le_of_lt h (by simpa using hn)
/-- three ints of a list that a law has made, beside its state -/
def L3 (H : Hp) (st sc pl : Addr) (m : Nat) (t r b : Int) : Prop := H pl = some (.lst [.int t, .int r, .int b]) ∧ (pl ≠ st ∧ pl ≠ sc) ∧ t.natAbs ≤ m ∧ r.natAbs ≤ m ∧ b.natAbs ≤ m
theorem L3.sx {H H' : Hp} {st sc pl : Addr} {m : Nat} {t r b : Int} (h : L3 H st sc pl m t r b) (s : SameX st H H') : L3 H' st sc pl m t r b := ⟨s _ _ h.2.1.1 h.1, h.2⟩
theorem len3 {ns : List Int} (h : ns.length = 3) : ∃ a b c, ns = [a, b, c] := by
  match ns, h with
  | [a, b, c], _ => exact ⟨a, b, c, rfl⟩
theorem k_draw {st sc : Addr} {many : Int} {H : Hp} {Q : VK} {E : XK} (hs : StA H st sc) (h1 : 0 < many) (h2 : Nat.blt many.natAbs 1000000 = true) (q : ∀ n H', 0 ≤ n → n < many → SameX st H H' → StA H' st sc → Q (.int n) H') : sp__law_draw Z [.ref st, .int many] H Q E :=
  ⟨st, sc, many, rfl, hs, h1, Nat.lt_of_lt_of_le (by simpa using h2 : many.natAbs < 1000000) (by decide), q⟩
theorem k_between {st sc : Addr} {lo hi : Int} {H : Hp} {Q : VK} {E : XK} (hs : StA H st sc) (h1 : lo ≤ hi) (h2 : (hi - lo + 1).natAbs ≤ 10 ^ 30) (q : ∀ n H', lo ≤ n → n ≤ hi → SameX st H H' → StA H' st sc → Q (.int n) H') : sp__law_between Z [.ref st, .int lo, .int hi] H Q E :=
  ⟨st, sc, lo, hi, rfl, hs, h1, Nat.lt_of_le_of_lt h2 (by decide), q⟩
theorem fdiv_small {t b : Int} (hb : b ≠ 0) (h : t.fmod b = 0) : (t.fdiv b).natAbs ≤ t.natAbs := by
  have e := Int.fmod_add_mul_fdiv t b
  rw [h, Int.zero_add] at e
  have : t.natAbs = b.natAbs * (t.fdiv b).natAbs := by rw [← Int.natAbs_mul, e]
  rw [this]
  exact Nat.le_mul_of_pos_left _ (Int.natAbs_pos.mpr hb)
theorem bdm {x y : Int} (hx : Bd x) (hy : Bd y) : CMulS x y := .inr (.inr (wide_mul hx hy (by decide) (by decide) (by decide)))
/-- three parts that are not too great -/
def B3 (t r b : Int) : Prop := Bw 1000 t ∧ Bw 1000 r ∧ Bw 1000 b
def T3 (H : Hp) (p : Addr) (t r b : Int) : Prop := H p = some (.tup [.int t, .int r, .int b])
theorem Th.isN_same {c : Addr} {H H' : Hp} {v : V} (h : Th c H v) (s : Same H H') : isN c H' v = isN c H v := by
  have k : ∀ {a : Addr} {o : HO}, H a = some o → isN c H' (.ref a) = isN c H (.ref a) := fun {a o} e => by
    unfold isN isC
    simp only [e, s _ _ e]
  cases h with
  | lst a xs e => exact k e
  | tup a xs e => exact k e
  | dK a xs e => exact k e
  | root a dx t r b e => exact k e
  | _ => rfl
def spTwo (F : F3) : Sp := fun vs H Q _ => ∃ p p' t r b t' r' b', vs = [.ref p, .ref p'] ∧ T3 H p t r b ∧ T3 H p' t' r' b' ∧ B3 t r b ∧ B3 t' r' b' ∧
  ∀ u H', H u = none → Same H H' → T3 H' u (F.t t r b t' r' b') (F.r t r b t' r' b') (F.b t r b t' r' b') → Q (.ref u) H'
abbrev s__law_flag : Stmt := top 13
theorem sc__law_flag : FnScope ["thing", "due"] ["thing", "due"] (defScope s__law_flag) := ⟨rfl, rfl, rfl, by decide +kernel, rfl, by decide +kernel, by decide +kernel⟩

def sp__law_flag (Z : Zs) : Sp := fun vs H Q E =>
  ∃ x y : Bool, vs = [.bl x, .bl y] ∧ Q (.bl (decide (x = y))) H
theorem ok__law_flag (T : Txt Z mg)  (D : AtF Z.K mg "_law_flag" "_law_flag" s__law_flag ["thing", "due"]) : Has P w Z.K mg base "_law_flag" 1 ["thing", "due"] (sp__law_flag Z) := by
  refine D.ok sc__law_flag (fun vs H Q E h => ?_) (fun cdv A outer s H vs Q E hr h => ?_)
  · obtain ⟨x, y, rfl, _⟩ := h
    rfl
  · refine ⟨_, (pss_cons (ps_if (pt_truth (pv 1) (by intro _; rfl)) (pss_one (ps_ret (pe_cmpR op_isBl (pv 0) pe_bl (nomark _)))) pss_nil)
      (pss_one (ps_ret (pe_cmpR op_isBl (pv 0) pe_bl (nomark _))))), ?_⟩
    try simp only [cxOf]
    obtain ⟨x, y, rfl, q⟩ := h
    cases y
    · walk_at "W"
      refine ⟨_, rfl, ?_⟩
      walk_at "W"
      cases x
      · walk_at "W"
        exact q
      · walk_at "W"
        exact q
    · walk_at "W"
      refine ⟨_, rfl, ?_⟩
      walk_at "W"
      cases x
      · walk_at "W"
        exact q
      · walk_at "W"
        exact q
abbrev s__law_plus : Stmt := top 18
theorem sc__law_plus : FnScope ["one", "other"] ["one", "other"] (defScope s__law_plus) := ⟨rfl, rfl, rfl, by decide +kernel, rfl, by decide +kernel, by decide +kernel⟩

def sp__law_plus (Z : Zs) : Sp := fun vs H Q E =>
  spTwo plus vs H Q E
theorem ok__law_plus (T : Txt Z mg)  (D : AtF Z.K mg "_law_plus" "_law_plus" s__law_plus ["one", "other"]) : Has P w Z.K mg base "_law_plus" 1 ["one", "other"] (sp__law_plus Z) := by
  refine D.ok sc__law_plus (fun vs H Q E h => ?_) (fun cdv A outer s H vs Q E hr h => ?_)
  · obtain ⟨p, p', t, r, b, t', r', b', rfl, _⟩ := h
    rfl
  · refine ⟨_, (pss_one (ps_ret (pe_tup (pa_cons (pe_op op_add (pe_op op_mulS (pe_ix ix_seq (pv 0) pe_int (fun _ _ => rfl)) (pe_ix ix_seq (pv 1) pe_int (fun _ _ => rfl))) (pe_op op_mulS (pe_ix ix_seq (pv 1) pe_int (fun _ _ => rfl)) (pe_ix ix_seq (pv 0) pe_int (fun _ _ => rfl)))) (pa_cons (pe_op op_add (pe_op op_mulS (pe_ix ix_seq (pv 0) pe_int (fun _ _ => rfl)) (pe_ix ix_seq (pv 1) pe_int (fun _ _ => rfl))) (pe_op op_mulS (pe_ix ix_seq (pv 1) pe_int (fun _ _ => rfl)) (pe_ix ix_seq (pv 0) pe_int (fun _ _ => rfl)))) (pa_cons (pe_op op_mulS (pe_ix ix_seq (pv 0) pe_int (fun _ _ => rfl)) (pe_ix ix_seq (pv 1) pe_int (fun _ _ => rfl))) pa_nil)))))), ?_⟩
    try simp only [cxOf]
    obtain ⟨p, p', t, r, b, t', r', b', rfl, h1, h2, ⟨bt, br, bb⟩, ⟨bt', br', bb'⟩, q⟩ := h
    unfold T3 at h1 h2
    repeat (first | walk_at "s" | walk_at "mul")
    exact k_tup rfl q
abbrev s__law_minus : Stmt := top 19
theorem sc__law_minus : FnScope ["one", "other"] ["one", "other"] (defScope s__law_minus) := ⟨rfl, rfl, rfl, by decide +kernel, rfl, by decide +kernel, by decide +kernel⟩

def sp__law_minus (Z : Zs) : Sp := fun vs H Q E =>
  spTwo minus vs H Q E
theorem ok__law_minus (T : Txt Z mg)  (D : AtF Z.K mg "_law_minus" "_law_minus" s__law_minus ["one", "other"]) : Has P w Z.K mg base "_law_minus" 1 ["one", "other"] (sp__law_minus Z) := by
  refine D.ok sc__law_minus (fun vs H Q E h => ?_) (fun cdv A outer s H vs Q E hr h => ?_)
  · obtain ⟨p, p', t, r, b, t', r', b', rfl, _⟩ := h
    rfl
  · refine ⟨_, (pss_one (ps_ret (pe_tup (pa_cons (pe_op op_sub (pe_op op_mulS (pe_ix ix_seq (pv 0) pe_int (fun _ _ => rfl)) (pe_ix ix_seq (pv 1) pe_int (fun _ _ => rfl))) (pe_op op_mulS (pe_ix ix_seq (pv 1) pe_int (fun _ _ => rfl)) (pe_ix ix_seq (pv 0) pe_int (fun _ _ => rfl)))) (pa_cons (pe_op op_sub (pe_op op_mulS (pe_ix ix_seq (pv 0) pe_int (fun _ _ => rfl)) (pe_ix ix_seq (pv 1) pe_int (fun _ _ => rfl))) (pe_op op_mulS (pe_ix ix_seq (pv 1) pe_int (fun _ _ => rfl)) (pe_ix ix_seq (pv 0) pe_int (fun _ _ => rfl)))) (pa_cons (pe_op op_mulS (pe_ix ix_seq (pv 0) pe_int (fun _ _ => rfl)) (pe_ix ix_seq (pv 1) pe_int (fun _ _ => rfl))) pa_nil)))))), ?_⟩
    try simp only [cxOf]
    obtain ⟨p, p', t, r, b, t', r', b', rfl, h1, h2, ⟨bt, br, bb⟩, ⟨bt', br', bb'⟩, q⟩ := h
    unfold T3 at h1 h2
    repeat (first | walk_at "s" | walk_at "mul")
    exact k_tup rfl q
abbrev s__law_times : Stmt := top 20
theorem sc__law_times : FnScope ["one", "other"] ["one", "other"] (defScope s__law_times) := ⟨rfl, rfl, rfl, by decide +kernel, rfl, by decide +kernel, by decide +kernel⟩

def sp__law_times (Z : Zs) : Sp := fun vs H Q E =>
  spTwo times vs H Q E
theorem ok__law_times (T : Txt Z mg)  (D : AtF Z.K mg "_law_times" "_law_times" s__law_times ["one", "other"]) : Has P w Z.K mg base "_law_times" 1 ["one", "other"] (sp__law_times Z) := by
  refine D.ok sc__law_times (fun vs H Q E h => ?_) (fun cdv A outer s H vs Q E hr h => ?_)
  · obtain ⟨p, p', t, r, b, t', r', b', rfl, _⟩ := h
    rfl
  · refine ⟨_, (pss_one (ps_ret (pe_tup (pa_cons (pe_op op_add (pe_op op_mulS (pe_ix ix_seq (pv 0) pe_int (fun _ _ => rfl)) (pe_ix ix_seq (pv 1) pe_int (fun _ _ => rfl))) (pe_op op_mulS (pe_op op_mulS pe_int (pe_ix ix_seq (pv 0) pe_int (fun _ _ => rfl))) (pe_ix ix_seq (pv 1) pe_int (fun _ _ => rfl)))) (pa_cons (pe_op op_add (pe_op op_mulS (pe_ix ix_seq (pv 0) pe_int (fun _ _ => rfl)) (pe_ix ix_seq (pv 1) pe_int (fun _ _ => rfl))) (pe_op op_mulS (pe_ix ix_seq (pv 0) pe_int (fun _ _ => rfl)) (pe_ix ix_seq (pv 1) pe_int (fun _ _ => rfl)))) (pa_cons (pe_op op_mulS (pe_ix ix_seq (pv 0) pe_int (fun _ _ => rfl)) (pe_ix ix_seq (pv 1) pe_int (fun _ _ => rfl))) pa_nil)))))), ?_⟩
    try simp only [cxOf]
    obtain ⟨p, p', t, r, b, t', r', b', rfl, h1, h2, ⟨bt, br, bb⟩, ⟨bt', br', bb'⟩, q⟩ := h
    unfold T3 at h1 h2
    repeat (first | walk_at "s" | walk_at "mul")
    exact k_tup rfl q
abbrev s__law_sign : Stmt := top 21
theorem sc__law_sign : FnScope ["number", "top", "root"] ["number"] (defScope s__law_sign) := ⟨rfl, rfl, rfl, by decide +kernel, rfl, by decide +kernel, by decide +kernel⟩

def sp__law_sign (Z : Zs) : Sp := fun vs H Q E =>
  ∃ p t r b, vs = [.ref p] ∧ T3 H p t r b ∧ Bw 3000 t ∧ Bw 3000 r ∧ Q (.int (sgn t r)) H
theorem ok__law_sign (T : Txt Z mg)  (D : AtF Z.K mg "_law_sign" "_law_sign" s__law_sign ["number"]) : Has P w Z.K mg base "_law_sign" 1 ["number"] (sp__law_sign Z) := by
  refine D.ok sc__law_sign (fun vs H Q E h => ?_) (fun cdv A outer s H vs Q E hr h => ?_)
  · obtain ⟨p, t, r, b, rfl, _⟩ := h
    rfl
  · refine ⟨_, (pss_cons (ps_set (i := 1) sc__law_sign.nd rfl (Or.inl rfl) (pe_ix ix_seq (pv 0) pe_int (fun _ _ => rfl)))
      (pss_cons (ps_set (i := 2) sc__law_sign.nd rfl (Or.inl rfl) (pe_ix ix_seq (pv 0) pe_int (fun _ _ => rfl)))
      (C8.pss_cut (ps_if (PW.pt (pw_and (pt_cmpR op_eq (pv 1) pe_int (nomark _)) (pw_and1 (pt_cmpR op_eq (pv 2) pe_int (nomark _))))) (pss_one (ps_ret pe_int)) pss_nil)
      (C8.pss_cut (ps_if (PW.pt (pw_and (pt_cmpR op_ge (pv 1) pe_int (nomark _)) (pw_and1 (pt_cmpR op_ge (pv 2) pe_int (nomark _))))) (pss_one (ps_ret pe_int)) pss_nil)
      (C8.pss_cut (ps_if (PW.pt (pw_and (pt_cmpR op_le (pv 1) pe_int (nomark _)) (pw_and1 (pt_cmpR op_le (pv 2) pe_int (nomark _))))) (pss_one (ps_ret (pe_un un_neg pe_int))) pss_nil)
      (pss_cons (ps_if (pt_cmpR op_gt (pe_op op_mulS (pv 1) (pv 1)) (pe_op op_mulS (pe_op op_mulS pe_int (pv 2)) (pv 2)) (nomark _)) (pss_one (ps_ret (pe_ifExp (pt_cmpR op_gt (pv 1) pe_int (nomark _)) pe_int (pe_un un_neg pe_int)))) pss_nil)
      (pss_one (ps_ret (pe_ifExp (pt_cmpR op_gt (pv 2) pe_int (nomark _)) pe_int (pe_un un_neg pe_int)))))))))), ?_⟩
    try simp only [cxOf]
    obtain ⟨p, t, r, b, rfl, h1, bt, br, q⟩ := h
    unfold T3 at h1
    have L : ∀ {k : Int}, sgn t r = k → Q (.int k) H := fun e => e ▸ q
    walk_at "W"
    refine w_cut (fun σ' H' => (σ' = [some (.ref p), some (.int t), some (.int r)] ∧ H' = H) ∧ ¬ (t = 0 ∧ r = 0)) ?_ ?_
    · walk_at "W"
      refine w_ite (fun h1 => ?_) (fun h1 => ?_)
      · walk_at "W"
        refine w_ite (fun h2 => ?_) (fun h2 => ?_)
        · walk_at "W"
          exact L (by unfold sgn; rw [if_pos]; simp at h1 h2; omega)
        · walk_at "W"
          exact ⟨⟨rfl, rfl⟩, by simp at h1 h2; omega⟩
      · walk_at "W"
        exact ⟨⟨rfl, rfl⟩, by simp at h1; omega⟩
    rintro σ' H' ⟨⟨rfl, rfl⟩, n1⟩
    walk_at "W"
    refine w_cut (fun σ' H1 => (σ' = [some (.ref p), some (.int t), some (.int r)] ∧ H1 = H') ∧ ¬ (0 ≤ t ∧ 0 ≤ r)) ?_ ?_
    · walk_at "W"
      refine w_ite (fun h1 => ?_) (fun h1 => ?_)
      · walk_at "W"
        refine w_ite (fun h2 => ?_) (fun h2 => ?_)
        · walk_at "W"
          exact L (by unfold sgn; rw [if_neg n1, if_pos ⟨h1, h2⟩])
        · walk_at "W"
          exact ⟨⟨rfl, rfl⟩, fun z => h2 z.2⟩
      · walk_at "W"
        exact ⟨⟨rfl, rfl⟩, fun z => h1 z.1⟩
    rintro σ' H1 ⟨⟨rfl, rfl⟩, n2⟩
    walk_at "W"
    refine w_cut (fun σ' H' => (σ' = [some (.ref p), some (.int t), some (.int r)] ∧ H' = H1) ∧ ¬ (t ≤ 0 ∧ r ≤ 0)) ?_ ?_
    · walk_at "W"
      refine w_ite (fun h1 => ?_) (fun h1 => ?_)
      · walk_at "W"
        refine w_ite (fun h2 => ?_) (fun h2 => ?_)
        · walk_at "W"
          exact L (by unfold sgn; rw [if_neg n1, if_neg n2, if_pos ⟨h1, h2⟩])
        · walk_at "W"
          exact ⟨⟨rfl, rfl⟩, fun z => h2 z.2⟩
      · walk_at "W"
        exact ⟨⟨rfl, rfl⟩, fun z => h1 z.1⟩
    rintro σ' H' ⟨⟨rfl, rfl⟩, n3⟩
    repeat (first | walk_at "s" | walk_at "mul")
    have go : ∀ {k : Int}, (if t * t > 2 * r * r then (if 0 < t then 1 else -1) else if 0 < r then 1 else -1) = k → Q (.int k) H' := fun e => L (by unfold sgn; rw [if_neg n1, if_neg n2, if_neg n3]; exact e)
    refine w_ite (fun h1 => ?_) (fun h1 => ?_)
    · walk_at "W"
      refine w_ite (fun h2 => ?_) (fun h2 => ?_)
      · walk_at "W"
        exact go (by rw [if_pos h1, if_pos h2])
      · walk_at "W"
        exact go (by rw [if_pos h1, if_neg h2])
    · walk_at "W"
      refine w_ite (fun h2 => ?_) (fun h2 => ?_)
      · walk_at "W"
        exact go (by rw [if_neg h1, if_pos h2])
      · walk_at "W"
        exact go (by rw [if_neg h1, if_neg h2])
/-! ### what two numbers make, told of the same numbers times something -/
def Hom (F : F3) : Prop := ∀ t r b t' r' b' s s' : Int, s ≠ 0 → s' ≠ 0 → ∃ k : Int, k ≠ 0 ∧ F.t (t * s) (r * s) (b * s) (t' * s') (r' * s') (b' * s') = F.t t r b t' r' b' * k ∧
  F.r (t * s) (r * s) (b * s) (t' * s') (r' * s') (b' * s') = F.r t r b t' r' b' * k ∧ F.b (t * s) (r * s) (b * s) (t' * s') (r' * s') (b' * s') = F.b t r b t' r' b' * k
theorem hom_plus : Hom plus := fun t r b t' r' b' s s' h h' => ⟨s * s', Int.mul_ne_zero h h', by unfold plus; dsimp only; grind, by unfold plus; dsimp only; grind, by unfold plus; dsimp only; grind⟩
theorem hom_minus : Hom minus := fun t r b t' r' b' s s' h h' => ⟨s * s', Int.mul_ne_zero h h', by unfold minus; dsimp only; grind, by unfold minus; dsimp only; grind, by unfold minus; dsimp only; grind⟩
theorem hom_times : Hom times := fun t r b t' r' b' s s' h h' => ⟨s * s', Int.mul_ne_zero h h', by unfold times; dsimp only; grind, by unfold times; dsimp only; grind, by unfold times; dsimp only; grind⟩
theorem hom_quot : Hom quot := fun t r b t' r' b' s s' h h' => ⟨s * (s' * s'), Int.mul_ne_zero h (Int.mul_ne_zero h' h'), by unfold quot; dsimp only; grind, by unfold quot; dsimp only; grind, by unfold quot; dsimp only; grind⟩
/-- what the lowest terms make is what the numbers make -/
theorem low_hom {F : F3} (hF : Hom F) {c : Addr} {H : Hp} {v : V} {t r b t' r' b' : Int} (hb : b ≠ 0) (hb' : b' ≠ 0) (n : F.b (lowT t r b) (lowR t r b) (lowB t r b) (lowT t' r' b') (lowR t' r' b') (lowB t' r' b') ≠ 0)
    (h : LowAt c H v (F.t (lowT t r b) (lowR t r b) (lowB t r b) (lowT t' r' b') (lowR t' r' b') (lowB t' r' b')) (F.r (lowT t r b) (lowR t r b) (lowB t r b) (lowT t' r' b') (lowR t' r' b') (lowB t' r' b')) (F.b (lowT t r b) (lowR t r b) (lowB t r b) (lowT t' r' b') (lowR t' r' b') (lowB t' r' b'))) :
    LowAt c H v (F.t t r b t' r' b') (F.r t r b t' r' b') (F.b t r b t' r' b') := by
  obtain ⟨s, hs, e1, e2, e3⟩ := (low_is (t := t) (r := r) hb).s
  obtain ⟨s', hs', e1', e2', e3'⟩ := (low_is (t := t') (r := r') hb').s
  obtain ⟨k, hk, k1, k2, k3⟩ := hF (lowT t r b) (lowR t r b) (lowB t r b) (lowT t' r' b') (lowR t' r' b') (lowB t' r' b') s s' hs hs'
  rw [← e1, ← e2, ← e3, ← e1', ← e2', ← e3'] at k1 k2 k3
  exact h.congr' n hk k1 k2 k3
theorem k_ownB {x y : V} {t r b t' r' b' : Int} {H : Hp} {Q : VK} {sp spr : Sp} {E : XK} {c : Addr} {F : F3} (e1 : sp = spBin c F) (e2 : spr = spBin c (back F)) (hx : NumAt c H x t r b) (hy : NumAt c H y t' r' b') (one : RootAt c H x t r b ∨ RootAt c H y t' r' b') (sm : Sm t r b) (sm' : Sm t' r' b')
    (q : ∀ v' H', Same H H' → LowAt c H' v' (F.t t r b t' r' b') (F.r t r b t' r' b') (F.b t r b t' r' b') → Q v' H') : rOwnB c sp spr E x y H Q := by
  subst e1 e2
  have two : ∀ {v : V} {t r b : Int}, NumAt c H v t r b → (∃ i, v = .int i) ∨ ∃ a' dx' fs', v = .ref a' ∧ H a' = some (.ins c dx' fs') := fun h => by
    rcases h with ⟨a', dx', rfl, ha'⟩ | ⟨i, rfl, _⟩
    · exact .inr ⟨a', dx', _, rfl, ha'⟩
    · exact .inl ⟨i, rfl⟩
  rcases hx with hx | ⟨i, rfl, hi⟩
  · have hx' := hx
    obtain ⟨a, dx, rfl, ha⟩ := hx
    exact .inl ⟨a, dx, _, rfl, ha, two hy, _, _, t, r, b, t', r', b', rfl, hx', sm, hy, sm', q⟩
  · rcases one with ⟨a, dx, z, _⟩ | hy'
    · cases z
    · have hy2 := hy'
      obtain ⟨a, dx, rfl, ha⟩ := hy2
      exact .inr ⟨i, a, dx, _, rfl, rfl, ha, _, _, t', r', b', t, r, b, rfl, hy', sm', .inr ⟨i, rfl, hi⟩, sm, q⟩
theorem eqRt_num {H : Hp} {t r b t' r' b' : Int} {v : V} {c : Addr} (h : NumAt c H v t' r' b') : eqRt H t r b v = decide (t' = t ∧ r' = r ∧ b' = b) ∨ ∃ i, v = .int i ∧ t' = i ∧ r' = 0 ∧ b' = 1 ∧ eqRt H t r b v = (decide (r = 0) && (decide (b = 1) && decide (t = i))) := by
  rcases h with h | ⟨i, rfl, h1, h2, h3⟩
  · exact .inl (eqRt_root h)
  · exact .inr ⟨i, rfl, h1, h2, h3, rfl⟩
theorem eqRt_self {H : Hp} {t r b : Int} {v : V} {c : Addr} (h : NumAt c H v t r b) : eqRt H t r b v = true := by
  rcases eqRt_num (t := t) (r := r) (b := b) h with e | ⟨i, rfl, rfl, rfl, rfl, e⟩
  · rw [e]; simp
  · rw [e]; simp
theorem NumAt.sx {c st sc : Addr} {H H' : Hp} {v : V} {t r b : Int} (h : NumAt c H v t r b) (hs : StA H st sc) (s : SameX st H H') : NumAt c H' v t r b := h.imp (·.sx hs s) id
/-- != of plain things -/
def rNeU (K : PySem.W.Frag) : R2 := fun x y H Q => rNeD K x y H Q ∨ rNeDA x y H Q
theorem op_neU {X : Cx} (hu : X.A.units + 64 < cLine) : OpR X (compareOp .NotEq) (rNeU X.K) := (op_neD hu).or (op_ne_dictA (by omega))
theorem w_neSelf {K : PySem.W.Frag} {H : Hp} {Q : VK} {v : V} (h : (∃ b, v = .bl b) ∨ Selfy H v) (q : Q (.bl false) H) : rNeU K v v H Q := by
  have go : ∀ d, Dp K H v d → SeqAt.shaped d = true → rNeU K v v H Q := fun d hd sd => .inl ⟨d, d, hd, hd, sd, sd, by rw [SeqAt.eqv_refl d (SeqAt.canLay_of_shaped sd)]; exact q⟩
  rcases h with ⟨b, rfl⟩ | h
  · exact go _ (.bl b) (by cases b <;> decide +kernel)
  cases h with
  | non => exact go _ .non (by decide +kernel)
  | int i => exact go _ (.int i) rfl
  | str s h => exact go _ (.str s) h
  | lst a ns e => exact go _ (.lst (SqL.of e) (dp_ints ns)) (shaped_intsL ns)
  | tup a ns e => exact go _ (.tup (SqT.of e) (dp_ints ns)) (shaped_ints ns)
  | dK a e => exact .inr ⟨a, a, [], [], rfl, rfl, e, e, rfl, (fun _ h => nomatch h), q⟩
theorem T3.sx {H H' : Hp} {st sc u : Addr} {t r b : Int} (h : T3 H u t r b) (hs : StA H st sc) (s : SameX st H H') : T3 H' u t r b := s _ _ (hs.ne h (by intro xs z; cases z)) h
theorem NumAt.isB {c : Addr} {H : Hp} {v : V} {t r b : Int} (h : NumAt c H v t r b) : isB v = false := by
  rcases h with ⟨a, dx, rfl, e⟩ | ⟨i, rfl, _⟩ <;> rfl
theorem k_eq0 {mg : Str → Option Value} (T : Txt Z mg) {H : Hp} {Q : VK} {E : XK} {o : V} {t' r' b' : Int} (hn : NumAt Z.c_Root H o t' r' b') (sm : Sm t' r' b') (z : t' = 0 ∧ r' = 0) (q : Q (.bl true) H) : rOwnC Z.K Z.c_Root (sp_Root_eq Z) E o (.int 0) H Q ∨ rEq o (.int 0) H Q := by
  rcases hn with hn | ⟨i, rfl, h1, h2, h3⟩
  · refine .inl (k_eqC T hn (.int 0) ?_)
    have : eqRt H t' r' b' (.int 0) = true := by
      show (decide (r' = 0) && (decide (b' = 1) && decide (t' = 0))) = true
      rw [← Bool.decide_and, ← Bool.decide_and]
      exact decide_eq_true ((sm_zero sm).mpr z)
    rw [this]
    exact q
  · refine .inr (w_eq rfl ?_)
    have : i = 0 := by omega
    subst this
    exact q
theorem k_eqS {mg : Str → Option Value} (T : Txt Z mg) {H : Hp} {Q : VK} {E : XK} {x y : V} {t r b : Int} (hx : NumAt Z.c_Root H x t r b) (hy : RootAt Z.c_Root H y t r b) (q : Q (.bl true) H) : rOwnC Z.K Z.c_Root (sp_Root_eq Z) E x y H Q ∨ rOwnR Z.K Z.c_Root (sp_Root_eq Z) E x y H Q := by
  have hn : NumAt Z.c_Root H y t r b := .inl hy
  rcases hx with hx | ⟨i, rfl, h1, h2, h3⟩
  · exact .inl (k_eqC T hx hy.th (by rw [eqRt_self hn]; exact q))
  · refine .inr (k_eqR T hy (.inl ⟨i, rfl⟩) ?_)
    rw [eqRt_self (.inr ⟨i, rfl, h1, h2, h3⟩ : NumAt Z.c_Root H (.int i) t r b)]
    exact q
theorem Selfy.same {H H' : Hp} {v : V} (h : Selfy H v) (s : Same H H') : Selfy H' v := by
  cases h with
  | non => exact .non
  | int i => exact .int i
  | str x h => exact .str x h
  | lst a ns e => exact .lst a ns (s _ _ e)
  | tup a ns e => exact .tup a ns (s _ _ e)
  | dK a e => exact .dK a (s _ _ e)
theorem low_zero {t r b : Int} (hb : b ≠ 0) : (lowT t r b = 0 ∧ lowR t r b = 0) ↔ (t = 0 ∧ r = 0) := by
  obtain ⟨s, hs, e1, e2, _⟩ := (low_is (t := t) (r := r) hb).s
  constructor
  · rintro ⟨h1, h2⟩
    rw [h1] at e1; rw [h2] at e2
    exact ⟨by omega, by omega⟩
  · rintro ⟨h1, h2⟩
    exact ⟨(Int.mul_eq_zero.mp (e1.symm.trans h1)).resolve_right hs, (Int.mul_eq_zero.mp (e2.symm.trans h2)).resolve_right hs⟩
theorem LowAt.eq {c : Addr} {H : Hp} {v : V} {t r b t' r' b' : Int} (h : LowAt c H v t r b) (e1 : t = t') (e2 : r = r') (e3 : b = b') : LowAt c H v t' r' b' := by rw [← e1, ← e2, ← e3]; exact h
theorem sgn_scale {t r k : Int} (hk : 0 < k) : sgn (t * k) (r * k) = sgn t r := by
  have z : ∀ x : Int, (x * k = 0) = (x = 0) := fun x => propext ⟨fun h => (Int.mul_eq_zero.mp h).resolve_right (by omega), fun h => by rw [h, Int.zero_mul]⟩
  have p : ∀ x : Int, (0 ≤ x * k) = (0 ≤ x) := fun x => propext ⟨fun h => by
    rcases Int.lt_or_le x 0 with q | q
    · have := Int.mul_neg_of_neg_of_pos q hk; omega
    · exact q, fun h => Int.mul_nonneg h (by omega)⟩
  have n : ∀ x : Int, (x * k ≤ 0) = (x ≤ 0) := fun x => propext ⟨fun h => by
    rcases Int.lt_or_le 0 x with q | q
    · have := Int.mul_pos q hk; omega
    · exact q, fun h => Int.mul_nonpos_of_nonpos_of_nonneg h (by omega)⟩
  have g : ∀ x : Int, (0 < x * k) = (0 < x) := fun x => propext ⟨fun h => by
    rcases Int.lt_or_le 0 x with q | q
    · exact q
    · have := Int.mul_nonpos_of_nonpos_of_nonneg q (show 0 ≤ k by omega); omega, fun h => Int.mul_pos h hk⟩
  have kk : 0 < k * k := Int.mul_pos hk hk
  have m : (t * k * (t * k) > 2 * (r * k) * (r * k)) = (t * t > 2 * r * r) := by
    have e1 : t * k * (t * k) = (t * t) * (k * k) := by grind
    have e2 : 2 * (r * k) * (r * k) = (2 * r * r) * (k * k) := by grind
    rw [e1, e2]
    exact propext ⟨fun h => Int.lt_of_mul_lt_mul_right h (by omega), fun h => Int.mul_lt_mul_of_pos_right h kk⟩
  unfold sgn
  simp only [z, p, n, g, m]
theorem low_pos {t r b : Int} (hb : 0 < b) : ∃ s : Int, 0 < s ∧ t = lowT t r b * s ∧ r = lowR t r b * s ∧ b = lowB t r b * s := by
  have l := low_is (t := t) (r := r) (show b ≠ 0 by omega)
  obtain ⟨s, hs, e1, e2, e3⟩ := l.s
  refine ⟨s, ?_, e1, e2, e3⟩
  rcases Int.lt_trichotomy s 0 with q | q | q
  · have := Int.mul_neg_of_pos_of_neg l.pos q; omega
  · exact absurd q hs
  · exact q
theorem minus_sgn {t1 r1 b1 t2 r2 b2 : Int} (h1 : 0 < b1) (h2 : 0 < b2) : sgn (minus.t (lowT t1 r1 b1) (lowR t1 r1 b1) (lowB t1 r1 b1) (lowT t2 r2 b2) (lowR t2 r2 b2) (lowB t2 r2 b2)) (minus.r (lowT t1 r1 b1) (lowR t1 r1 b1) (lowB t1 r1 b1) (lowT t2 r2 b2) (lowR t2 r2 b2) (lowB t2 r2 b2)) = sgn (minus.t t1 r1 b1 t2 r2 b2) (minus.r t1 r1 b1 t2 r2 b2) := by
  obtain ⟨s, hs, e1, e2, e3⟩ := low_pos (t := t1) (r := r1) h1
  obtain ⟨s', hs', e1', e2', e3'⟩ := low_pos (t := t2) (r := r2) h2
  generalize lowT t1 r1 b1 = x at *
  generalize lowR t1 r1 b1 = y at *
  generalize lowB t1 r1 b1 = z at *
  generalize lowT t2 r2 b2 = x' at *
  generalize lowR t2 r2 b2 = y' at *
  generalize lowB t2 r2 b2 = z' at *
  subst e1 e2 e3 e1' e2' e3'
  have k1 : minus.t (x * s) (y * s) (z * s) (x' * s') (y' * s') (z' * s') = minus.t x y z x' y' z' * (s * s') := by unfold minus; dsimp only; grind
  have k2 : minus.r (x * s) (y * s) (z * s) (x' * s') (y' * s') (z' * s') = minus.r x y z x' y' z' * (s * s') := by unfold minus; dsimp only; grind
  rw [k1, k2, sgn_scale (Int.mul_pos hs hs')]
abbrev s__law_is_integer : Stmt := top 22
theorem sc__law_is_integer : FnScope ["thing"] ["thing"] (defScope s__law_is_integer) := ⟨rfl, rfl, rfl, by decide +kernel, rfl, by decide +kernel, by decide +kernel⟩

def sp__law_is_integer (Z : Zs) : Sp := fun vs H Q E =>
  ∃ v, vs = [v] ∧ Th Z.c_Root H v ∧ Q (.bl (isI v)) H
theorem ok__law_is_integer (T : Txt Z mg)  (D : AtF Z.K mg "_law_is_integer" "_law_is_integer" s__law_is_integer ["thing"]) : Has P w Z.K mg base "_law_is_integer" 1 ["thing"] (sp__law_is_integer Z) := by
  refine D.ok sc__law_is_integer (fun vs H Q E h => ?_) (fun cdv A outer s H vs Q E hr h => ?_)
  · obtain ⟨v, rfl, _⟩ := h
    rfl
  · refine ⟨_, (pss_one (ps_ret (pe_and (pe_callB call_isi rfl T.n_isinstance (by decide +kernel) (pa_cons (pv 0) (pa_cons (pe_bltn (v := .ty "int") rfl T.n_int (by decide +kernel) rfl) pa_nil))) (pe_one (pe_not (pe_callB call_isi rfl T.n_isinstance (by decide +kernel) (pa_cons (pv 0) (pa_cons (pe_bltn (v := .ty "bool") rfl T.n_bool (by decide +kernel) rfl) pa_nil)))))))), ?_⟩
    try simp only [cxOf]
    obtain ⟨v, rfl, hv, q⟩ := h
    obtain ⟨t, ty, k1, k2, _⟩ := hv.ty T.ki
    walk_at "W"
    refine w_isi ty k1 ?_
    walk_at "W"
    cases e : isI v || isB v
    · walk_at "W"
      have : isI v = false := by cases v <;> simp_all [isI, isB]
      rw [this] at q; exact q
    · walk_at "W"
      refine w_isi ty k2 ?_
      walk_at "W"
      have : (!isB v) = isI v := by cases v <;> simp_all [isI, isB]
      rw [this]; exact q
/-- a tuple of three ints that is no great number -/
def Tb (H : Hp) (u : Addr) (m : Nat) (t r b : Int) : Prop := T3 H u t r b ∧ Bw m t ∧ Bw m r ∧ 0 < b ∧ b.natAbs ≤ 10 ^ 25
abbrev s__law_number : Stmt := top 23
theorem sc__law_number : FnScope ["state", "ahead", "kind", "most", "small", "k"] ["state", "ahead"] (defScope s__law_number) := ⟨rfl, rfl, rfl, by decide +kernel, rfl, by decide +kernel, by decide +kernel⟩

def sp__law_number (Z : Zs) : Sp := fun vs H Q E =>
  ∃ st sc u t r b m, vs = [.ref st, .ref u] ∧ StA H st sc ∧ 160 ≤ m ∧ m ≤ 900 ∧ Tb H u m t r b ∧ ∀ u' t' r' b' H', SameX st H H' → StA H' st sc → Tb H' u' (m + 1) t' r' b' → Q (.ref u') H'
theorem ok__law_number (T : Txt Z mg) (h__law_plus : Has P w Z.K mg base "_law_plus" 1 ["one", "other"] (sp__law_plus Z)) (h__law_between : Has P w Z.K mg base "_law_between" 3 ["state", "least", "most"] (sp__law_between Z)) (h__law_draw : Has P w Z.K mg base "_law_draw" 2 ["state", "many"] (sp__law_draw Z)) (h__law_times : Has P w Z.K mg base "_law_times" 1 ["one", "other"] (sp__law_times Z)) (D : AtF Z.K mg "_law_number" "_law_number" s__law_number ["state", "ahead"]) : Has P w Z.K mg base "_law_number" 4 ["state", "ahead"] (sp__law_number Z) := by
  refine D.ok sc__law_number (fun vs H Q E h => ?_) (fun cdv A outer s H vs Q E hr h => ?_)
  · obtain ⟨st, sc, u, t, r, b, m, rfl, _⟩ := h
    rfl
  · refine ⟨_, (pss_cons (ps_set (i := 2) sc__law_number.nd rfl (Or.inl rfl) (pe_h (E := ED E) h__law_draw hr (paW (takes_of rfl rfl rfl rfl)) (pa_cons (pv 0) (pa_cons pe_int pa_nil))))
      (pss_cons (ps_if (pt_cmpR op_eq (pv 2) pe_int (nomark _)) (pss_one (ps_ret (pe_tup (pa_cons (pe_h (E := ED E) h__law_between hr (paW (takes_of rfl rfl rfl rfl)) (pa_cons (pv 0) (pa_cons (pe_un un_neg pe_int) (pa_cons pe_int pa_nil)))) (pa_cons pe_int (pa_cons pe_int pa_nil)))))) pss_nil)
      (pss_cons (ps_if (pt_cmpR op_eq (pv 2) pe_int (nomark _)) (pss_one (ps_ret (pe_tup (pa_cons (pe_h (E := ED E) h__law_between hr (paW (takes_of rfl rfl rfl rfl)) (pa_cons (pv 0) (pa_cons (pe_un un_neg pe_int) (pa_cons pe_int pa_nil)))) (pa_cons (pe_h (E := ED E) h__law_between hr (paW (takes_of rfl rfl rfl rfl)) (pa_cons (pv 0) (pa_cons (pe_un un_neg pe_int) (pa_cons pe_int pa_nil)))) (pa_cons (pe_h (E := ED E) h__law_between hr (paW (takes_of rfl rfl rfl rfl)) (pa_cons (pv 0) (pa_cons pe_int (pa_cons pe_int pa_nil)))) pa_nil)))))) pss_nil)
      (pss_cons (ps_if (pt_cmpR op_eq (pv 2) pe_int (nomark _)) (pss_cons (ps_set (i := 3) sc__law_number.nd rfl (Or.inl rfl) (pe_op op_pow pe_int pe_int))
      (pss_one (ps_ret (pe_tup (pa_cons (pe_h (E := ED E) h__law_between hr (paW (takes_of rfl rfl rfl rfl)) (pa_cons (pv 0) (pa_cons (pe_un un_neg (pv 3)) (pa_cons (pv 3) pa_nil)))) (pa_cons (pe_h (E := ED E) h__law_between hr (paW (takes_of rfl rfl rfl rfl)) (pa_cons (pv 0) (pa_cons (pe_un un_neg (pv 3)) (pa_cons (pv 3) pa_nil)))) (pa_cons (pe_h (E := ED E) h__law_between hr (paW (takes_of rfl rfl rfl rfl)) (pa_cons (pv 0) (pa_cons pe_int (pa_cons (pv 3) pa_nil)))) pa_nil))))))) pss_nil)
      (pss_cons (ps_set (i := 4) sc__law_number.nd rfl (Or.inl rfl) (pe_tup (pa_cons pe_int (pa_cons pe_int (pa_cons pe_int pa_nil)))))
      (C8.pss_cut (ps_for (passes_of rfl) rfl (pi_range1 rfl T.n_range (pa_cons (pe_h (E := ED E) h__law_draw hr (paW (takes_of rfl rfl rfl rfl)) (pa_cons (pv 0) (pa_cons pe_int pa_nil))) pa_nil)) (pg_name (i := 5) sc__law_number.nd rfl (Or.inl rfl)) (pss_one (ps_set (i := 4) sc__law_number.nd rfl (Or.inl rfl) (pe_h (E := ED E) h__law_times hr (paW (takes_of rfl rfl rfl rfl)) (pa_cons (pv 4) (pa_cons (pe_tup (pa_cons pe_int (pa_cons (pe_un un_neg pe_int) (pa_cons pe_int pa_nil)))) pa_nil))))))
      (pss_cons (ps_if (pt_cmpR op_eq (pv 2) pe_int (nomark _)) (pss_one (ps_ret (pe_tup (pa_cons (pe_op op_add (pe_op op_mulS pe_int (pe_ix ix_seq (pv 4) pe_int (fun _ _ => rfl))) (pe_h (E := ED E) h__law_between hr (paW (takes_of rfl rfl rfl rfl)) (pa_cons (pv 0) (pa_cons (pe_un un_neg pe_int) (pa_cons pe_int pa_nil))))) (pa_cons (pe_op op_mulS pe_int (pe_ix ix_seq (pv 4) pe_int (fun _ _ => rfl))) (pa_cons pe_int pa_nil)))))) pss_nil)
      (pss_cons (ps_if (pt_cmpR op_eq (pv 2) pe_int (nomark _)) (pss_one (ps_ret (pv 4))) pss_nil)
      (pss_cons (ps_if (pt_cmpR op_gt (pe_callB cn_abs rfl T.n_abs (by decide +kernel) (pa_cons (pe_ix ix_seq (pv 1) pe_int (fun _ _ => rfl)) pa_nil)) (pe_op op_pow pe_int pe_int) (nomark _)) (pss_one (ps_ret (pe_h (E := ED E) h__law_plus hr (paW (takes_of rfl rfl rfl rfl)) (pa_cons (pv 4) (pa_cons (pe_tup (pa_cons pe_int (pa_cons pe_int (pa_cons pe_int pa_nil)))) pa_nil))))) pss_nil)
      (pss_one (ps_ret (pe_h (E := ED E) h__law_plus hr (paW (takes_of rfl rfl rfl rfl)) (pa_cons (pv 1) (pa_cons (pv 4) pa_nil)))))))))))))), ?_⟩
    try simp only [cxOf]
    obtain ⟨st, sc, u, t, r, b, m, rfl, hs, m1, m2, ⟨g, bt, br, pb, bb⟩, q⟩ := h
    have e25 : (10 : Int) ^ Int.toNat 25 = 10000000000000000000000000 := by decide
    have e9 : (10 : Int) ^ Int.toNat 9 = 1000000000 := by decide
    have Q3 : ∀ {u' : Addr} {t' r' b' : Int} {H' : Hp}, SameX st H H' → StA H' st sc → T3 H' u' t' r' b' → t'.natAbs ≤ 10 ^ 25 → r'.natAbs ≤ 10 ^ 25 → b'.natAbs ≤ 10 ^ 25 → 0 < b' → Q (.ref u') H' := fun x s g h1 h2 h3 h4 =>
      q _ _ _ _ _ x s ⟨g, (bw_of h1 (by decide) : Bw 100 _).mono (by omega), (bw_of h2 (by decide) : Bw 100 _).mono (by omega), h4, h3⟩
    walk_at "W"
    refine k_draw hs (by decide) (by decide) fun n H1 n0 n1 x1 hs1 => ?_
    walk_at "W"
    refine w_ite (fun c => ?_) (fun c => ?_)
    · walk_at "W"
      refine k_between hs1 (by decide) (by decide) fun n2 H2 l2 g2 x2 hs2 => ?_
      walk_at "W"
      exact k_tup rfl fun u H3 hu s3 e3 => Q3 (x1.trans (x2.trans (Same.x s3))) (hs2.same s3) e3 (by omega) (by decide) (by decide) (by decide)
    walk_at "W"
    refine w_ite (fun c => ?_) (fun c => ?_)
    · walk_at "W"
      refine k_between hs1 (by decide) (by decide) fun n2 H2 l2 g2 x2 hs2 => ?_
      walk_at "W"
      refine k_between hs2 (by decide) (by decide) fun n3 H3 l3 g3 x3 hs3 => ?_
      walk_at "W"
      refine k_between hs3 (by decide) (by decide) fun n4 H4 l4 g4 x4 hs4 => ?_
      walk_at "W"
      exact k_tup rfl fun u H5 hu s5 e5 => Q3 (x1.trans (x2.trans (x3.trans (x4.trans (Same.x s5))))) (hs4.same s5) e5 (by omega) (by omega) (by omega) (by omega)
    walk_at "W"
    refine w_ite (fun c => ?_) (fun c => ?_)
    · walk_at "W"
      rw [e25]
      walk_at "W"
      refine k_between hs1 (by decide) (by decide) fun n2 H2 l2 g2 x2 hs2 => ?_
      walk_at "W"
      refine k_between hs2 (by decide) (by decide) fun n3 H3 l3 g3 x3 hs3 => ?_
      walk_at "W"
      refine k_between hs3 (by decide) (by decide) fun n4 H4 l4 g4 x4 hs4 => ?_
      walk_at "W"
      exact k_tup rfl fun u H5 hu s5 e5 => Q3 (x1.trans (x2.trans (x3.trans (x4.trans (Same.x s5))))) (hs4.same s5) e5 (by omega) (by omega) (by omega) (by omega)
    walk_at "W"
    refine k_tup rfl fun u1 H2 hu1 s2 e2 => ?_
    walk_at "W"
    refine w_cut (fun σ' H' => ∃ u' t' r' x, σ' = [some (.ref st), some (.ref u), some (.int n), none, some (.ref u'), x] ∧ StA H' st sc ∧ SameX st H H' ∧ T3 H' u' t' r' 1 ∧ Bw 122 t' ∧ Bw 122 r') ?_ ?_
    · walk_at "W"
      refine k_draw (hs1.same s2) (by decide) (by decide) fun kk H3 k0 k1 x3 hs3 => ?_
      refine k_forR (fun i σ' H' => ∃ u' t' r' x, σ' = [some (.ref st), some (.ref u), some (.int n), none, some (.ref u'), x] ∧ StA H' st sc ∧ SameX st H H' ∧ T3 H' u' t' r' 1 ∧ Bw (2 * i + 1) t' ∧ Bw (2 * i + 1) r') (by omega) (by omega) ?_ ?_ ?_
      · exact ⟨u1, 1, 0, none, rfl, hs3, x1.trans ((Same.x s2).trans x3), (T3.sx e2 (hs1.same s2) x3), (by unfold Bw; decide), (by unfold Bw; decide)⟩
      · rintro i σ' H' hi ⟨u', t', r', x, rfl, hs', x', g', w1, w2⟩
        walk_at "W"
        refine k_tup rfl fun p H5 hp s5 e5 => ?_
        walk_at "W"
        refine ⟨u', p, _, _, _, _, _, _, rfl, s5 _ _ g', e5, ⟨w1.mono (by omega), w2.mono (by omega), Bw.one.mono (by decide)⟩, ⟨Bw.one.mono (by decide), Bw.one.neg.mono (by decide), Bw.one.mono (by decide)⟩, fun u6 H6 hu6 s6 e6 => ?_⟩
        walk_at "W"
        have pw : (2 : Nat) ^ (2 * (i + 1) + 1) = 4 * 2 ^ (2 * i + 1) := by rw [show 2 * (i + 1) + 1 = (2 * i + 1) + 2 by omega, Nat.pow_add]; omega
        refine ⟨u6, _, _, _, rfl, (hs'.same s5).same s6, x'.trans (Same.x (s5.trans s6)), e6, ?_, ?_⟩
        · show Bw _ (t' * 1 + 2 * r' * -1)
          unfold Bw at *
          omega
        · show Bw _ (t' * -1 + r' * 1)
          unfold Bw at *
          omega
      · rintro σ' H' ⟨u', t', r', x, rfl, hs', x', g', w1, w2⟩
        exact ⟨u', t', r', x, rfl, hs', x', g', w1.mono (by omega), w2.mono (by omega)⟩
    rintro σ' H' ⟨u', t', r', x, rfl, hs', x', g', w1, w2⟩
    have g : T3 H' u t r b := g.sx hs x'
    unfold T3 at g g'
    walk_at "W"
    refine w_ite (fun c => ?_) (fun c => ?_)
    · repeat (first | walk_at "s" | walk_at "mul")
      refine k_between hs' (by decide) (by decide) fun n2 H2 l2 g2 x2 hs2 => ?_
      have g' : H2 u' = some (.tup [.int t', .int r', .int 1]) := T3.sx g' hs' x2
      repeat (first | walk_at "s" | walk_at "mul")
      exact k_tup rfl fun u3 H3 hu s3 e3 => q _ _ _ _ _ (x'.trans (x2.trans (Same.x s3))) (hs2.same s3) ⟨e3, ((Bw.two.mul w1).add (bw_of (show n2.natAbs ≤ 9 by omega) (by decide) : Bw 4 n2)).mono (by omega), (Bw.two.mul w2).mono (by omega), by decide, by decide⟩
    walk_at "W"
    refine w_ite (fun c => ?_) (fun c => ?_)
    · walk_at "W"
      exact q _ _ _ _ _ x' hs' ⟨g', w1.mono (by omega), w2.mono (by omega), by decide, by decide⟩
    walk_at "W"
    rw [e9]
    walk_at "W"
    refine w_ite (fun c => ?_) (fun c => ?_)
    · walk_at "W"
      refine k_tup rfl fun p H5 hp s5 e5 => ?_
      walk_at "W"
      refine ⟨u', p, _, _, _, _, _, _, rfl, s5 _ _ g', e5, ⟨w1.mono (by decide), w2.mono (by decide), Bw.one.mono (by decide)⟩, ⟨(show Bw 2 3 by unfold Bw; decide).mono (by decide), Bw.zero.mono (by decide), Bw.two.mono (by decide)⟩, fun u6 H6 hu6 s6 e6 => ?_⟩
      exact q _ _ _ _ _ (x'.trans (Same.x (s5.trans s6))) ((hs'.same s5).same s6) ⟨e6, ((w1.mul Bw.two).add (show Bw 3 (3 * 1) by unfold Bw; decide)).mono (by omega), ((w2.mul Bw.two).add (show Bw 3 (0 * 1) by unfold Bw; decide)).mono (by omega), (show (0 : Int) < 1 * 2 by decide), (show ((1 : Int) * 2).natAbs ≤ 10 ^ 25 by decide)⟩
    · walk_at "W"
      have b30 : Bw 30 b := by unfold Bw; omega
      refine ⟨u, u', _, _, _, _, _, _, rfl, g, g', ⟨bt.mono (by omega), br.mono (by omega), b30.mono (by decide)⟩, ⟨w1.mono (by decide), w2.mono (by decide), Bw.one.mono (by decide)⟩, fun u6 H6 hu6 s6 e6 => ?_⟩
      refine q _ _ _ _ _ (x'.trans (Same.x s6)) (hs'.same s6) ⟨e6, ?_, ?_, ?_, ?_⟩
      · show Bw _ (t * 1 + t' * b)
        rw [Int.mul_one]
        exact (bt.add (w1.mul b30)).mono (by omega)
      · show Bw _ (r * 1 + r' * b)
        rw [Int.mul_one]
        exact (br.add (w2.mul b30)).mono (by omega)
      · show 0 < b * 1
        omega
      · show (b * 1).natAbs ≤ _
        rw [Int.mul_one]
        exact bb
theorem sgn_neg (x r : Int) : sgn (-x) (-r) = - sgn x r := by
  unfold sgn
  have e1 : -x * -x = x * x := Int.neg_mul_neg x x
  have e2 : 2 * -r * -r = 2 * r * r := by grind
  rw [e1, e2]
  by_cases c1 : x = 0 ∧ r = 0
  · rw [if_pos c1, if_pos (by omega)]; rfl
  rw [if_neg c1, if_neg (by omega)]
  by_cases c2 : 0 ≤ x ∧ 0 ≤ r
  · rw [if_pos c2, if_neg (by omega), if_pos (by omega)]
  rw [if_neg c2]
  by_cases c3 : x ≤ 0 ∧ r ≤ 0
  · rw [if_pos c3, if_pos (by omega)]; rfl
  rw [if_neg c3, if_neg (by omega), if_neg (by omega)]
  by_cases c4 : x * x > 2 * r * r
  · rw [if_pos c4, if_pos c4]
    by_cases c5 : 0 < x
    · rw [if_pos c5, if_neg (by omega)]
    · rw [if_neg c5, if_pos (by omega)]; rfl
  · rw [if_neg c4, if_neg c4]
    by_cases c5 : 0 < r
    · rw [if_pos c5, if_neg (by omega)]
    · rw [if_neg c5, if_pos (by omega)]; rfl
/-- there is one whole number below only -/
theorem wh_uniq {t r b n : Int} (hb : 0 < b) (h1 : ¬ (sgn (t - n * b) r < 0)) (h2 : sgn (t - (n + 1) * b) r < 0) : wh t r b = n := by
  rw [sgn_fl] at h1 h2
  unfold fl at h1 h2
  unfold wh fl
  rw [Int.fdiv_eq_ediv_of_nonneg _ (by omega), Int.ediv_eq_iff_of_pos hb]
  have e := Int.add_mul n 1 b
  rw [Int.one_mul] at e
  constructor <;> omega
theorem wh_neg {t r b : Int} (hb : 0 < b) : (sgn (t - wh t r b * b) r = 0 → wh (-t) (-r) b = - wh t r b) ∧ (¬ sgn (t - wh t r b * b) r = 0 → wh (-t) (-r) b = - wh t r b - 1) := by
  obtain ⟨h1, h2⟩ := wh_spec (t := t) (r := r) hb
  constructor
  · intro z
    refine wh_uniq hb ?_ ?_
    · rw [show -t - -wh t r b * b = -(t - wh t r b * b) by grind, sgn_neg]; omega
    · obtain ⟨z1, z2⟩ := (sgn_eq0 _ _).mp z
      rw [show -t - (-wh t r b + 1) * b = -b by grind, z2]
      unfold sgn
      rw [if_neg (by omega), if_neg (by omega), if_pos (by omega)]
      decide
  · intro z
    refine wh_uniq hb ?_ ?_
    · rw [show -t - (-wh t r b - 1) * b = -(t - (wh t r b + 1) * b) by grind, sgn_neg]; omega
    · rw [show -t - (-wh t r b - 1 + 1) * b = -(t - wh t r b * b) by grind, sgn_neg]; omega
/-- a number less a whole one, as the law makes it -/
theorem minus_whole {t r b : Int} (hb : 0 < b) (n : Int) : sgn (minus.t t r b n 0 1) (minus.r t r b n 0 1) = sgn (lowT t r b - n * lowB t r b) (lowR t r b) := by
  obtain ⟨s, hs, e1, e2, e3⟩ := low_pos (t := t) (r := r) hb
  generalize lowT t r b = x at *
  generalize lowR t r b = y at *
  generalize lowB t r b = z at *
  subst e1 e2 e3
  have k1 : minus.t (x * s) (y * s) (z * s) n 0 1 = (x - n * z) * s := by unfold minus; dsimp only; grind
  have k2 : minus.r (x * s) (y * s) (z * s) n 0 1 = y * s := by unfold minus; dsimp only; grind
  rw [k1, k2, sgn_scale hs]
/-- .. and that number and a half -/
theorem minus_near {t r b : Int} (hb : 0 < b) (n : Int) : sgn (minus.t (plus.t t r b 1 0 2) (plus.r t r b 1 0 2) (plus.b t r b 1 0 2) n 0 1) (minus.r (plus.t t r b 1 0 2) (plus.r t r b 1 0 2) (plus.b t r b 1 0 2) n 0 1) =
    sgn (2 * lowT t r b + lowB t r b - n * (2 * lowB t r b)) (2 * lowR t r b) := by
  obtain ⟨s, hs, e1, e2, e3⟩ := low_pos (t := t) (r := r) hb
  generalize lowT t r b = x at *
  generalize lowR t r b = y at *
  generalize lowB t r b = z at *
  subst e1 e2 e3
  have k1 : minus.t (plus.t (x * s) (y * s) (z * s) 1 0 2) (plus.r (x * s) (y * s) (z * s) 1 0 2) (plus.b (x * s) (y * s) (z * s) 1 0 2) n 0 1 = (2 * x + z - n * (2 * z)) * s := by unfold minus plus; dsimp only; grind
  have k2 : minus.r (plus.t (x * s) (y * s) (z * s) 1 0 2) (plus.r (x * s) (y * s) (z * s) 1 0 2) (plus.b (x * s) (y * s) (z * s) 1 0 2) n 0 1 = 2 * y * s := by unfold minus plus; dsimp only; grind
  rw [k1, k2, sgn_scale hs]
/-- a whole number below is no greater than the number -/
theorem bw_sqr {n : Nat} {a : Int} (h0 : 0 ≤ a) (h : Bw n a) : Bw n (sqr a) := by
  obtain ⟨s0, s1, _⟩ := sqr_spec h0
  unfold Bw at *
  have : sqr a ≤ a := by
    rcases Int.lt_or_eq_of_le s0 with q | q
    · have : sqr a * 1 ≤ sqr a * sqr a := Int.mul_le_mul_of_nonneg_left (by omega) s0
      omega
    · omega
  omega
theorem bw_wh {n : Nat} {t r b : Int} (ht : Bw n t) (hr : Bw n r) (hb : 0 < b) : Bw (2 * n + 4) (wh t r b) := by
  have hn : 0 ≤ 2 * r * r := by
    have := sq_nn r
    have : 2 * r * r = 2 * (r * r) := Int.mul_assoc ..
    omega
  have h1 := bw_sqr hn ((Bw.two.mul hr).mul hr)
  have h2 : Bw (2 * n + 4) (fl t r) := by
    have a1 := ht.mono (show n ≤ 2 + n + n by omega)
    have pw : (2 : Nat) ^ (2 * n + 4) = 4 * 2 ^ (2 + n + n) := by rw [show 2 * n + 4 = (2 + n + n) + 2 by omega, Nat.pow_add]; omega
    have p1 : 0 < (2 : Nat) ^ (2 + n + n) := Nat.pow_pos (by decide)
    unfold fl cw
    unfold Bw at *
    rw [pw]
    split <;> omega
  unfold wh
  rw [Int.fdiv_eq_ediv_of_nonneg _ (by omega)]
  unfold Bw at *
  have := Int.natAbs_ediv_le_natAbs (fl t r) b
  omega
abbrev s__law_wholes : Stmt := top 24
theorem sc__law_wholes : FnScope ["number", "value", "whole", "near", "moved", "back"] ["number", "value"] (defScope s__law_wholes) := ⟨rfl, rfl, rfl, by decide +kernel, rfl, by decide +kernel, by decide +kernel⟩

def sp__law_wholes (Z : Zs) : Sp := fun vs H Q E =>
  ∃ v u t r b, vs = [v, .ref u] ∧ LowAt Z.c_Root H v t r b ∧ Tb H u 300 t r b ∧ ∀ H', Same H H' → Q (.bl true) H'
theorem ok__law_wholes (T : Txt Z mg) (h__law_is_integer : Has P w Z.K mg base "_law_is_integer" 1 ["thing"] (sp__law_is_integer Z)) (h__law_sign : Has P w Z.K mg base "_law_sign" 1 ["number"] (sp__law_sign Z)) (h__law_minus : Has P w Z.K mg base "_law_minus" 1 ["one", "other"] (sp__law_minus Z)) (h__law_plus : Has P w Z.K mg base "_law_plus" 1 ["one", "other"] (sp__law_plus Z)) (h_Root_neg : HasM P w Z.K mg base Z.c_Root "__neg__" 5 ["self"] (sp_Root_neg Z)) (h_Root_whole : HasM P w Z.K mg base Z.c_Root "whole" 2 ["self"] (sp_Root_whole Z)) (h_Root_nearest : HasM P w Z.K mg base Z.c_Root "nearest" 2 ["self"] (sp_Root_nearest Z)) (D : AtF Z.K mg "_law_wholes" "_law_wholes" s__law_wholes ["number", "value"]) : Has P w Z.K mg base "_law_wholes" 6 ["number", "value"] (sp__law_wholes Z) := by
  refine D.ok sc__law_wholes (fun vs H Q E h => ?_) (fun cdv A outer s H vs Q E hr h => ?_)
  · obtain ⟨v, u, t, r, b, rfl, _⟩ := h
    rfl
  · refine ⟨_, (pss_cons (ps_set (i := 2) sc__law_wholes.nd rfl (Or.inl rfl) (pe_hm0 (E := ED E) h_Root_whole T.c_Root hr (paW (takes_of rfl rfl rfl rfl)) (pv 0)))
      (pss_cons (ps_if (pt_not (pt_val (pe_h (E := ED E) h__law_is_integer hr (paW (takes_of rfl rfl rfl rfl)) (pa_cons (pv 2) pa_nil)))) (pss_one (ps_ret pe_bl)) pss_nil)
      (pss_cons (ps_if (PW.pt (pw_or (pt_cmpR op_lt (pe_h (E := ED E) h__law_sign hr (paW (takes_of rfl rfl rfl rfl)) (pa_cons (pe_h (E := ED E) h__law_minus hr (paW (takes_of rfl rfl rfl rfl)) (pa_cons (pv 1) (pa_cons (pe_tup (pa_cons (pv 2) (pa_cons pe_int (pa_cons pe_int pa_nil)))) pa_nil))) pa_nil)) pe_int (nomark _)) (pw_or1 (pt_cmpR op_ge (pe_h (E := ED E) h__law_sign hr (paW (takes_of rfl rfl rfl rfl)) (pa_cons (pe_h (E := ED E) h__law_minus hr (paW (takes_of rfl rfl rfl rfl)) (pa_cons (pv 1) (pa_cons (pe_tup (pa_cons (pe_op op_add (pv 2) pe_int) (pa_cons pe_int (pa_cons pe_int pa_nil)))) pa_nil))) pa_nil)) pe_int (nomark _))))) (pss_one (ps_ret pe_bl)) pss_nil)
      (pss_cons (ps_set (i := 3) sc__law_wholes.nd rfl (Or.inl rfl) (pe_hm0 (E := ED E) h_Root_nearest T.c_Root hr (paW (takes_of rfl rfl rfl rfl)) (pv 0)))
      (pss_cons (ps_set (i := 4) sc__law_wholes.nd rfl (Or.inl rfl) (pe_h (E := ED E) h__law_plus hr (paW (takes_of rfl rfl rfl rfl)) (pa_cons (pv 1) (pa_cons (pe_tup (pa_cons pe_int (pa_cons pe_int (pa_cons pe_int pa_nil)))) pa_nil))))
      (pss_cons (ps_if (pt_not (pt_val (pe_h (E := ED E) h__law_is_integer hr (paW (takes_of rfl rfl rfl rfl)) (pa_cons (pv 3) pa_nil)))) (pss_one (ps_ret pe_bl)) pss_nil)
      (pss_cons (ps_if (PW.pt (pw_or (pt_cmpR op_lt (pe_h (E := ED E) h__law_sign hr (paW (takes_of rfl rfl rfl rfl)) (pa_cons (pe_h (E := ED E) h__law_minus hr (paW (takes_of rfl rfl rfl rfl)) (pa_cons (pv 4) (pa_cons (pe_tup (pa_cons (pv 3) (pa_cons pe_int (pa_cons pe_int pa_nil)))) pa_nil))) pa_nil)) pe_int (nomark _)) (pw_or1 (pt_cmpR op_ge (pe_h (E := ED E) h__law_sign hr (paW (takes_of rfl rfl rfl rfl)) (pa_cons (pe_h (E := ED E) h__law_minus hr (paW (takes_of rfl rfl rfl rfl)) (pa_cons (pv 4) (pa_cons (pe_tup (pa_cons (pe_op op_add (pv 3) pe_int) (pa_cons pe_int (pa_cons pe_int pa_nil)))) pa_nil))) pa_nil)) pe_int (nomark _))))) (pss_one (ps_ret pe_bl)) pss_nil)
      (pss_cons (ps_set (i := 5) sc__law_wholes.nd rfl (Or.inl rfl) (pe_hm0 (E := ED E) h_Root_whole T.c_Root hr (paW (takes_of rfl rfl rfl rfl)) (pe_un (un_own h_Root_neg hr passL) (pv 0))))
      (pss_cons (ps_if (pt_cmpR op_eq (pe_h (E := ED E) h__law_sign hr (paW (takes_of rfl rfl rfl rfl)) (pa_cons (pe_h (E := ED E) h__law_minus hr (paW (takes_of rfl rfl rfl rfl)) (pa_cons (pv 1) (pa_cons (pe_tup (pa_cons (pv 2) (pa_cons pe_int (pa_cons pe_int pa_nil)))) pa_nil))) pa_nil)) pe_int (nomark _)) (pss_one (ps_ret (pe_and (pe_h (E := ED E) h__law_is_integer hr (paW (takes_of rfl rfl rfl rfl)) (pa_cons (pv 5) pa_nil)) (pe_one (pe_cmpR op_eq (pv 5) (pe_un un_neg (pv 2)) (nomark _)))))) pss_nil)
      (pss_one (ps_ret (pe_and (pe_h (E := ED E) h__law_is_integer hr (paW (takes_of rfl rfl rfl rfl)) (pa_cons (pv 5) pa_nil)) (pe_one (pe_cmpR op_eq (pv 5) (pe_op op_sub (pe_un un_neg (pv 2)) pe_int) (nomark _))))))))))))))), ?_⟩
    try simp only [cxOf]
    obtain ⟨v, u, t, r, b, rfl, hv, ⟨g, bt, br, pb, bb⟩, q⟩ := h
    have w1 : Bw 100 b := bw_of bb (by decide)
    have nb : b ≠ 0 := by omega
    have sm : Sm (lowT t r b) (lowR t r b) (lowB t r b) := Sm.low nb (bt.mono (by decide)) (br.mono (by decide)) (w1.mono (by decide))
    have lp := sm.lw.pos
    obtain ⟨ks, ls, le1, le2, le3⟩ := (low_is (t := t) (r := r) nb).s
    have hv' := hv
    obtain ⟨a, dx, rfl, ha⟩ := hv'
    walk_at "W"
    refine k_meth ha rfl ?_
    walk_at "W"
    refine ⟨_, _, _, _, rfl, hv, sm, ?_⟩
    walk_at "W"
    refine ⟨_, rfl, .int _, ?_⟩
    have lt : Bw 300 (lowT t r b) := bw_div bt le1 ls
    have lr : Bw 300 (lowR t r b) := bw_div br le2 ls
    have lb : Bw 100 (lowB t r b) := bw_div w1 le3 ls
    have ww : Bw 604 (wh (lowT t r b) (lowR t r b) (lowB t r b)) := bw_wh lt lr lp
    have ww1 : Bw 605 (wh (lowT t r b) (lowR t r b) (lowB t r b) + 1) := (ww.add Bw.one).mono (by decide)
    have nt : Bw 303 (2 * lowT t r b + lowB t r b) := ((Bw.two.mul lt).add lb).mono (by decide)
    have nr : Bw 303 (2 * lowR t r b) := (Bw.two.mul lr).mono (by decide)
    have nw : Bw 610 (wh (2 * lowT t r b + lowB t r b) (2 * lowR t r b) (2 * lowB t r b)) := bw_wh nt nr (by omega)
    have nw1 : Bw 611 (wh (2 * lowT t r b + lowB t r b) (2 * lowR t r b) (2 * lowB t r b) + 1) := (nw.add Bw.one).mono (by decide)
    have mt : Bw 304 (plus.t t r b 1 0 2) := ((Bw.mul bt Bw.two).add (Bw.mul Bw.one w1)).mono (by decide)
    have mr : Bw 304 (plus.r t r b 1 0 2) := ((Bw.mul br Bw.two).add (Bw.mul Bw.zero w1)).mono (by decide)
    have mb : Bw 104 (plus.b t r b 1 0 2) := (Bw.mul w1 Bw.two).mono (by decide)
    obtain ⟨f1, f2⟩ := wh_spec (t := lowT t r b) (r := lowR t r b) lp
    obtain ⟨f3, f4⟩ := wh_spec (t := 2 * lowT t r b + lowB t r b) (r := 2 * lowR t r b) (b := 2 * lowB t r b) (by omega)
    have S := Same.refl H
    walk_at "W"
    refine k_tup rfl fun p1 Hp1 hp1 sp1 ep1 => ?_
    have S := S.trans sp1
    walk_at "W"
    refine ⟨u, p1, _, _, _, _, _, _, rfl, S _ _ g, ep1, ⟨bt.mono (by decide), br.mono (by decide), w1.mono (by decide)⟩, ⟨ww.mono (by decide), Bw.zero.mono (by decide), Bw.one.mono (by decide)⟩, fun um1 Hm1 hm1 sm1 em1 => ?_⟩
    have S := S.trans sm1
    walk_at "W"
    refine ⟨um1, _, _, _, rfl, em1, ((Bw.mul bt Bw.one).sub (Bw.mul ww w1)).mono (by decide), ((Bw.mul br Bw.one).sub (Bw.mul Bw.zero w1)).mono (by decide), ?_⟩
    rw [minus_whole pb]
    walk_at "W"
    rw [decide_eq_false f1]
    walk_at "W"
    refine k_tup rfl fun p2 Hp2 hp2 sp2 ep2 => ?_
    have S := S.trans sp2
    walk_at "W"
    refine ⟨u, p2, _, _, _, _, _, _, rfl, S _ _ g, ep2, ⟨bt.mono (by decide), br.mono (by decide), w1.mono (by decide)⟩, ⟨ww1.mono (by decide), Bw.zero.mono (by decide), Bw.one.mono (by decide)⟩, fun um2 Hm2 hm2 sm2 em2 => ?_⟩
    have S := S.trans sm2
    walk_at "W"
    refine ⟨um2, _, _, _, rfl, em2, ((Bw.mul bt Bw.one).sub (Bw.mul ww1 w1)).mono (by decide), ((Bw.mul br Bw.one).sub (Bw.mul Bw.zero w1)).mono (by decide), ?_⟩
    rw [minus_whole pb]
    walk_at "W"
    rw [decide_eq_false (show ¬ (0 ≤ sgn (lowT t r b - (wh (lowT t r b) (lowR t r b) (lowB t r b) + 1) * lowB t r b) (lowR t r b)) by omega)]
    walk_at "W"
    refine k_meth (S _ _ ha) rfl ?_
    walk_at "W"
    refine ⟨_, _, _, _, rfl, hv.same S, sm, ?_⟩
    walk_at "W"
    refine k_tup rfl fun q1 Hq1 hq1 sq1 eq1 => ?_
    have S := S.trans sq1
    walk_at "W"
    refine ⟨u, q1, _, _, _, _, _, _, rfl, S _ _ g, eq1, ⟨bt.mono (by decide), br.mono (by decide), w1.mono (by decide)⟩, ⟨Bw.one.mono (by decide), Bw.zero.mono (by decide), Bw.two.mono (by decide)⟩, fun u3 Hu3 hu3 su3 gm => ?_⟩
    have S := S.trans su3
    have S3 := Same.refl Hu3
    walk_at "W"
    refine ⟨_, rfl, .int _, ?_⟩
    walk_at "W"
    refine k_tup rfl fun p3 Hp3 hp3 sp3 ep3 => ?_
    have S := S.trans sp3
    have S3 := S3.trans sp3
    walk_at "W"
    refine ⟨u3, p3, _, _, _, _, _, _, rfl, S3 _ _ gm, ep3, ⟨mt.mono (by decide), mr.mono (by decide), mb.mono (by decide)⟩, ⟨nw.mono (by decide), Bw.zero.mono (by decide), Bw.one.mono (by decide)⟩, fun um3 Hm3 hm3 sm3 em3 => ?_⟩
    have S := S.trans sm3
    have S3 := S3.trans sm3
    walk_at "W"
    refine ⟨um3, _, _, _, rfl, em3, ((Bw.mul mt Bw.one).sub (Bw.mul nw mb)).mono (by decide), ((Bw.mul mr Bw.one).sub (Bw.mul Bw.zero mb)).mono (by decide), ?_⟩
    rw [minus_near pb]
    walk_at "W"
    rw [decide_eq_false f3]
    walk_at "W"
    refine k_tup rfl fun p4 Hp4 hp4 sp4 ep4 => ?_
    have S := S.trans sp4
    have S3 := S3.trans sp4
    walk_at "W"
    refine ⟨u3, p4, _, _, _, _, _, _, rfl, S3 _ _ gm, ep4, ⟨mt.mono (by decide), mr.mono (by decide), mb.mono (by decide)⟩, ⟨nw1.mono (by decide), Bw.zero.mono (by decide), Bw.one.mono (by decide)⟩, fun um4 Hm4 hm4 sm4 em4 => ?_⟩
    have S := S.trans sm4
    have S3 := S3.trans sm4
    walk_at "W"
    refine ⟨um4, _, _, _, rfl, em4, ((Bw.mul mt Bw.one).sub (Bw.mul nw1 mb)).mono (by decide), ((Bw.mul mr Bw.one).sub (Bw.mul Bw.zero mb)).mono (by decide), ?_⟩
    rw [minus_near pb]
    walk_at "W"
    rw [decide_eq_false (show ¬ (0 ≤ sgn (2 * lowT t r b + lowB t r b - (wh (2 * lowT t r b + lowB t r b) (2 * lowR t r b) (2 * lowB t r b) + 1) * (2 * lowB t r b)) (2 * lowR t r b)) by omega)]
    walk_at "W"
    have hvS := hv.same S
    refine ⟨a, dx, _, rfl, S _ _ ha, _, _, _, _, rfl, hvS, sm.hn, sm.hb.bd (by decide), fun v' Hv sv hv' => ?_⟩
    have S := S.trans sv
    obtain ⟨z1, z2, z3⟩ := (sm.lw.neg).eqs sm.hn
    rw [← z1, ← z2, ← z3] at hv'
    have hv2 := hv'
    obtain ⟨a', dx', rfl, ha'⟩ := hv2
    walk_at "W"
    refine k_meth ha' rfl ?_
    walk_at "W"
    refine ⟨_, _, _, _, rfl, hv', ⟨sm.ht.neg, sm.hr.neg, sm.hb, sm.lw.neg⟩, ?_⟩
    walk_at "W"
    refine k_tup rfl fun p5 Hp5 hp5 sp5 ep5 => ?_
    have S := S.trans sp5
    walk_at "W"
    refine ⟨u, p5, _, _, _, _, _, _, rfl, S _ _ g, ep5, ⟨bt.mono (by decide), br.mono (by decide), w1.mono (by decide)⟩, ⟨ww.mono (by decide), Bw.zero.mono (by decide), Bw.one.mono (by decide)⟩, fun um5 Hm5 hm5 sm5 em5 => ?_⟩
    have S := S.trans sm5
    walk_at "W"
    refine ⟨um5, _, _, _, rfl, em5, ((Bw.mul bt Bw.one).sub (Bw.mul ww w1)).mono (by decide), ((Bw.mul br Bw.one).sub (Bw.mul Bw.zero w1)).mono (by decide), ?_⟩
    rw [minus_whole pb]
    walk_at "W"
    obtain ⟨y1, y2⟩ := wh_neg (t := lowT t r b) (r := lowR t r b) lp
    refine w_ite (fun c => ?_) (fun c => ?_)
    · have c : sgn (lowT t r b - wh (lowT t r b) (lowR t r b) (lowB t r b) * lowB t r b) (lowR t r b) = 0 := by injection c
      walk_at "W"
      refine ⟨_, rfl, .int _, ?_⟩
      walk_at "W"
      rw [y1 c]
      have fin : ∀ {k : Bool}, k = true → Q (.bl k) _ := fun e => e ▸ q _ S
      exact fin (by simp)
    · have c : ¬ sgn (lowT t r b - wh (lowT t r b) (lowR t r b) (lowB t r b) * lowB t r b) (lowR t r b) = 0 := fun z => c (by rw [z])
      walk_at "W"
      refine ⟨_, rfl, .int _, ?_⟩
      walk_at "W"
      rw [y2 c]
      have fin : ∀ {k : Bool}, k = true → Q (.bl k) _ := fun e => e ▸ q _ S
      exact fin (by simp)
/-- all but lists is as it was -/
def Nl (H H' : Hp) : Prop := ∀ b o, (∀ xs, o ≠ .lst xs) → H b = some o → H' b = some o
theorem Nl.refl (H : Hp) : Nl H H := fun _ _ _ h => h
theorem Nl.trans {A B C : Hp} (h : Nl A B) (k : Nl B C) : Nl A C := fun b o n e => k b o n (h b o n e)
theorem Nl.same {A B : Hp} (h : Same A B) : Nl A B := fun b o _ e => h b o e
theorem Nl.sx {A B : Hp} {st sc : Addr} (hs : StA A st sc) (h : SameX st A B) : Nl A B := fun b o n e => h b o (hs.ne e n) e
theorem Nl.upd {A : Hp} {D : Addr} {xs ys : List V} (h : A D = some (.lst xs)) : Nl A (upd A D (.lst ys)) := fun b o n e => by
  rw [upd_ne (by rintro rfl; rw [h] at e; cases e; exact n _ rfl)]
  exact e
theorem Tb.nl {H H' : Hp} {u : Addr} {m : Nat} {t r b : Int} (h : Tb H u m t r b) (s : Nl H H') : Tb H' u m t r b := ⟨s _ _ (by intro xs z; cases z) h.1, h.2⟩
theorem Tb.mono {H : Hp} {u : Addr} {m n : Nat} {t r b : Int} (h : Tb H u m t r b) (hm : m ≤ n) : Tb H u n t r b := ⟨h.1, h.2.1.mono hm, h.2.2.1.mono hm, h.2.2.2⟩
theorem RootAt.nl {c : Addr} {H H' : Hp} {v : V} {t r b : Int} (h : RootAt c H v t r b) (s : Nl H H') : RootAt c H' v t r b := by
  obtain ⟨a, dx, rfl, e⟩ := h
  exact ⟨a, dx, rfl, s _ _ (by intro xs z; cases z) e⟩
/-- the law's row of numbers -/
def Row (H : Hp) (vs : List V) : Prop := ∀ (i : Nat) (v : V), vs[i]? = some v → ∃ p t r b, v = .ref p ∧ Tb H p 300 t r b
/-- .. and the Roots beside it -/
def Nm (c : Addr) (H : Hp) (ks vs : List V) : Prop := ∀ (i : Nat) (k : V), ks[i]? = some k → ∃ p t r b, vs[i]? = some (.ref p) ∧ Tb H p 300 t r b ∧ LowAt c H k t r b
theorem Row.nl {H H' : Hp} {vs : List V} (h : Row H vs) (s : Nl H H') : Row H' vs := fun i v e => by
  obtain ⟨p, t, r, b, e1, e2⟩ := h i v e
  exact ⟨p, t, r, b, e1, e2.nl s⟩
theorem Nm.nl {c : Addr} {H H' : Hp} {ks vs : List V} (h : Nm c H ks vs) (s : Nl H H') : Nm c H' ks vs := fun i v e => by
  obtain ⟨p, t, r, b, e1, e2, e3⟩ := h i v e
  exact ⟨p, t, r, b, e1, e2.nl s, RootAt.nl e3 s⟩
theorem Row.push {H : Hp} {vs : List V} {u : Addr} {t r b : Int} (h : Row H vs) (hu : Tb H u 300 t r b) : Row H (vs ++ [.ref u]) := fun i v e => by
  rw [List.getElem?_append] at e
  split at e
  · exact h i v e
  · have : i - vs.length = 0 := by
      rcases Nat.eq_zero_or_pos (i - vs.length) with q | q
      · exact q
      · rw [List.getElem?_eq_none (by simp; omega)] at e; cases e
    rw [this] at e
    cases e
    exact ⟨u, t, r, b, rfl, hu⟩
theorem Nm.push {c : Addr} {H : Hp} {ks vs : List V} {k : V} {p : Addr} {t r b : Int} (h : Nm c H ks vs) (e0 : vs[ks.length]? = some (.ref p)) (hu : Tb H p 300 t r b) (hk : LowAt c H k t r b) : Nm c H (ks ++ [k]) vs := fun i v e => by
  rw [List.getElem?_append] at e
  split at e
  · exact h i v e
  · rename_i hi
    have : i - ks.length = 0 := by
      rcases Nat.eq_zero_or_pos (i - ks.length) with q | q
      · exact q
      · rw [List.getElem?_eq_none (by simp; omega)] at e; cases e
    have hi : i = ks.length := by omega
    rw [this] at e
    cases e
    rw [hi]
    exact ⟨p, t, r, b, e0, hu, hk⟩
theorem k_tup2 {K : PySem.W.Frag} {T : Addr} {x y : V} {σ σ' : L2.St} {H : Hp} {i j : Nat} {N : L2.St → Hp → Prop} {n : Nat} (hT : H T = some (.tup [x, y])) (hn : n = 2) (hσ : (σ.set i (some x)).set j (some y) = σ') (q : N σ' H) : gTup K n (gCons (gName i) (gCons (gName j) gNil)) (.ref T) σ H N := by
  subst hσ
  exact ⟨T, [x, y], rfl, SqT.of hT, by rw [hn]; rfl, x, [y], rfl, y, [], rfl, rfl, q⟩
theorem sgn_low {t r b : Int} (hb : 0 < b) : sgn (lowT t r b) (lowR t r b) = sgn t r := by
  obtain ⟨s, hs, e1, e2, e3⟩ := low_pos (t := t) (r := r) hb
  generalize lowT t r b = x at *
  generalize lowR t r b = y at *
  generalize lowB t r b = z at *
  subst e1 e2 e3
  rw [sgn_scale hs]
theorem minus_back {t r b t' r' b' : Int} : sgn (minus.t t' r' b' t r b) (minus.r t' r' b' t r b) = - sgn (minus.t t r b t' r' b') (minus.r t r b t' r' b') := by
  rw [← sgn_neg]
  congr 1
  · unfold minus; dsimp only; grind
  · unfold minus; dsimp only; grind
theorem minus_eq {t r b t' r' b' : Int} (hb : 0 < b) (hb' : 0 < b') : (lowT t' r' b' = lowT t r b ∧ lowR t' r' b' = lowR t r b ∧ lowB t' r' b' = lowB t r b) ↔ sgn (minus.t t r b t' r' b') (minus.r t r b t' r' b') = 0 := by
  rw [sgn_eq0]
  have n : b ≠ 0 := by omega
  have n' : b' ≠ 0 := by omega
  constructor
  · rintro ⟨h1, h2, h3⟩
    obtain ⟨s, hs, e1, e2, e3⟩ := low_pos (t := t) (r := r) hb
    obtain ⟨s', hs', e1', e2', e3'⟩ := low_pos (t := t') (r := r') hb'
    rw [h1] at e1'; rw [h2] at e2'; rw [h3] at e3'
    generalize lowT t r b = x at *
    generalize lowR t r b = y at *
    generalize lowB t r b = z at *
    unfold minus
    dsimp only
    constructor
    · rw [e1, e1', e3, e3']; grind
    · rw [e2, e2', e3, e3']; grind
  · rintro ⟨h1, h2⟩
    have h1 : t * b' - t' * b = 0 := h1
    have h2 : r * b' - r' * b = 0 := h2
    obtain ⟨a1, a2, a3⟩ := low_congr (t := t * b') (r := r * b') (b := b * b') (t' := t) (r' := r) (b' := b) (s := b') n n' rfl rfl rfl
    obtain ⟨c1, c2, c3⟩ := low_congr (t := t' * b) (r := r' * b) (b := b' * b) (t' := t') (r' := r') (b' := b') (s := b) n' n rfl rfl rfl
    have g1 : t' * b = t * b' := by omega
    have g2 : r' * b = r * b' := by omega
    have g3 : b' * b = b * b' := Int.mul_comm ..
    rw [g1, g2, g3] at c1 c2 c3
    exact ⟨c1.symm.trans a1, c2.symm.trans a2, c3.symm.trans a3⟩
abbrev s_law : Stmt := top 25
theorem sc_law : FnScope ["script", "state", "values", "ahead", "k", "value", "numbers", "number", "sign", "other", "worth", "due", "whole"] ["script"] (defScope s_law) := ⟨rfl, rfl, rfl, by decide +kernel, rfl, by decide +kernel, by decide +kernel⟩

def sp_law (Z : Zs) : Sp := fun vs H Q E =>
  ∃ (a : Addr) (ns : List Int), vs = [.ref a] ∧ SqL Z.K H a (ns.map V.int) ∧ ∀ H', Q (.bl true) H'
theorem ok_law (T : Txt Z mg) (h__law_flag : Has P w Z.K mg base "_law_flag" 1 ["thing", "due"] (sp__law_flag Z)) (h__law_sign : Has P w Z.K mg base "_law_sign" 1 ["number"] (sp__law_sign Z)) (h__law_minus : Has P w Z.K mg base "_law_minus" 1 ["one", "other"] (sp__law_minus Z)) (h__law_between : Has P w Z.K mg base "_law_between" 3 ["state", "least", "most"] (sp__law_between Z)) (h__law_wholes : Has P w Z.K mg base "_law_wholes" 6 ["number", "value"] (sp__law_wholes Z)) (h__law_is_integer : Has P w Z.K mg base "_law_is_integer" 1 ["thing"] (sp__law_is_integer Z)) (h_Root : HasC P w Z.K mg base "Root" Z.c_Root 3 ["self", "top", "root", "bottom"] (sp_Root_init Z)) (h__law_draw : Has P w Z.K mg base "_law_draw" 2 ["state", "many"] (sp__law_draw Z)) (h__law_number : Has P w Z.K mg base "_law_number" 4 ["state", "ahead"] (sp__law_number Z)) (h__law_start : Has P w Z.K mg base "_law_start" 1 ["script"] (sp__law_start Z)) (h_Root_eq : HasM P w Z.K mg base Z.c_Root "__eq__" 2 ["self", "other"] (sp_Root_eq Z)) (h_Root_less : HasM P w Z.K mg base Z.c_Root "less" 6 ["self", "number"] (sp_Root_less Z)) (h_Root_sign : HasM P w Z.K mg base Z.c_Root "sign" 2 ["self"] (sp_Root_sign Z)) {f : Addr} {fd : FuncData} (D : Fun Z.K "law" "law" s_law f fd) : FnOk P w Z.K mg base (L2.CX P w) 7 f fd ["script"] (sp_law Z) := by
  refine D.okX sc_law (fun vs H Q E h => ?_) (fun cdv A outer s H vs Q E hr h => ?_)
  · obtain ⟨a, ns, rfl, _⟩ := h
    rfl
  · refine ⟨_, (pss_cons (ps_set (i := 1) sc_law.nd rfl (Or.inl rfl) (pe_h (E := ED E) h__law_start hr (paW (takes_of rfl rfl rfl rfl)) (pa_cons (pv 0) pa_nil)))
      (pss_cons (ps_set (i := 2) sc_law.nd rfl (Or.inl rfl) (pe_lst pa_nil))
      (pss_cons (ps_set (i := 3) sc_law.nd rfl (Or.inl rfl) (pe_tup (pa_cons pe_int (pa_cons pe_int (pa_cons pe_int pa_nil)))))
      (pss_cons (ps_for (passes_of rfl) rfl (pi_range1 rfl T.n_range (pa_cons (pe_op op_add pe_int (pe_h (E := ED E) h__law_draw hr (paW (takes_of rfl rfl rfl rfl)) (pa_cons (pv 1) (pa_cons pe_int pa_nil)))) pa_nil)) (pg_name (i := 4) sc_law.nd rfl (Or.inl rfl)) (pss_cons (ps_set (i := 3) sc_law.nd rfl (Or.inl rfl) (pe_h (E := ED E) h__law_number hr (paW (takes_of rfl rfl rfl rfl)) (pa_cons (pv 1) (pa_cons (pv 3) pa_nil))))
      (pss_one (ps_expr (pe_bm PySem.F.plainAttrs_list PySem.F.slot_list_append PySem.F.type_list_append mt_append (pv 2) (pa_cons (pv 3) pa_nil))))))
      (pss_cons (ps_setLc (i := 6) (own := [("value", 5)]) (g := gName 5) rfl sc_law.nd rfl rfl (sw_true rfl rfl rfl (by decide +kernel)) (pi_list (pv 2)) (blkOk_by (N := ["script", "state", "values", "ahead", "k", "value", "numbers", "number", "sign", "other", "worth", "due", "whole"]) (sc := defScope s_law) (by decide +kernel)) (fun _ _ _ _ _ => pg_name (i := 5) sc_law.nd rfl (Or.inl rfl)) (fun _ _ _ _ _ => pts_nil) (fun _ _ _ _ _ => (pe_hc (E := fun _ => E0) h_Root hr pa0 (pa_cons (pe_ix (ix_seqZ (K := Z.K) rfl) (pv 5) pe_int (fun _ _ => rfl)) (pa_cons (pe_ix (ix_seqZ (K := Z.K) rfl) (pv 5) pe_int (fun _ _ => rfl)) (pa_cons (pe_ix (ix_seqZ (K := Z.K) rfl) (pv 5) pe_int (fun _ _ => rfl)) pa_nil))))))
      (pss_cons (ps_for (passes_of rfl) rfl (pi_zip rfl T.n_zip (pa_cons (pv 6) (pa_cons (pv 2) pa_nil))) (pg_tup rfl (pgs_cons (pg_name (i := 7) sc_law.nd rfl (Or.inl rfl)) (pgs_cons (pg_name (i := 5) sc_law.nd rfl (Or.inl rfl)) pgs_nil))) (pss_cons (ps_set (i := 8) sc_law.nd rfl (Or.inl rfl) (pe_hm0 (E := ED E) h_Root_sign T.c_Root hr (paW (takes_of rfl rfl rfl rfl)) (pv 7)))
      (pss_cons (ps_if (PW.pt (pw_or (pt_not (pt_val (pe_h (E := ED E) h__law_is_integer hr (paW (takes_of rfl rfl rfl rfl)) (pa_cons (pv 8) pa_nil)))) (pw_or (pt_cmpR op_ne (pv 8) (pe_h (E := ED E) h__law_sign hr (paW (takes_of rfl rfl rfl rfl)) (pa_cons (pv 5) pa_nil)) (nomark _)) (pw_or1 (pt_not (pt_val (pe_h (E := ED E) h__law_wholes hr (paW (takes_of rfl rfl rfl rfl)) (pa_cons (pv 7) (pa_cons (pv 5) pa_nil))))))))) (pss_one (ps_ret pe_bl)) pss_nil)
      (pss_cons (ps_for (passes_of rfl) rfl (pi_zip rfl T.n_zip (pa_cons (pv 6) (pa_cons (pv 2) pa_nil))) (pg_tup rfl (pgs_cons (pg_name (i := 9) sc_law.nd rfl (Or.inl rfl)) (pgs_cons (pg_name (i := 10) sc_law.nd rfl (Or.inl rfl)) pgs_nil))) (pss_cons (ps_set (i := 11) sc_law.nd rfl (Or.inl rfl) (pe_h (E := ED E) h__law_sign hr (paW (takes_of rfl rfl rfl rfl)) (pa_cons (pe_h (E := ED E) h__law_minus hr (paW (takes_of rfl rfl rfl rfl)) (pa_cons (pv 5) (pa_cons (pv 10) pa_nil))) pa_nil)))
      (pss_cons (ps_if (PW.pt (pw_or (pt_not (pt_val (pe_h (E := ED E) h__law_flag hr (paW (takes_of rfl rfl rfl rfl)) (pa_cons (pe_hm (E := ED E) h_Root_less T.c_Root hr (paW (takes_of rfl rfl rfl rfl)) (pv 7) (pa_cons (pv 9) pa_nil)) (pa_cons (pe_cmpR op_lt (pv 11) pe_int (nomark _)) pa_nil))))) (pw_or1 (pt_not (pt_val (pe_h (E := ED E) h__law_flag hr (paW (takes_of rfl rfl rfl rfl)) (pa_cons (pe_hm (E := ED E) h_Root_less T.c_Root hr (paW (takes_of rfl rfl rfl rfl)) (pv 9) (pa_cons (pv 7) pa_nil)) (pa_cons (pe_cmpR op_gt (pv 11) pe_int (nomark _)) pa_nil)))))))) (pss_one (ps_ret pe_bl)) pss_nil)
      (pss_one (ps_if (pt_cmpR op_ne (pe_cmpR (op_eqC h_Root_eq hr passL) (pv 7) (pv 9) (nomark _)) (pe_cmpR op_eq (pv 11) pe_int (nomark _)) (nomark _)) (pss_one (ps_ret pe_bl)) pss_nil)))))
      (pss_cons (ps_set (i := 12) sc_law.nd rfl (Or.inl rfl) (pe_h (E := ED E) h__law_between hr (paW (takes_of rfl rfl rfl rfl)) (pa_cons (pv 1) (pa_cons (pe_un un_neg pe_int) (pa_cons pe_int pa_nil)))))
      (pss_one (ps_if (pt_not (pt_val (pe_h (E := ED E) h__law_flag hr (paW (takes_of rfl rfl rfl rfl)) (pa_cons (pe_hm (E := ED E) h_Root_less T.c_Root hr (paW (takes_of rfl rfl rfl rfl)) (pv 7) (pa_cons (pv 12) pa_nil)) (pa_cons (pe_cmpR op_lt (pe_h (E := ED E) h__law_sign hr (paW (takes_of rfl rfl rfl rfl)) (pa_cons (pe_h (E := ED E) h__law_minus hr (paW (takes_of rfl rfl rfl rfl)) (pa_cons (pv 5) (pa_cons (pe_tup (pa_cons (pv 12) (pa_cons pe_int (pa_cons pe_int pa_nil)))) pa_nil))) pa_nil)) pe_int (nomark _)) pa_nil))))) (pss_one (ps_ret pe_bl)) pss_nil)))))))
      (pss_one (ps_ret pe_bl)))))))), ?_⟩
    try simp only [cxOf]
    obtain ⟨a, ns, rfl, hs, q⟩ := h
    walk_at "W"
    refine ⟨a, ns, rfl, hs, fun st sc H1 hst s1 hst1 => ?_⟩
    walk_at "W"
    refine k_lst rfl fun vl H2 hvl s2 e2 => ?_
    walk_at "W"
    refine k_tup rfl fun u0 H3 hu0 s3 e3 => ?_
    walk_at "W"
    have hst3 := (hst1.same s2).same s3
    obtain ⟨nv1, nv2⟩ := hst1.new hvl
    refine k_draw hst3 (by decide) (by decide) fun n H4 n0 n1 x4 hst4 => ?_
    walk_at "W"
    refine k_forR (fun i σ' H' => ∃ u t r b x us, σ' = [some (.ref a), some (.ref st), some (.ref vl), some (.ref u), x, none, none, none, none, none, none, none, none] ∧ StA H' st sc ∧ H' vl = some (.lst us) ∧ us.length = i ∧ Row H' us ∧ Tb H' u (160 + i) t r b) (by omega) (by omega) ?_ ?_ ?_
    · have t0 : Tb H4 u0 (160 + 0) 0 0 1 := ⟨T3.sx e3 hst3 x4, Bw.zero.mono (by decide), Bw.zero.mono (by decide), by decide, by decide⟩
      exact ⟨u0, 0, 0, 1, none, [], rfl, hst4, x4 _ _ nv1 (s3 _ _ e2), rfl, (fun i v e => by simp at e), t0⟩
    · rintro i σ' H5 hi ⟨u, t, r, b, x, us, rfl, hs5, e5, ul, row, tb⟩
      have hi8 : i < 8 := by omega
      walk_at "W"
      refine ⟨st, sc, u, t, r, b, 160 + i, rfl, hs5, by omega, by omega, tb, fun u' t' r' b' H6 x6 hs6 tb6 => ?_⟩
      have e6 := x6 _ _ nv1 e5
      have row6 := row.nl (Nl.sx hs5 x6)
      walk_at "W"
      refine ⟨_, rfl, .inl ⟨rfl, us, SqL.of e6⟩, ?_⟩
      walk_at "W"
      have NU : Nl H6 (upd H6 vl (.lst (us ++ [.ref u']))) := Nl.upd e6
      refine ⟨vl, us, .ref u', rfl, rfl, e6, Nat.lt_of_lt_of_le (show us.length < 8 by omega) (by decide), u', t', r', b', _, us ++ [.ref u'], rfl, hs6.other ⟨nv1, nv2⟩, upd_same, by simp [ul], ?_, tb6.nl NU⟩
      exact (row6.nl NU).push ((tb6.nl NU).mono (by omega))
    · rintro σ' H5 ⟨u, t, r, b, x, us, rfl, hs5, e5, ul, row, tb⟩
      walk_at "W"
      refine k_lcL (xs := us) (fun i D H' => ∃ ks, H' D = some (.lst ks) ∧ ks.length = i ∧ StA H' st sc ∧ H' vl = some (.lst us) ∧ Row H' us ∧ Nm Z.c_Root H' ks us ∧ D ≠ st ∧ D ≠ sc ∧ D ≠ vl) (SqL.of e5) ?_ ?_ ?_ ?_
      · intro D hD
        have nD := hs5.new hD
        have nV := ne_of_none e5 hD
        exact ⟨[], upd_same, rfl, hs5.other nD, by rw [upd_ne nV]; exact e5, row.nl (Nl.same (Same.new hD)), (fun i v e => by simp at e), nD.1, nD.2, nV.symm⟩
      · rintro i D H6 ⟨ks, k1, k2, k3, k4, _⟩
        exact SqL.of k4
      · rintro i x D H6 hx ⟨ks, k1, k2, k3, k4, k5, k6, k7, k8, k9⟩
        obtain ⟨p, t', r', b', rfl, tb'⟩ := k5 i x hx
        have g' : H6 p = some (.tup [.int t', .int r', .int b']) := tb'.1
        have il : i < 8 := by
          have := (List.getElem?_eq_some_iff.mp hx).1
          omega
        walk_at "W"
        refine ⟨rfl, ?_⟩
        walk_at "W"
        refine k_mkRootI (by have := tb'.2.2.2.1; omega) ((bw_of tb'.2.2.2.2 (by decide) : Bw 100 b').bd (by decide)) fun v H7 s7 hv7 => ?_
        have NU : Nl H6 (upd H7 D (.lst (ks ++ [v]))) := (Nl.same s7).trans (Nl.upd (s7 _ _ k1))
        refine ⟨ks, s7 _ _ k1, Nat.lt_of_lt_of_le (show ks.length < 8 by omega) (by decide), ks ++ [v], upd_same, by simp [k2], (k3.same s7).other ⟨k7, k8⟩, by rw [upd_ne k9.symm]; exact s7 _ _ k4, k5.nl NU, ?_, k7, k8, k9⟩
        exact (k6.nl NU).push (by rw [k2]; exact hx) (tb'.nl NU) (RootAt.nl hv7 (Nl.upd (s7 _ _ k1)))
      · rintro D H6 ⟨ks, k1, k2, k3, k4, k5, k6, k7, k8, k9⟩
        walk_at "W"
        refine k_forZ (fun i σ' H' => ∃ x1 x2 x3 x4 x5 x6 x7, σ' = [some (.ref a), some (.ref st), some (.ref vl), some (.ref u), x, x1, some (.ref D), x2, x3, x4, x5, x6, x7] ∧ StA H' st sc ∧ H' vl = some (.lst us) ∧ H' D = some (.lst ks) ∧ Nl H6 H') (SqL.of k1) (SqL.of k4) k2 ?_ ?_ ?_ ?_
        · exact ⟨none, none, none, none, none, none, none, rfl, k3, k4, k1, Nl.refl _⟩
        · rintro i σ' H' ⟨_, _, _, _, _, _, _, _, _, z1, z2, _⟩
          exact ⟨SqL.of z2, SqL.of z1⟩
        · rintro i k0 v0 σ' H7 Tq H8 hk hv ⟨x1, x2, x3, x4, x5, x6, x7, rfl, p1, p2, p3, p4⟩ hT s8 eT
          refine k_tup2 (σ' := [some (.ref a), some (.ref st), some (.ref vl), some (.ref u), x, some v0, some (.ref D), some k0, x3, x4, x5, x6, x7]) eT rfl rfl ?_
          have N8 : Nl H6 H8 := p4.trans (Nl.same s8)
          obtain ⟨p, t, r, b, ev, tb, la⟩ := (k6.nl N8) i k0 hk
          obtain rfl : v0 = .ref p := Option.some.inj (hv.symm.trans ev)
          have p1 := p1.same s8
          have p2 := s8 _ _ p2
          have p3 := s8 _ _ p3
          have la0 := la
          obtain ⟨a0, dx0, rfl, ha0⟩ := la0
          obtain ⟨tb3, bt, br, pb, bb⟩ := tb
          have w1 : Bw 100 b := bw_of bb (by decide)
          have nb : b ≠ 0 := by omega
          have sm : Sm (lowT t r b) (lowR t r b) (lowB t r b) := Sm.low nb (bt.mono (by decide)) (br.mono (by decide)) (w1.mono (by decide))
          have B0 : B3 t r b := ⟨bt.mono (by decide), br.mono (by decide), w1.mono (by decide)⟩
          walk_at "W"
          refine k_meth ha0 rfl ?_
          walk_at "W"
          refine ⟨_, _, _, _, rfl, la, sm, ?_⟩
          rw [sgn_low pb]
          walk_at "W"
          refine ⟨_, rfl, .int _, ?_⟩
          walk_at "W"
          refine ⟨p, _, _, _, rfl, tb3, bt.mono (by decide), br.mono (by decide), ?_⟩
          walk_at "W"
          refine ⟨_, p, t, r, b, rfl, la, ⟨tb3, bt, br, pb, bb⟩, fun H9 s9 => ?_⟩
          walk_at "W"
          have p1 := p1.same s9
          have p2 := s9 _ _ p2
          have p3 := s9 _ _ p3
          have N9 : Nl H6 H9 := N8.trans (Nl.same s9)
          have la9 := RootAt.nl la (Nl.same s9)
          have tb9 := s9 _ _ tb3
          refine k_forZ (fun j σ' H' => ∃ y4 y5 y6, σ' = [some (.ref a), some (.ref st), some (.ref vl), some (.ref u), x, some (.ref p), some (.ref D), some (.ref a0), some (.int (sgn t r)), y4, y5, y6, x7] ∧ StA H' st sc ∧ H' vl = some (.lst us) ∧ H' D = some (.lst ks) ∧ Nl H9 H') (SqL.of p3) (SqL.of p2) k2 ?_ ?_ ?_ ?_
          · exact ⟨x4, x5, x6, rfl, p1, p2, p3, Nl.refl _⟩
          · rintro i σ' H' ⟨_, _, _, _, _, z1, z2, _⟩
            exact ⟨SqL.of z2, SqL.of z1⟩
          · rintro j k1 v1 σ' H10 Tr H11 hk1 hv1 ⟨y4, y5, y6, rfl, r1, r2, r3, r4⟩ hT1 s11 eT1
            refine k_tup2 (σ' := [some (.ref a), some (.ref st), some (.ref vl), some (.ref u), x, some (.ref p), some (.ref D), some (.ref a0), some (.int (sgn t r)), some k1, some v1, y6, x7]) eT1 rfl rfl ?_
            have NN : Nl H9 H11 := r4.trans (Nl.same s11)
            obtain ⟨p', t', r', b', ev1, ⟨tb', bt', br', pb', bb'⟩, la'⟩ := (k6.nl (N9.trans NN)) j k1 hk1
            obtain rfl : v1 = .ref p' := Option.some.inj (hv1.symm.trans ev1)
            have r1 := r1.same s11
            have r2 := s11 _ _ r2
            have r3 := s11 _ _ r3
            have la11 := RootAt.nl la9 NN
            have tb11 : T3 H11 p t r b := NN _ _ (by intro xs z; cases z) tb9
            have w1' : Bw 100 b' := bw_of bb' (by decide)
            have nb' : b' ≠ 0 := by omega
            have sm' : Sm (lowT t' r' b') (lowR t' r' b') (lowB t' r' b') := Sm.low nb' (bt'.mono (by decide)) (br'.mono (by decide)) (w1'.mono (by decide))
            have B1 : B3 t' r' b' := ⟨bt'.mono (by decide), br'.mono (by decide), w1'.mono (by decide)⟩
            have la0' := la'
            obtain ⟨a1, dx1, rfl, ha1⟩ := la0'
            walk_at "W"
            refine ⟨p, p', _, _, _, _, _, _, rfl, tb11, tb', B0, B1, fun u9 H12 hu9 s12 e12 => ?_⟩
            walk_at "W"
            refine ⟨u9, _, _, _, rfl, e12, ((Bw.mul bt w1').sub (Bw.mul bt' w1)).mono (by decide), ((Bw.mul br w1').sub (Bw.mul br' w1)).mono (by decide), ?_⟩
            have S := s12
            have la12 := la11.same S
            have la12' := la'.same S
            have hg := la12
            have hg' := la12'
            obtain ⟨_, dx2, z2, hg2⟩ := hg
            obtain rfl : a0 = _ := by injection z2
            obtain ⟨_, dx3, z3, hg3⟩ := hg'
            obtain rfl : a1 = _ := by injection z3
            walk_at "W"
            refine k_meth hg2 rfl ?_
            walk_at "W"
            refine ⟨_, _, _, _, _, rfl, la12, sm, la12'.th, .inr ⟨_, _, _, .inl la12', sm', fun H13 s13 => ?_⟩⟩
            have S := S.trans s13
            walk_at "W"
            refine ⟨_, _, rfl, ?_⟩
            rw [minus_sgn pb pb', decide_eq_true (rfl : decide (sgn (minus.t t r b t' r' b') (minus.r t r b t' r' b') < 0) = decide (sgn (minus.t t r b t' r' b') (minus.r t r b t' r' b') < 0))]
            walk_at "W"
            refine k_meth (s13 _ _ hg3) rfl ?_
            walk_at "W"
            refine ⟨_, _, _, _, _, rfl, la'.same S, sm', (la11.same S).th, .inr ⟨_, _, _, .inl (la11.same S), sm, fun H14 s14 => ?_⟩⟩
            have S := S.trans s14
            walk_at "W"
            refine ⟨_, _, rfl, ?_⟩
            rw [minus_sgn pb' pb, minus_back (t := t) (r := r) (b := b) (t' := t') (r' := r') (b' := b'), decide_eq_true (decide_eq_decide.mpr (by omega) : decide (-sgn (minus.t t r b t' r' b') (minus.r t r b t' r' b') < 0) = decide (0 < sgn (minus.t t r b t' r' b') (minus.r t r b t' r' b')))]
            walk_at "W"
            refine k_eqC T (la11.same S) (la'.same S).th ?_
            rw [eqRt_root (la'.same S)]
            walk_at "W"
            rw [show decide (lowT t' r' b' = lowT t r b ∧ lowR t' r' b' = lowR t r b ∧ lowB t' r' b' = lowB t r b) = decide (sgn (minus.t t r b t' r' b') (minus.r t r b t' r' b') = 0) from decide_eq_decide.mpr (minus_eq pb pb'), decide_eq_true (by simp)]
            walk_at "W"
            exact ⟨_, _, _, rfl, r1.same S, S _ _ r2, S _ _ r3, NN.trans (Nl.same S)⟩
          · rintro σ' H10 ⟨y4, y5, y6, rfl, r1, r2, r3, r4⟩
            have la10 := RootAt.nl la9 r4
            have tb10 : T3 H10 p t r b := r4 _ _ (by intro xs z; cases z) tb9
            walk_at "W"
            refine k_between r1 (by decide) (by decide) fun wn H11 l1 g1 x11 hs11 => ?_
            have NN : Nl H10 H11 := Nl.sx r1 x11
            have la11 := RootAt.nl la10 NN
            have tb11 : T3 H11 p t r b := NN _ _ (by intro xs z; cases z) tb10
            have r2 := x11 _ _ nv1 r2
            have r3 := x11 _ _ k7 r3
            have hg := la11
            obtain ⟨_, dx2, z2, hg2⟩ := hg
            obtain rfl : a0 = _ := by injection z2
            walk_at "W"
            refine k_meth hg2 rfl ?_
            walk_at "W"
            have bn : Bw 4 wn := bw_of (show wn.natAbs ≤ 9 by omega) (by decide)
            have smn : Sm wn 0 1 := ⟨bn.mono (by decide), Bw.zero.mono (by decide), Bw.one.mono (by decide), by have := (low_is (t := wn) (r := 0) (b := 1) (by decide)).self; rw [(low1 wn).1, (low1 wn).2.1, (low1 wn).2.2] at this; exact this⟩
            refine ⟨_, _, _, _, _, rfl, la11, sm, .int wn, .inr ⟨wn, 0, 1, .inr ⟨wn, rfl, rfl, rfl, rfl⟩, smn, fun H12 s12 => ?_⟩⟩
            walk_at "W"
            refine k_tup rfl fun pw H13 hpw s13 e13 => ?_
            have S := s12.trans s13
            walk_at "W"
            refine ⟨p, pw, _, _, _, _, _, _, rfl, S _ _ tb11, e13, B0, ⟨bn.mono (by decide), Bw.zero.mono (by decide), Bw.one.mono (by decide)⟩, fun um H14 hm s14 e14 => ?_⟩
            have S := S.trans s14
            walk_at "W"
            refine ⟨um, _, _, _, rfl, e14, ((Bw.mul bt Bw.one).sub (Bw.mul bn w1)).mono (by decide), ((Bw.mul br Bw.one).sub (Bw.mul Bw.zero w1)).mono (by decide), ?_⟩
            rw [minus_whole pb]
            walk_at "W"
            refine ⟨_, _, rfl, ?_⟩
            rw [show sgn (minus.t (lowT t r b) (lowR t r b) (lowB t r b) wn 0 1) (minus.r (lowT t r b) (lowR t r b) (lowB t r b) wn 0 1) = sgn (lowT t r b - wn * lowB t r b) (lowR t r b) by unfold minus; dsimp only; rw [Int.mul_one, Int.mul_one, Int.zero_mul, Int.sub_zero],
              decide_eq_true (rfl : decide (sgn (lowT t r b - wn * lowB t r b) (lowR t r b) < 0) = decide (sgn (lowT t r b - wn * lowB t r b) (lowR t r b) < 0))]
            walk_at "W"
            exact ⟨_, _, _, _, _, _, _, rfl, hs11.same S, S _ _ r2, S _ _ r3, (N9.trans r4).trans (NN.trans (Nl.same S))⟩
        · rintro σ' H7 ⟨x1, x2, x3, x4, x5, x6, x7, rfl, p1, p2, p3, p4⟩
          walk_at "W"
          exact q _
def spTop (K : PySem.W.Frag) : Sp := fun vs H Q E => ∃ (a : Addr) (ns : List Int), vs = [.ref a] ∧ SqL K H a (ns.map V.int) ∧ ∀ H', Q (.bl true) H'
theorem all_mk {P : Program} {w : World} {K : PySem.W.Frag} {h : Heap} {mg : Str → Option Value} {fa : Addr} (X : K.In h) (G : h.Ns mainGlobals mg) (hfa : mg "law" = some (.ref fa))
    {c_FloorError c_BadNumber c_Root : Addr}
    {gAX gSX gMX : Addr}
{nmX qX : Str} {NX : Addr} {bsX : List Value} {snX : List Str} {subX : List Value} {abX : Bool} {colX : Option Bool} {ddX : Option Addr} {m0X m1X m2X m3X m5X : Option Value}
    {f_is_integral : Addr} {od_is_integral an_is_integral : Option Addr} {sl_is_integral : Array (Option Value)} {oc_is_integral kV_is_integral dc_is_integral pm_is_integral cd_is_integral ct_is_integral : Value}
    {f_BadNumber_init : Addr} {od_BadNumber_init an_BadNumber_init : Option Addr} {sl_BadNumber_init : Array (Option Value)} {oc_BadNumber_init kV_BadNumber_init dc_BadNumber_init pm_BadNumber_init cd_BadNumber_init ct_BadNumber_init : Value}
    {f_Root_init : Addr} {od_Root_init an_Root_init : Option Addr} {sl_Root_init : Array (Option Value)} {oc_Root_init kV_Root_init dc_Root_init pm_Root_init cd_Root_init ct_Root_init : Value}
    {f_Root_eq : Addr} {od_Root_eq an_Root_eq : Option Addr} {sl_Root_eq : Array (Option Value)} {oc_Root_eq kV_Root_eq dc_Root_eq pm_Root_eq cd_Root_eq ct_Root_eq : Value}
    {f_Root_neg : Addr} {od_Root_neg an_Root_neg : Option Addr} {sl_Root_neg : Array (Option Value)} {oc_Root_neg kV_Root_neg dc_Root_neg pm_Root_neg cd_Root_neg ct_Root_neg : Value}
    {f_is_number : Addr} {od_is_number an_is_number : Option Addr} {sl_is_number : Array (Option Value)} {oc_is_number kV_is_number dc_is_number pm_is_number cd_is_number ct_is_number : Value}
    {f_as_root : Addr} {od_as_root an_as_root : Option Addr} {sl_as_root : Array (Option Value)} {oc_as_root kV_as_root dc_as_root pm_as_root cd_as_root ct_as_root : Value}
    {f_surd_sign : Addr} {od_surd_sign an_surd_sign : Option Addr} {sl_surd_sign : Array (Option Value)} {oc_surd_sign kV_surd_sign dc_surd_sign pm_surd_sign cd_surd_sign ct_surd_sign : Value}
    {f_Root_add : Addr} {od_Root_add an_Root_add : Option Addr} {sl_Root_add : Array (Option Value)} {oc_Root_add kV_Root_add dc_Root_add pm_Root_add cd_Root_add ct_Root_add : Value}
    {f_Root_sub : Addr} {od_Root_sub an_Root_sub : Option Addr} {sl_Root_sub : Array (Option Value)} {oc_Root_sub kV_Root_sub dc_Root_sub pm_Root_sub cd_Root_sub ct_Root_sub : Value}
    {f_Root_mul : Addr} {od_Root_mul an_Root_mul : Option Addr} {sl_Root_mul : Array (Option Value)} {oc_Root_mul kV_Root_mul dc_Root_mul pm_Root_mul cd_Root_mul ct_Root_mul : Value}
    {f_Root_radd : Addr} {od_Root_radd an_Root_radd : Option Addr} {sl_Root_radd : Array (Option Value)} {oc_Root_radd kV_Root_radd dc_Root_radd pm_Root_radd cd_Root_radd ct_Root_radd : Value}
    {f_Root_rmul : Addr} {od_Root_rmul an_Root_rmul : Option Addr} {sl_Root_rmul : Array (Option Value)} {oc_Root_rmul kV_Root_rmul dc_Root_rmul pm_Root_rmul cd_Root_rmul ct_Root_rmul : Value}
    {f_Root_rsub : Addr} {od_Root_rsub an_Root_rsub : Option Addr} {sl_Root_rsub : Array (Option Value)} {oc_Root_rsub kV_Root_rsub dc_Root_rsub pm_Root_rsub cd_Root_rsub ct_Root_rsub : Value}
    {f_Root_less : Addr} {od_Root_less an_Root_less : Option Addr} {sl_Root_less : Array (Option Value)} {oc_Root_less kV_Root_less dc_Root_less pm_Root_less cd_Root_less ct_Root_less : Value}
    {f_surd_whole : Addr} {od_surd_whole an_surd_whole : Option Addr} {sl_surd_whole : Array (Option Value)} {oc_surd_whole kV_surd_whole dc_surd_whole pm_surd_whole cd_surd_whole ct_surd_whole : Value}
    {f_Root_sign : Addr} {od_Root_sign an_Root_sign : Option Addr} {sl_Root_sign : Array (Option Value)} {oc_Root_sign kV_Root_sign dc_Root_sign pm_Root_sign cd_Root_sign ct_Root_sign : Value}
    {f_Root_whole : Addr} {od_Root_whole an_Root_whole : Option Addr} {sl_Root_whole : Array (Option Value)} {oc_Root_whole kV_Root_whole dc_Root_whole pm_Root_whole cd_Root_whole ct_Root_whole : Value}
    {f_Root_nearest : Addr} {od_Root_nearest an_Root_nearest : Option Addr} {sl_Root_nearest : Array (Option Value)} {oc_Root_nearest kV_Root_nearest dc_Root_nearest pm_Root_nearest cd_Root_nearest ct_Root_nearest : Value}
    {f__law_start : Addr} {od__law_start an__law_start : Option Addr} {sl__law_start : Array (Option Value)} {oc__law_start kV__law_start dc__law_start pm__law_start cd__law_start ct__law_start : Value}
    {f__law_mixed : Addr} {od__law_mixed an__law_mixed : Option Addr} {sl__law_mixed : Array (Option Value)} {oc__law_mixed kV__law_mixed dc__law_mixed pm__law_mixed cd__law_mixed ct__law_mixed : Value}
    {f__law_draw : Addr} {od__law_draw an__law_draw : Option Addr} {sl__law_draw : Array (Option Value)} {oc__law_draw kV__law_draw dc__law_draw pm__law_draw cd__law_draw ct__law_draw : Value}
    {f__law_between : Addr} {od__law_between an__law_between : Option Addr} {sl__law_between : Array (Option Value)} {oc__law_between kV__law_between dc__law_between pm__law_between cd__law_between ct__law_between : Value}
    {f__law_flag : Addr} {od__law_flag an__law_flag : Option Addr} {sl__law_flag : Array (Option Value)} {oc__law_flag kV__law_flag dc__law_flag pm__law_flag cd__law_flag ct__law_flag : Value}
    {f__law_plus : Addr} {od__law_plus an__law_plus : Option Addr} {sl__law_plus : Array (Option Value)} {oc__law_plus kV__law_plus dc__law_plus pm__law_plus cd__law_plus ct__law_plus : Value}
    {f__law_minus : Addr} {od__law_minus an__law_minus : Option Addr} {sl__law_minus : Array (Option Value)} {oc__law_minus kV__law_minus dc__law_minus pm__law_minus cd__law_minus ct__law_minus : Value}
    {f__law_times : Addr} {od__law_times an__law_times : Option Addr} {sl__law_times : Array (Option Value)} {oc__law_times kV__law_times dc__law_times pm__law_times cd__law_times ct__law_times : Value}
    {f__law_sign : Addr} {od__law_sign an__law_sign : Option Addr} {sl__law_sign : Array (Option Value)} {oc__law_sign kV__law_sign dc__law_sign pm__law_sign cd__law_sign ct__law_sign : Value}
    {f__law_is_integer : Addr} {od__law_is_integer an__law_is_integer : Option Addr} {sl__law_is_integer : Array (Option Value)} {oc__law_is_integer kV__law_is_integer dc__law_is_integer pm__law_is_integer cd__law_is_integer ct__law_is_integer : Value}
    {f__law_number : Addr} {od__law_number an__law_number : Option Addr} {sl__law_number : Array (Option Value)} {oc__law_number kV__law_number dc__law_number pm__law_number cd__law_number ct__law_number : Value}
    {f__law_wholes : Addr} {od__law_wholes an__law_wholes : Option Addr} {sl__law_wholes : Array (Option Value)} {oc__law_wholes kV__law_wholes dc__law_wholes pm__law_wholes cd__law_wholes ct__law_wholes : Value}
    {f_law : Addr} {od_law an_law : Option Addr} {sl_law : Array (Option Value)} {oc_law kV_law dc_law pm_law cd_law ct_law : Value}
    (r_Root : PySem.W.nsIn K mainGlobals "Root" = some (some (.ref c_Root)))
    (r_BadNumber : PySem.W.nsIn K mainGlobals "BadNumber" = some (some (.ref c_BadNumber)))
    (r_FloorError : PySem.W.nsIn K mainGlobals "FloorError" = some (some (.ref c_FloorError)))
    (r_gcd : PySem.W.nsIn K mainGlobals "gcd" = some (some (.builtin "math.gcd")))
    (r_zip : PySem.W.nsIn K mainGlobals "zip" = some none)
    (r_isqrt : PySem.W.nsIn K mainGlobals "isqrt" = some (some (.builtin "math.isqrt")))
    (r_isinstance : PySem.W.nsIn K mainGlobals "isinstance" = some none)
    (r_int : PySem.W.nsIn K mainGlobals "int" = some none)
    (r_bool : PySem.W.nsIn K mainGlobals "bool" = some none)
    (r_list : PySem.W.nsIn K mainGlobals "list" = some none)
    (r_range : PySem.W.nsIn K mainGlobals "range" = some none)
    (r_len : PySem.W.nsIn K mainGlobals "len" = some none)
    (r_abs : PySem.W.nsIn K mainGlobals "abs" = some none)
    (r_ValueError : PySem.W.nsIn K mainGlobals "ValueError" = some none)
    (r_sf : PySem.W.selfFirst K c_Root = true)
    (r_ra : PySem.W.findIn K (.ref c_Root) "__radd__" = some (some (.ref gAX)))
    (r_rs : PySem.W.findIn K (.ref c_Root) "__rsub__" = some (some (.ref gSX)))
    (r_rm : PySem.W.findIn K (.ref c_Root) "__rmul__" = some (some (.ref gMX)))
    (r_pg : PySem.W.plainGet K c_Root Str.empty = true)
    (r_hd : PySem.W.hasDictIn K c_Root = true)
    (r_po : PySem.W.plainOver K c_Root = true)
    (r_sa : PySem.W.findIn K (.ref c_Root) "__setattr__" = some (some (.builtin "object.__setattr__")))
    (r_ca : PySem.W.findIn K (.ref c_Root) "__class__" = some (some (.builtin "object.__class__")))
    (r_hm : PySem.W.mroIn K c_Root (.type "object") = some true)
    (r_ic : PySem.W.isClsIn K c_Root = true)
    (r_tc : PySem.W.typeIn K (.ref c_Root) = some (.type "type"))
    (r_s1 : PySem.W.mroIn K c_Root (.type "int") = some false)
    (r_s2 : PySem.W.mroIn K c_Root (.type "bool") = some false)
    (r_nt : PySem.W.findIn K (.ref c_Root) "top" = some none)
    (r_nr : PySem.W.findIn K (.ref c_Root) "root" = some none)
    (r_nb : PySem.W.findIn K (.ref c_Root) "bottom" = some none)
    (r_xL : K.lookup c_BadNumber = some (excClassObj nmX qX c_BadNumber NX bsX [.ref c_FloorError, .type "ValueError", .type "Exception", .type "BaseException", .type "object"] true snX subX abX colX ddX m0X m1X m2X m3X m5X "ValueError.__new__"))
    (r_xsa : PySem.W.findIn K (.ref c_BadNumber) "__setattr__" = some (some (.builtin "object.__setattr__")))
    (r_xe : PySem.W.mroIn K c_BadNumber (.type "BaseException") = some true)
    (r_xt : PySem.W.typeIn K (.ref c_BadNumber) = some (.type "type"))
    (r_xk : PySem.W.keepIn K (.ref c_BadNumber) = true)
    (r_xn : PySem.W.findIn K (.ref c_BadNumber) "value" = some none)
    (r_xga : PySem.W.findIn K (.ref c_BadNumber) "__getattribute__" = some (some (.builtin "BaseException.__getattribute__")))
    (r_xgg : PySem.W.findIn K (.ref c_BadNumber) "__getattr__" = some none)
    (r_xhd : PySem.W.hasDictIn K c_BadNumber = true)
    (r_xca : PySem.W.findIn K (.ref c_BadNumber) "__class__" = some (some (.builtin "object.__class__")))
    (r_xhm : PySem.W.mroIn K c_BadNumber (.type "object") = some true)
    (r_xic : PySem.W.isClsIn K c_BadNumber = true)
    (r_xs : PySem.W.mroIn K c_BadNumber (.ref c_BadNumber) = some true)
    (r_xf : PySem.W.mroIn K c_BadNumber (.ref c_FloorError) = some true)
    (r_xv : PySem.W.mroIn K c_BadNumber (.type "ValueError") = some true)
    (r_fic : PySem.W.isClsIn K c_FloorError = true)
    (r_ftc : PySem.W.typeIn K (.ref c_FloorError) = some (.type "type"))
    (a_is_integral : PySem.W.nsIn K mainGlobals "is_integral" = some (some (.ref f_is_integral)))
    (l_is_integral : K.lookup f_is_integral = some ⟨oc_is_integral, od_is_integral, .func (PySem.W.fnOf "is_integral" "is_integral" (defArgs s_is_integral) (defBody s_is_integral) (defScope s_is_integral) .none kV_is_integral dc_is_integral pm_is_integral an_is_integral cd_is_integral ct_is_integral), sl_is_integral⟩)
    (d_is_integral : PySem.W.codeIn K cd_is_integral "is_integral" = true)
    (k_is_integral : PySem.W.keepIn K (.ref f_is_integral) = true)
    (a_BadNumber_init : PySem.W.findIn K (.ref c_BadNumber) "__init__" = some (some (.ref f_BadNumber_init)))
    (t_BadNumber_init : PySem.W.typeIn K (.ref f_BadNumber_init) = some (.type "function"))
    (l_BadNumber_init : K.lookup f_BadNumber_init = some ⟨oc_BadNumber_init, od_BadNumber_init, .func (PySem.W.fnOf "__init__" "BadNumber.__init__" (defArgs s_BadNumber_init) (defBody s_BadNumber_init) (defScope s_BadNumber_init) .none kV_BadNumber_init dc_BadNumber_init pm_BadNumber_init an_BadNumber_init cd_BadNumber_init ct_BadNumber_init), sl_BadNumber_init⟩)
    (d_BadNumber_init : PySem.W.codeIn K cd_BadNumber_init "BadNumber.__init__" = true)
    (k_BadNumber_init : PySem.W.keepIn K (.ref f_BadNumber_init) = true)
    (a_Root_init : PySem.W.findIn K (.ref c_Root) "__init__" = some (some (.ref f_Root_init)))
    (i_Root_init : PySem.W.isFn K (.ref f_Root_init) = true)
    (mk_Root_init : PySem.W.makesIn K c_Root = true)
    (kc_Root_init : PySem.W.keepIn K (.ref c_Root) = true)
    (l_Root_init : K.lookup f_Root_init = some ⟨oc_Root_init, od_Root_init, .func (PySem.W.fnOf "__init__" "Root.__init__" (defArgs s_Root_init) (defBody s_Root_init) (defScope s_Root_init) .none kV_Root_init dc_Root_init pm_Root_init an_Root_init cd_Root_init ct_Root_init), sl_Root_init⟩)
    (d_Root_init : PySem.W.codeIn K cd_Root_init "Root.__init__" = true)
    (k_Root_init : PySem.W.keepIn K (.ref f_Root_init) = true)
    (a_Root_eq : PySem.W.findIn K (.ref c_Root) "__eq__" = some (some (.ref f_Root_eq)))
    (i_Root_eq : PySem.W.isFn K (.ref f_Root_eq) = true)
    (l_Root_eq : K.lookup f_Root_eq = some ⟨oc_Root_eq, od_Root_eq, .func (PySem.W.fnOf "__eq__" "Root.__eq__" (defArgs s_Root_eq) (defBody s_Root_eq) (defScope s_Root_eq) .none kV_Root_eq dc_Root_eq pm_Root_eq an_Root_eq cd_Root_eq ct_Root_eq), sl_Root_eq⟩)
    (d_Root_eq : PySem.W.codeIn K cd_Root_eq "Root.__eq__" = true)
    (k_Root_eq : PySem.W.keepIn K (.ref f_Root_eq) = true)
    (a_Root_neg : PySem.W.findIn K (.ref c_Root) "__neg__" = some (some (.ref f_Root_neg)))
    (i_Root_neg : PySem.W.isFn K (.ref f_Root_neg) = true)
    (l_Root_neg : K.lookup f_Root_neg = some ⟨oc_Root_neg, od_Root_neg, .func (PySem.W.fnOf "__neg__" "Root.__neg__" (defArgs s_Root_neg) (defBody s_Root_neg) (defScope s_Root_neg) .none kV_Root_neg dc_Root_neg pm_Root_neg an_Root_neg cd_Root_neg ct_Root_neg), sl_Root_neg⟩)
    (d_Root_neg : PySem.W.codeIn K cd_Root_neg "Root.__neg__" = true)
    (k_Root_neg : PySem.W.keepIn K (.ref f_Root_neg) = true)
    (a_is_number : PySem.W.nsIn K mainGlobals "is_number" = some (some (.ref f_is_number)))
    (l_is_number : K.lookup f_is_number = some ⟨oc_is_number, od_is_number, .func (PySem.W.fnOf "is_number" "is_number" (defArgs s_is_number) (defBody s_is_number) (defScope s_is_number) .none kV_is_number dc_is_number pm_is_number an_is_number cd_is_number ct_is_number), sl_is_number⟩)
    (d_is_number : PySem.W.codeIn K cd_is_number "is_number" = true)
    (k_is_number : PySem.W.keepIn K (.ref f_is_number) = true)
    (a_as_root : PySem.W.nsIn K mainGlobals "as_root" = some (some (.ref f_as_root)))
    (l_as_root : K.lookup f_as_root = some ⟨oc_as_root, od_as_root, .func (PySem.W.fnOf "as_root" "as_root" (defArgs s_as_root) (defBody s_as_root) (defScope s_as_root) .none kV_as_root dc_as_root pm_as_root an_as_root cd_as_root ct_as_root), sl_as_root⟩)
    (d_as_root : PySem.W.codeIn K cd_as_root "as_root" = true)
    (k_as_root : PySem.W.keepIn K (.ref f_as_root) = true)
    (a_surd_sign : PySem.W.nsIn K mainGlobals "surd_sign" = some (some (.ref f_surd_sign)))
    (l_surd_sign : K.lookup f_surd_sign = some ⟨oc_surd_sign, od_surd_sign, .func (PySem.W.fnOf "surd_sign" "surd_sign" (defArgs s_surd_sign) (defBody s_surd_sign) (defScope s_surd_sign) .none kV_surd_sign dc_surd_sign pm_surd_sign an_surd_sign cd_surd_sign ct_surd_sign), sl_surd_sign⟩)
    (d_surd_sign : PySem.W.codeIn K cd_surd_sign "surd_sign" = true)
    (k_surd_sign : PySem.W.keepIn K (.ref f_surd_sign) = true)
    (a_Root_add : PySem.W.findIn K (.ref c_Root) "__add__" = some (some (.ref f_Root_add)))
    (i_Root_add : PySem.W.isFn K (.ref f_Root_add) = true)
    (l_Root_add : K.lookup f_Root_add = some ⟨oc_Root_add, od_Root_add, .func (PySem.W.fnOf "__add__" "Root.__add__" (defArgs s_Root_add) (defBody s_Root_add) (defScope s_Root_add) .none kV_Root_add dc_Root_add pm_Root_add an_Root_add cd_Root_add ct_Root_add), sl_Root_add⟩)
    (d_Root_add : PySem.W.codeIn K cd_Root_add "Root.__add__" = true)
    (k_Root_add : PySem.W.keepIn K (.ref f_Root_add) = true)
    (a_Root_sub : PySem.W.findIn K (.ref c_Root) "__sub__" = some (some (.ref f_Root_sub)))
    (i_Root_sub : PySem.W.isFn K (.ref f_Root_sub) = true)
    (l_Root_sub : K.lookup f_Root_sub = some ⟨oc_Root_sub, od_Root_sub, .func (PySem.W.fnOf "__sub__" "Root.__sub__" (defArgs s_Root_sub) (defBody s_Root_sub) (defScope s_Root_sub) .none kV_Root_sub dc_Root_sub pm_Root_sub an_Root_sub cd_Root_sub ct_Root_sub), sl_Root_sub⟩)
    (d_Root_sub : PySem.W.codeIn K cd_Root_sub "Root.__sub__" = true)
    (k_Root_sub : PySem.W.keepIn K (.ref f_Root_sub) = true)
    (a_Root_mul : PySem.W.findIn K (.ref c_Root) "__mul__" = some (some (.ref f_Root_mul)))
    (i_Root_mul : PySem.W.isFn K (.ref f_Root_mul) = true)
    (l_Root_mul : K.lookup f_Root_mul = some ⟨oc_Root_mul, od_Root_mul, .func (PySem.W.fnOf "__mul__" "Root.__mul__" (defArgs s_Root_mul) (defBody s_Root_mul) (defScope s_Root_mul) .none kV_Root_mul dc_Root_mul pm_Root_mul an_Root_mul cd_Root_mul ct_Root_mul), sl_Root_mul⟩)
    (d_Root_mul : PySem.W.codeIn K cd_Root_mul "Root.__mul__" = true)
    (k_Root_mul : PySem.W.keepIn K (.ref f_Root_mul) = true)
    (a_Root_radd : PySem.W.findIn K (.ref c_Root) "__radd__" = some (some (.ref f_Root_radd)))
    (i_Root_radd : PySem.W.isFn K (.ref f_Root_radd) = true)
    (l_Root_radd : K.lookup f_Root_radd = some ⟨oc_Root_radd, od_Root_radd, .func (PySem.W.fnOf "__radd__" "Root.__radd__" (defArgs s_Root_radd) (defBody s_Root_radd) (defScope s_Root_radd) .none kV_Root_radd dc_Root_radd pm_Root_radd an_Root_radd cd_Root_radd ct_Root_radd), sl_Root_radd⟩)
    (d_Root_radd : PySem.W.codeIn K cd_Root_radd "Root.__radd__" = true)
    (k_Root_radd : PySem.W.keepIn K (.ref f_Root_radd) = true)
    (a_Root_rmul : PySem.W.findIn K (.ref c_Root) "__rmul__" = some (some (.ref f_Root_rmul)))
    (i_Root_rmul : PySem.W.isFn K (.ref f_Root_rmul) = true)
    (l_Root_rmul : K.lookup f_Root_rmul = some ⟨oc_Root_rmul, od_Root_rmul, .func (PySem.W.fnOf "__rmul__" "Root.__rmul__" (defArgs s_Root_rmul) (defBody s_Root_rmul) (defScope s_Root_rmul) .none kV_Root_rmul dc_Root_rmul pm_Root_rmul an_Root_rmul cd_Root_rmul ct_Root_rmul), sl_Root_rmul⟩)
    (d_Root_rmul : PySem.W.codeIn K cd_Root_rmul "Root.__rmul__" = true)
    (k_Root_rmul : PySem.W.keepIn K (.ref f_Root_rmul) = true)
    (a_Root_rsub : PySem.W.findIn K (.ref c_Root) "__rsub__" = some (some (.ref f_Root_rsub)))
    (i_Root_rsub : PySem.W.isFn K (.ref f_Root_rsub) = true)
    (l_Root_rsub : K.lookup f_Root_rsub = some ⟨oc_Root_rsub, od_Root_rsub, .func (PySem.W.fnOf "__rsub__" "Root.__rsub__" (defArgs s_Root_rsub) (defBody s_Root_rsub) (defScope s_Root_rsub) .none kV_Root_rsub dc_Root_rsub pm_Root_rsub an_Root_rsub cd_Root_rsub ct_Root_rsub), sl_Root_rsub⟩)
    (d_Root_rsub : PySem.W.codeIn K cd_Root_rsub "Root.__rsub__" = true)
    (k_Root_rsub : PySem.W.keepIn K (.ref f_Root_rsub) = true)
    (a_Root_less : PySem.W.findIn K (.ref c_Root) "less" = some (some (.ref f_Root_less)))
    (i_Root_less : PySem.W.isFn K (.ref f_Root_less) = true)
    (l_Root_less : K.lookup f_Root_less = some ⟨oc_Root_less, od_Root_less, .func (PySem.W.fnOf "less" "Root.less" (defArgs s_Root_less) (defBody s_Root_less) (defScope s_Root_less) .none kV_Root_less dc_Root_less pm_Root_less an_Root_less cd_Root_less ct_Root_less), sl_Root_less⟩)
    (d_Root_less : PySem.W.codeIn K cd_Root_less "Root.less" = true)
    (k_Root_less : PySem.W.keepIn K (.ref f_Root_less) = true)
    (a_surd_whole : PySem.W.nsIn K mainGlobals "surd_whole" = some (some (.ref f_surd_whole)))
    (l_surd_whole : K.lookup f_surd_whole = some ⟨oc_surd_whole, od_surd_whole, .func (PySem.W.fnOf "surd_whole" "surd_whole" (defArgs s_surd_whole) (defBody s_surd_whole) (defScope s_surd_whole) .none kV_surd_whole dc_surd_whole pm_surd_whole an_surd_whole cd_surd_whole ct_surd_whole), sl_surd_whole⟩)
    (d_surd_whole : PySem.W.codeIn K cd_surd_whole "surd_whole" = true)
    (k_surd_whole : PySem.W.keepIn K (.ref f_surd_whole) = true)
    (a_Root_sign : PySem.W.findIn K (.ref c_Root) "sign" = some (some (.ref f_Root_sign)))
    (i_Root_sign : PySem.W.isFn K (.ref f_Root_sign) = true)
    (l_Root_sign : K.lookup f_Root_sign = some ⟨oc_Root_sign, od_Root_sign, .func (PySem.W.fnOf "sign" "Root.sign" (defArgs s_Root_sign) (defBody s_Root_sign) (defScope s_Root_sign) .none kV_Root_sign dc_Root_sign pm_Root_sign an_Root_sign cd_Root_sign ct_Root_sign), sl_Root_sign⟩)
    (d_Root_sign : PySem.W.codeIn K cd_Root_sign "Root.sign" = true)
    (k_Root_sign : PySem.W.keepIn K (.ref f_Root_sign) = true)
    (a_Root_whole : PySem.W.findIn K (.ref c_Root) "whole" = some (some (.ref f_Root_whole)))
    (i_Root_whole : PySem.W.isFn K (.ref f_Root_whole) = true)
    (l_Root_whole : K.lookup f_Root_whole = some ⟨oc_Root_whole, od_Root_whole, .func (PySem.W.fnOf "whole" "Root.whole" (defArgs s_Root_whole) (defBody s_Root_whole) (defScope s_Root_whole) .none kV_Root_whole dc_Root_whole pm_Root_whole an_Root_whole cd_Root_whole ct_Root_whole), sl_Root_whole⟩)
    (d_Root_whole : PySem.W.codeIn K cd_Root_whole "Root.whole" = true)
    (k_Root_whole : PySem.W.keepIn K (.ref f_Root_whole) = true)
    (a_Root_nearest : PySem.W.findIn K (.ref c_Root) "nearest" = some (some (.ref f_Root_nearest)))
    (i_Root_nearest : PySem.W.isFn K (.ref f_Root_nearest) = true)
    (l_Root_nearest : K.lookup f_Root_nearest = some ⟨oc_Root_nearest, od_Root_nearest, .func (PySem.W.fnOf "nearest" "Root.nearest" (defArgs s_Root_nearest) (defBody s_Root_nearest) (defScope s_Root_nearest) .none kV_Root_nearest dc_Root_nearest pm_Root_nearest an_Root_nearest cd_Root_nearest ct_Root_nearest), sl_Root_nearest⟩)
    (d_Root_nearest : PySem.W.codeIn K cd_Root_nearest "Root.nearest" = true)
    (k_Root_nearest : PySem.W.keepIn K (.ref f_Root_nearest) = true)
    (a__law_start : PySem.W.nsIn K mainGlobals "_law_start" = some (some (.ref f__law_start)))
    (l__law_start : K.lookup f__law_start = some ⟨oc__law_start, od__law_start, .func (PySem.W.fnOf "_law_start" "_law_start" (defArgs s__law_start) (defBody s__law_start) (defScope s__law_start) .none kV__law_start dc__law_start pm__law_start an__law_start cd__law_start ct__law_start), sl__law_start⟩)
    (d__law_start : PySem.W.codeIn K cd__law_start "_law_start" = true)
    (k__law_start : PySem.W.keepIn K (.ref f__law_start) = true)
    (a__law_mixed : PySem.W.nsIn K mainGlobals "_law_mixed" = some (some (.ref f__law_mixed)))
    (l__law_mixed : K.lookup f__law_mixed = some ⟨oc__law_mixed, od__law_mixed, .func (PySem.W.fnOf "_law_mixed" "_law_mixed" (defArgs s__law_mixed) (defBody s__law_mixed) (defScope s__law_mixed) .none kV__law_mixed dc__law_mixed pm__law_mixed an__law_mixed cd__law_mixed ct__law_mixed), sl__law_mixed⟩)
    (d__law_mixed : PySem.W.codeIn K cd__law_mixed "_law_mixed" = true)
    (k__law_mixed : PySem.W.keepIn K (.ref f__law_mixed) = true)
    (a__law_draw : PySem.W.nsIn K mainGlobals "_law_draw" = some (some (.ref f__law_draw)))
    (l__law_draw : K.lookup f__law_draw = some ⟨oc__law_draw, od__law_draw, .func (PySem.W.fnOf "_law_draw" "_law_draw" (defArgs s__law_draw) (defBody s__law_draw) (defScope s__law_draw) .none kV__law_draw dc__law_draw pm__law_draw an__law_draw cd__law_draw ct__law_draw), sl__law_draw⟩)
    (d__law_draw : PySem.W.codeIn K cd__law_draw "_law_draw" = true)
    (k__law_draw : PySem.W.keepIn K (.ref f__law_draw) = true)
    (a__law_between : PySem.W.nsIn K mainGlobals "_law_between" = some (some (.ref f__law_between)))
    (l__law_between : K.lookup f__law_between = some ⟨oc__law_between, od__law_between, .func (PySem.W.fnOf "_law_between" "_law_between" (defArgs s__law_between) (defBody s__law_between) (defScope s__law_between) .none kV__law_between dc__law_between pm__law_between an__law_between cd__law_between ct__law_between), sl__law_between⟩)
    (d__law_between : PySem.W.codeIn K cd__law_between "_law_between" = true)
    (k__law_between : PySem.W.keepIn K (.ref f__law_between) = true)
    (a__law_flag : PySem.W.nsIn K mainGlobals "_law_flag" = some (some (.ref f__law_flag)))
    (l__law_flag : K.lookup f__law_flag = some ⟨oc__law_flag, od__law_flag, .func (PySem.W.fnOf "_law_flag" "_law_flag" (defArgs s__law_flag) (defBody s__law_flag) (defScope s__law_flag) .none kV__law_flag dc__law_flag pm__law_flag an__law_flag cd__law_flag ct__law_flag), sl__law_flag⟩)
    (d__law_flag : PySem.W.codeIn K cd__law_flag "_law_flag" = true)
    (k__law_flag : PySem.W.keepIn K (.ref f__law_flag) = true)
    (a__law_plus : PySem.W.nsIn K mainGlobals "_law_plus" = some (some (.ref f__law_plus)))
    (l__law_plus : K.lookup f__law_plus = some ⟨oc__law_plus, od__law_plus, .func (PySem.W.fnOf "_law_plus" "_law_plus" (defArgs s__law_plus) (defBody s__law_plus) (defScope s__law_plus) .none kV__law_plus dc__law_plus pm__law_plus an__law_plus cd__law_plus ct__law_plus), sl__law_plus⟩)
    (d__law_plus : PySem.W.codeIn K cd__law_plus "_law_plus" = true)
    (k__law_plus : PySem.W.keepIn K (.ref f__law_plus) = true)
    (a__law_minus : PySem.W.nsIn K mainGlobals "_law_minus" = some (some (.ref f__law_minus)))
    (l__law_minus : K.lookup f__law_minus = some ⟨oc__law_minus, od__law_minus, .func (PySem.W.fnOf "_law_minus" "_law_minus" (defArgs s__law_minus) (defBody s__law_minus) (defScope s__law_minus) .none kV__law_minus dc__law_minus pm__law_minus an__law_minus cd__law_minus ct__law_minus), sl__law_minus⟩)
    (d__law_minus : PySem.W.codeIn K cd__law_minus "_law_minus" = true)
    (k__law_minus : PySem.W.keepIn K (.ref f__law_minus) = true)
    (a__law_times : PySem.W.nsIn K mainGlobals "_law_times" = some (some (.ref f__law_times)))
    (l__law_times : K.lookup f__law_times = some ⟨oc__law_times, od__law_times, .func (PySem.W.fnOf "_law_times" "_law_times" (defArgs s__law_times) (defBody s__law_times) (defScope s__law_times) .none kV__law_times dc__law_times pm__law_times an__law_times cd__law_times ct__law_times), sl__law_times⟩)
    (d__law_times : PySem.W.codeIn K cd__law_times "_law_times" = true)
    (k__law_times : PySem.W.keepIn K (.ref f__law_times) = true)
    (a__law_sign : PySem.W.nsIn K mainGlobals "_law_sign" = some (some (.ref f__law_sign)))
    (l__law_sign : K.lookup f__law_sign = some ⟨oc__law_sign, od__law_sign, .func (PySem.W.fnOf "_law_sign" "_law_sign" (defArgs s__law_sign) (defBody s__law_sign) (defScope s__law_sign) .none kV__law_sign dc__law_sign pm__law_sign an__law_sign cd__law_sign ct__law_sign), sl__law_sign⟩)
    (d__law_sign : PySem.W.codeIn K cd__law_sign "_law_sign" = true)
    (k__law_sign : PySem.W.keepIn K (.ref f__law_sign) = true)
    (a__law_is_integer : PySem.W.nsIn K mainGlobals "_law_is_integer" = some (some (.ref f__law_is_integer)))
    (l__law_is_integer : K.lookup f__law_is_integer = some ⟨oc__law_is_integer, od__law_is_integer, .func (PySem.W.fnOf "_law_is_integer" "_law_is_integer" (defArgs s__law_is_integer) (defBody s__law_is_integer) (defScope s__law_is_integer) .none kV__law_is_integer dc__law_is_integer pm__law_is_integer an__law_is_integer cd__law_is_integer ct__law_is_integer), sl__law_is_integer⟩)
    (d__law_is_integer : PySem.W.codeIn K cd__law_is_integer "_law_is_integer" = true)
    (k__law_is_integer : PySem.W.keepIn K (.ref f__law_is_integer) = true)
    (a__law_number : PySem.W.nsIn K mainGlobals "_law_number" = some (some (.ref f__law_number)))
    (l__law_number : K.lookup f__law_number = some ⟨oc__law_number, od__law_number, .func (PySem.W.fnOf "_law_number" "_law_number" (defArgs s__law_number) (defBody s__law_number) (defScope s__law_number) .none kV__law_number dc__law_number pm__law_number an__law_number cd__law_number ct__law_number), sl__law_number⟩)
    (d__law_number : PySem.W.codeIn K cd__law_number "_law_number" = true)
    (k__law_number : PySem.W.keepIn K (.ref f__law_number) = true)
    (a__law_wholes : PySem.W.nsIn K mainGlobals "_law_wholes" = some (some (.ref f__law_wholes)))
    (l__law_wholes : K.lookup f__law_wholes = some ⟨oc__law_wholes, od__law_wholes, .func (PySem.W.fnOf "_law_wholes" "_law_wholes" (defArgs s__law_wholes) (defBody s__law_wholes) (defScope s__law_wholes) .none kV__law_wholes dc__law_wholes pm__law_wholes an__law_wholes cd__law_wholes ct__law_wholes), sl__law_wholes⟩)
    (d__law_wholes : PySem.W.codeIn K cd__law_wholes "_law_wholes" = true)
    (k__law_wholes : PySem.W.keepIn K (.ref f__law_wholes) = true)
    (a_law : PySem.W.nsIn K mainGlobals "law" = some (some (.ref f_law)))
    (l_law : K.lookup f_law = some ⟨oc_law, od_law, .func (PySem.W.fnOf "law" "law" (defArgs s_law) (defBody s_law) (defScope s_law) .none kV_law dc_law pm_law an_law cd_law ct_law), sl_law⟩)
    (d_law : PySem.W.codeIn K cd_law "law" = true)
    (k_law : PySem.W.keepIn K (.ref f_law) = true)
    : ∃ fd : FuncData, (∀ (s : Shared) (v : Value), BindsTo s fd ⟨[v], []⟩ [("script", v)]) ∧ ∀ base : Heap, K.In base → base.Ns mainGlobals mg → FnOk P w K mg base (L2.CX P w) 7 fa fd ["script"] (spTop K) := by
  have e := hfa.symm.trans (PySem.W.mg_of X G a_law)
  cases e
  have M : ∀ {n : Str} {v : Value}, PySem.W.nsIn K mainGlobals n = some (some v) → mg n = some v := fun h => PySem.W.mg_of X G h
  have O : ∀ {n : Str}, PySem.W.nsIn K mainGlobals n = some none → mg n = none := fun h => PySem.W.mg_none_of X G h
  have T : Txt (⟨K, c_FloorError, c_BadNumber, c_Root⟩ : Zs) mg :=
    { n_isinstance := O r_isinstance, n_int := O r_int, n_bool := O r_bool, n_list := O r_list, n_range := O r_range, n_len := O r_len, n_abs := O r_abs, n_ValueError := O r_ValueError
      g_gcd := M r_gcd, g_Root := M r_Root, g_BadNumber := M r_BadNumber, g_FloorError := M r_FloorError
      ki := ki_mk ⟨r_pg, r_hd, r_po, r_sa⟩ r_ca r_hm r_ic r_tc r_s1 r_s2
      ow := ⟨r_sf, r_s1⟩, ra := ⟨_, r_ra⟩
      rs := ⟨_, r_rs⟩
      rm := ⟨_, r_rm⟩
      n_zip := O r_zip
      g_isqrt := M r_isqrt
      nf_top := r_nt, nf_root := r_nr, nf_bottom := r_nb
      x_BadNumber := ⟨⟨nmX, qX, NX, bsX, _, snX, subX, abX, colX, ddX, m0X, m1X, m2X, m3X, m5X, r_xL, rfl⟩, r_xsa, r_xe, r_xt, r_xk⟩
      xn_BadNumber := r_xn
      xf_BadNumber := ⟨r_xga, r_xgg, r_xe, r_xhd⟩
      xi_BadNumber := ⟨r_xga, r_xgg, r_xe, r_xhd, r_xca, rfl, rfl, r_xhm⟩
      xm_BadNumber := exm_mk r_xe r_xic r_xt r_xs
      x1 := kit_ref (t := .ref c_BadNumber) r_fic r_ftc r_xf
      x2 := kit_type (C := c_BadNumber) (T := "ValueError") (by decide +kernel) r_xv
    }
  have F_is_integral := fun_mk (st := s_is_integral) l_is_integral d_is_integral k_is_integral
  have B_is_integral := F_is_integral.binds (ps := ["thing"]) fun _ _ _ _ _ _ us hl => match us, hl with | [_], _ => rfl
  have F_BadNumber_init := fun_mk (st := s_BadNumber_init) l_BadNumber_init d_BadNumber_init k_BadNumber_init
  have B_BadNumber_init := F_BadNumber_init.binds (ps := ["self", "value"]) fun _ _ _ _ _ _ us hl => match us, hl with | [_, _], _ => rfl
  have F_Root_init := fun_mk (st := s_Root_init) l_Root_init d_Root_init k_Root_init
  have B_Root_init := F_Root_init.binds (ps := ["self", "top", "root", "bottom"]) fun _ _ _ _ _ _ us hl => match us, hl with | [_, _, _, _], _ => rfl
  have F_Root_eq := fun_mk (st := s_Root_eq) l_Root_eq d_Root_eq k_Root_eq
  have B_Root_eq := F_Root_eq.binds (ps := ["self", "other"]) fun _ _ _ _ _ _ us hl => match us, hl with | [_, _], _ => rfl
  have F_Root_neg := fun_mk (st := s_Root_neg) l_Root_neg d_Root_neg k_Root_neg
  have B_Root_neg := F_Root_neg.binds (ps := ["self"]) fun _ _ _ _ _ _ us hl => match us, hl with | [_], _ => rfl
  have F_is_number := fun_mk (st := s_is_number) l_is_number d_is_number k_is_number
  have B_is_number := F_is_number.binds (ps := ["thing"]) fun _ _ _ _ _ _ us hl => match us, hl with | [_], _ => rfl
  have F_as_root := fun_mk (st := s_as_root) l_as_root d_as_root k_as_root
  have B_as_root := F_as_root.binds (ps := ["number"]) fun _ _ _ _ _ _ us hl => match us, hl with | [_], _ => rfl
  have F_surd_sign := fun_mk (st := s_surd_sign) l_surd_sign d_surd_sign k_surd_sign
  have B_surd_sign := F_surd_sign.binds (ps := ["top", "root"]) fun _ _ _ _ _ _ us hl => match us, hl with | [_, _], _ => rfl
  have F_Root_add := fun_mk (st := s_Root_add) l_Root_add d_Root_add k_Root_add
  have B_Root_add := F_Root_add.binds (ps := ["self", "other"]) fun _ _ _ _ _ _ us hl => match us, hl with | [_, _], _ => rfl
  have F_Root_sub := fun_mk (st := s_Root_sub) l_Root_sub d_Root_sub k_Root_sub
  have B_Root_sub := F_Root_sub.binds (ps := ["self", "other"]) fun _ _ _ _ _ _ us hl => match us, hl with | [_, _], _ => rfl
  have F_Root_mul := fun_mk (st := s_Root_mul) l_Root_mul d_Root_mul k_Root_mul
  have B_Root_mul := F_Root_mul.binds (ps := ["self", "other"]) fun _ _ _ _ _ _ us hl => match us, hl with | [_, _], _ => rfl
  have F_Root_radd := fun_mk (st := s_Root_radd) l_Root_radd d_Root_radd k_Root_radd
  have B_Root_radd := F_Root_radd.binds (ps := ["self", "other"]) fun _ _ _ _ _ _ us hl => match us, hl with | [_, _], _ => rfl
  have F_Root_rmul := fun_mk (st := s_Root_rmul) l_Root_rmul d_Root_rmul k_Root_rmul
  have B_Root_rmul := F_Root_rmul.binds (ps := ["self", "other"]) fun _ _ _ _ _ _ us hl => match us, hl with | [_, _], _ => rfl
  have F_Root_rsub := fun_mk (st := s_Root_rsub) l_Root_rsub d_Root_rsub k_Root_rsub
  have B_Root_rsub := F_Root_rsub.binds (ps := ["self", "other"]) fun _ _ _ _ _ _ us hl => match us, hl with | [_, _], _ => rfl
  have F_Root_less := fun_mk (st := s_Root_less) l_Root_less d_Root_less k_Root_less
  have B_Root_less := F_Root_less.binds (ps := ["self", "number"]) fun _ _ _ _ _ _ us hl => match us, hl with | [_, _], _ => rfl
  have F_surd_whole := fun_mk (st := s_surd_whole) l_surd_whole d_surd_whole k_surd_whole
  have B_surd_whole := F_surd_whole.binds (ps := ["top", "root"]) fun _ _ _ _ _ _ us hl => match us, hl with | [_, _], _ => rfl
  have F_Root_sign := fun_mk (st := s_Root_sign) l_Root_sign d_Root_sign k_Root_sign
  have B_Root_sign := F_Root_sign.binds (ps := ["self"]) fun _ _ _ _ _ _ us hl => match us, hl with | [_], _ => rfl
  have F_Root_whole := fun_mk (st := s_Root_whole) l_Root_whole d_Root_whole k_Root_whole
  have B_Root_whole := F_Root_whole.binds (ps := ["self"]) fun _ _ _ _ _ _ us hl => match us, hl with | [_], _ => rfl
  have F_Root_nearest := fun_mk (st := s_Root_nearest) l_Root_nearest d_Root_nearest k_Root_nearest
  have B_Root_nearest := F_Root_nearest.binds (ps := ["self"]) fun _ _ _ _ _ _ us hl => match us, hl with | [_], _ => rfl
  have F__law_start := fun_mk (st := s__law_start) l__law_start d__law_start k__law_start
  have B__law_start := F__law_start.binds (ps := ["script"]) fun _ _ _ _ _ _ us hl => match us, hl with | [_], _ => rfl
  have F__law_mixed := fun_mk (st := s__law_mixed) l__law_mixed d__law_mixed k__law_mixed
  have B__law_mixed := F__law_mixed.binds (ps := ["cell", "count"]) fun _ _ _ _ _ _ us hl => match us, hl with | [_, _], _ => rfl
  have F__law_draw := fun_mk (st := s__law_draw) l__law_draw d__law_draw k__law_draw
  have B__law_draw := F__law_draw.binds (ps := ["state", "many"]) fun _ _ _ _ _ _ us hl => match us, hl with | [_, _], _ => rfl
  have F__law_between := fun_mk (st := s__law_between) l__law_between d__law_between k__law_between
  have B__law_between := F__law_between.binds (ps := ["state", "least", "most"]) fun _ _ _ _ _ _ us hl => match us, hl with | [_, _, _], _ => rfl
  have F__law_flag := fun_mk (st := s__law_flag) l__law_flag d__law_flag k__law_flag
  have B__law_flag := F__law_flag.binds (ps := ["thing", "due"]) fun _ _ _ _ _ _ us hl => match us, hl with | [_, _], _ => rfl
  have F__law_plus := fun_mk (st := s__law_plus) l__law_plus d__law_plus k__law_plus
  have B__law_plus := F__law_plus.binds (ps := ["one", "other"]) fun _ _ _ _ _ _ us hl => match us, hl with | [_, _], _ => rfl
  have F__law_minus := fun_mk (st := s__law_minus) l__law_minus d__law_minus k__law_minus
  have B__law_minus := F__law_minus.binds (ps := ["one", "other"]) fun _ _ _ _ _ _ us hl => match us, hl with | [_, _], _ => rfl
  have F__law_times := fun_mk (st := s__law_times) l__law_times d__law_times k__law_times
  have B__law_times := F__law_times.binds (ps := ["one", "other"]) fun _ _ _ _ _ _ us hl => match us, hl with | [_, _], _ => rfl
  have F__law_sign := fun_mk (st := s__law_sign) l__law_sign d__law_sign k__law_sign
  have B__law_sign := F__law_sign.binds (ps := ["number"]) fun _ _ _ _ _ _ us hl => match us, hl with | [_], _ => rfl
  have F__law_is_integer := fun_mk (st := s__law_is_integer) l__law_is_integer d__law_is_integer k__law_is_integer
  have B__law_is_integer := F__law_is_integer.binds (ps := ["thing"]) fun _ _ _ _ _ _ us hl => match us, hl with | [_], _ => rfl
  have F__law_number := fun_mk (st := s__law_number) l__law_number d__law_number k__law_number
  have B__law_number := F__law_number.binds (ps := ["state", "ahead"]) fun _ _ _ _ _ _ us hl => match us, hl with | [_, _], _ => rfl
  have F__law_wholes := fun_mk (st := s__law_wholes) l__law_wholes d__law_wholes k__law_wholes
  have B__law_wholes := F__law_wholes.binds (ps := ["number", "value"]) fun _ _ _ _ _ _ us hl => match us, hl with | [_, _], _ => rfl
  have F_law := fun_mk (st := s_law) l_law d_law k_law
  refine ⟨PySem.W.fnOf "law" "law" (defArgs s_law) (defBody s_law) (defScope s_law) .none kV_law dc_law pm_law an_law cd_law ct_law, fun s v => .of_eq rfl, fun base _ _ => ?_⟩
  have h_is_integral := ok_is_integral (P := P) (w := w) (base := base) T  ⟨_, _, F_is_integral, B_is_integral, M a_is_integral⟩
  have h_BadNumber := ok_BadNumber_init (P := P) (w := w) (base := base) T  ⟨_, _, F_BadNumber_init, B_BadNumber_init, M r_BadNumber, a_BadNumber_init, t_BadNumber_init⟩
  have h_Root := ok_Root_init (P := P) (w := w) (base := base) T h_BadNumber h_is_integral ⟨_, _, F_Root_init, B_Root_init, ⟨mk_Root_init, a_Root_init, i_Root_init, kc_Root_init⟩, M r_Root⟩
  have h_Root_eq := ok_Root_eq (P := P) (w := w) (base := base) T h_is_integral ⟨_, _, F_Root_eq, B_Root_eq, ⟨a_Root_eq, i_Root_eq, k_Root_eq⟩⟩
  have h_Root_neg := ok_Root_neg (P := P) (w := w) (base := base) T h_Root ⟨_, _, F_Root_neg, B_Root_neg, ⟨a_Root_neg, i_Root_neg, k_Root_neg⟩⟩
  have h_is_number := ok_is_number (P := P) (w := w) (base := base) T h_is_integral ⟨_, _, F_is_number, B_is_number, M a_is_number⟩
  have h_as_root := ok_as_root (P := P) (w := w) (base := base) T h_Root ⟨_, _, F_as_root, B_as_root, M a_as_root⟩
  have h_surd_sign := ok_surd_sign (P := P) (w := w) (base := base) T  ⟨_, _, F_surd_sign, B_surd_sign, M a_surd_sign⟩
  have h_Root_add := ok_Root_add (P := P) (w := w) (base := base) T h_Root h_as_root h_is_number ⟨_, _, F_Root_add, B_Root_add, ⟨a_Root_add, i_Root_add, k_Root_add⟩⟩
  have h_Root_sub := ok_Root_sub (P := P) (w := w) (base := base) T h_Root h_as_root h_is_number ⟨_, _, F_Root_sub, B_Root_sub, ⟨a_Root_sub, i_Root_sub, k_Root_sub⟩⟩
  have h_Root_mul := ok_Root_mul (P := P) (w := w) (base := base) T h_Root h_as_root h_is_number ⟨_, _, F_Root_mul, B_Root_mul, ⟨a_Root_mul, i_Root_mul, k_Root_mul⟩⟩
  have h_Root_radd := ok_Root_radd (P := P) (w := w) (base := base) T h_Root_add ⟨_, _, F_Root_radd, B_Root_radd, ⟨a_Root_radd, i_Root_radd, k_Root_radd⟩⟩
  have h_Root_rmul := ok_Root_rmul (P := P) (w := w) (base := base) T h_Root_mul ⟨_, _, F_Root_rmul, B_Root_rmul, ⟨a_Root_rmul, i_Root_rmul, k_Root_rmul⟩⟩
  have h_Root_rsub := ok_Root_rsub (P := P) (w := w) (base := base) T h_Root_add h_Root_neg ⟨_, _, F_Root_rsub, B_Root_rsub, ⟨a_Root_rsub, i_Root_rsub, k_Root_rsub⟩⟩
  have h_Root_less := ok_Root_less (P := P) (w := w) (base := base) T h_surd_sign h_as_root h_is_number h_BadNumber ⟨_, _, F_Root_less, B_Root_less, ⟨a_Root_less, i_Root_less, k_Root_less⟩⟩
  have h_surd_whole := ok_surd_whole (P := P) (w := w) (base := base) T  ⟨_, _, F_surd_whole, B_surd_whole, M a_surd_whole⟩
  have h_Root_sign := ok_Root_sign (P := P) (w := w) (base := base) T h_surd_sign ⟨_, _, F_Root_sign, B_Root_sign, ⟨a_Root_sign, i_Root_sign, k_Root_sign⟩⟩
  have h_Root_whole := ok_Root_whole (P := P) (w := w) (base := base) T h_surd_whole ⟨_, _, F_Root_whole, B_Root_whole, ⟨a_Root_whole, i_Root_whole, k_Root_whole⟩⟩
  have h_Root_nearest := ok_Root_nearest (P := P) (w := w) (base := base) T h_surd_whole ⟨_, _, F_Root_nearest, B_Root_nearest, ⟨a_Root_nearest, i_Root_nearest, k_Root_nearest⟩⟩
  have h__law_start := ok__law_start (P := P) (w := w) (base := base) T  ⟨_, _, F__law_start, B__law_start, M a__law_start⟩
  have h__law_mixed := ok__law_mixed (P := P) (w := w) (base := base) T  ⟨_, _, F__law_mixed, B__law_mixed, M a__law_mixed⟩
  have h__law_draw := ok__law_draw (P := P) (w := w) (base := base) T h__law_mixed ⟨_, _, F__law_draw, B__law_draw, M a__law_draw⟩
  have h__law_between := ok__law_between (P := P) (w := w) (base := base) T h__law_draw ⟨_, _, F__law_between, B__law_between, M a__law_between⟩
  have h__law_flag := ok__law_flag (P := P) (w := w) (base := base) T  ⟨_, _, F__law_flag, B__law_flag, M a__law_flag⟩
  have h__law_plus := ok__law_plus (P := P) (w := w) (base := base) T  ⟨_, _, F__law_plus, B__law_plus, M a__law_plus⟩
  have h__law_minus := ok__law_minus (P := P) (w := w) (base := base) T  ⟨_, _, F__law_minus, B__law_minus, M a__law_minus⟩
  have h__law_times := ok__law_times (P := P) (w := w) (base := base) T  ⟨_, _, F__law_times, B__law_times, M a__law_times⟩
  have h__law_sign := ok__law_sign (P := P) (w := w) (base := base) T  ⟨_, _, F__law_sign, B__law_sign, M a__law_sign⟩
  have h__law_is_integer := ok__law_is_integer (P := P) (w := w) (base := base) T  ⟨_, _, F__law_is_integer, B__law_is_integer, M a__law_is_integer⟩
  have h__law_number := ok__law_number (P := P) (w := w) (base := base) T h__law_plus h__law_between h__law_draw h__law_times ⟨_, _, F__law_number, B__law_number, M a__law_number⟩
  have h__law_wholes := ok__law_wholes (P := P) (w := w) (base := base) T h__law_is_integer h__law_sign h__law_minus h__law_plus h_Root_neg h_Root_whole h_Root_nearest ⟨_, _, F__law_wholes, B__law_wholes, M a__law_wholes⟩
  exact (ok_law (P := P) (w := w) (base := base) T h__law_flag h__law_sign h__law_minus h__law_between h__law_wholes h__law_is_integer h_Root h__law_draw h__law_number h__law_start h_Root_eq h_Root_less h_Root_sign F_law).imp fun vs H Q E hs => hs
theorem walk {l : PySem.W.OpenLaw} {q : Program} {loose : List Str} {XP : (Str → Option Value) → Heap → Prop} {YP : World → Heap → Prop} {d : DefRec} {K : Params → PySem.W.Frag} (hn : l.most = some 63) (hdf : d.params.defaults = [])
    (hY : ∀ (w : World) (h : Heap), YP w h → (K w.params).In h)
    (F : ∀ (w : World) (mg : Str → Option Value) (fa : Addr) (h : Heap), (K w.params).In h → h.Ns mainGlobals mg → mg d.name = some (.ref fa) →
      ∃ fd : FuncData, (∀ (s : Shared) (u : Value), BindsTo s fd ⟨[u], []⟩ [("script", u)]) ∧ ∀ base : Heap, (K w.params).In base → base.Ns mainGlobals mg → FnOk l.prog w (K w.params) mg base (L2.CX l.prog w) 7 fa fd ["script"] (spTop (K w.params))) :
    PySem.W.WalkO q loose XP YP l.row.toRowW d [] (fun f vs => PySem.call f vs) :=
  L2.walk_of (n := 63) (k := 7) (x := "script") (CX := fun w => L2.CX l.prog w) (sp := fun w => spTop (K w.params)) hn (by decide) hdf ⟨rfl, by decide, by decide⟩ hY F (fun _ _ a ns _ _ hS => ⟨a, ns, rfl, hS, fun _ => rfl⟩) fun _ _ _ _ _ z => cx_no z
end L2.My
open PySem PySem.W PyProof.Rows in
set_option maxRecDepth 100000 in
set_option maxHeartbeats 0 in
theorem PySem.Challenge.cw_threetiles_k02_whole_numbers_in_order_holds : PySem.Challenge.rw_threetiles_k02_whole_numbers_in_order.Holds := by
  w_on; o_law; k_head; (case hw => w_witness2)
  k_fill
  refine L2.My.walk (l := PySem.Challenge.rw_threetiles_k02_whole_numbers_in_order) rfl rfl (fun w h Y => PySem.W.kIn_of Y) ?F
  case F =>
    intro w mg fa h KX G hmg
    refine' L2.My.all_mk KX G hmg ?r_Root ?r_BadNumber ?r_FloorError ?r_gcd ?r_zip ?r_isqrt ?r_isinstance ?r_int ?r_bool ?r_list ?r_range ?r_len ?r_abs ?r_ValueError ?r_sf ?r_ra ?r_rs ?r_rm ?r_pg ?r_hd ?r_po ?r_sa ?r_ca ?r_hm ?r_ic ?r_tc ?r_s1 ?r_s2 ?r_nt ?r_nr ?r_nb ?r_xL ?r_xsa ?r_xe ?r_xt ?r_xk ?r_xn ?r_xga ?r_xgg ?r_xhd ?r_xca ?r_xhm ?r_xic ?r_xs ?r_xf ?r_xv ?r_fic ?r_ftc ?a_is_integral ?l_is_integral ?d_is_integral ?k_is_integral ?a_BadNumber_init ?t_BadNumber_init ?l_BadNumber_init ?d_BadNumber_init ?k_BadNumber_init ?a_Root_init ?i_Root_init ?mk_Root_init ?kc_Root_init ?l_Root_init ?d_Root_init ?k_Root_init ?a_Root_eq ?i_Root_eq ?l_Root_eq ?d_Root_eq ?k_Root_eq ?a_Root_neg ?i_Root_neg ?l_Root_neg ?d_Root_neg ?k_Root_neg ?a_is_number ?l_is_number ?d_is_number ?k_is_number ?a_as_root ?l_as_root ?d_as_root ?k_as_root ?a_surd_sign ?l_surd_sign ?d_surd_sign ?k_surd_sign ?a_Root_add ?i_Root_add ?l_Root_add ?d_Root_add ?k_Root_add ?a_Root_sub ?i_Root_sub ?l_Root_sub ?d_Root_sub ?k_Root_sub ?a_Root_mul ?i_Root_mul ?l_Root_mul ?d_Root_mul ?k_Root_mul ?a_Root_radd ?i_Root_radd ?l_Root_radd ?d_Root_radd ?k_Root_radd ?a_Root_rmul ?i_Root_rmul ?l_Root_rmul ?d_Root_rmul ?k_Root_rmul ?a_Root_rsub ?i_Root_rsub ?l_Root_rsub ?d_Root_rsub ?k_Root_rsub ?a_Root_less ?i_Root_less ?l_Root_less ?d_Root_less ?k_Root_less ?a_surd_whole ?l_surd_whole ?d_surd_whole ?k_surd_whole ?a_Root_sign ?i_Root_sign ?l_Root_sign ?d_Root_sign ?k_Root_sign ?a_Root_whole ?i_Root_whole ?l_Root_whole ?d_Root_whole ?k_Root_whole ?a_Root_nearest ?i_Root_nearest ?l_Root_nearest ?d_Root_nearest ?k_Root_nearest ?a__law_start ?l__law_start ?d__law_start ?k__law_start ?a__law_mixed ?l__law_mixed ?d__law_mixed ?k__law_mixed ?a__law_draw ?l__law_draw ?d__law_draw ?k__law_draw ?a__law_between ?l__law_between ?d__law_between ?k__law_between ?a__law_flag ?l__law_flag ?d__law_flag ?k__law_flag ?a__law_plus ?l__law_plus ?d__law_plus ?k__law_plus ?a__law_minus ?l__law_minus ?d__law_minus ?k__law_minus ?a__law_times ?l__law_times ?d__law_times ?k__law_times ?a__law_sign ?l__law_sign ?d__law_sign ?k__law_sign ?a__law_is_integer ?l__law_is_integer ?d__law_is_integer ?k__law_is_integer ?a__law_number ?l__law_number ?d__law_number ?k__law_number ?a__law_wholes ?l__law_wholes ?d__law_wholes ?k__law_wholes ?a_law ?l_law ?d_law ?k_law
    (case r_Root => k_is)
    (case r_BadNumber => k_is)
    (case r_FloorError => k_is)
    (case r_gcd => k_is)
    (case r_zip => k_is)
    (case r_isqrt => k_is)
    (case r_isinstance => k_is)
    (case r_int => k_is)
    (case r_bool => k_is)
    (case r_list => k_is)
    (case r_range => k_is)
    (case r_len => k_is)
    (case r_abs => k_is)
    (case r_ValueError => k_is)
    (case r_sf => k_is)
    (case r_ra => k_is)
    (case r_rs => k_is)
    (case r_rm => k_is)
    (case r_pg => k_is)
    (case r_hd => k_is)
    (case r_po => k_is)
    (case r_sa => k_is)
    (case r_ca => k_is)
    (case r_hm => k_is)
    (case r_ic => k_is)
    (case r_tc => k_is)
    (case r_s1 => k_is)
    (case r_s2 => k_is)
    (case r_nt => k_is)
    (case r_nr => k_is)
    (case r_nb => k_is)
    (case r_xL => k_is)
    (case r_xsa => k_is)
    (case r_xe => k_is)
    (case r_xt => k_is)
    (case r_xk => k_is)
    (case r_xn => k_is)
    (case r_xga => k_is)
    (case r_xgg => k_is)
    (case r_xhd => k_is)
    (case r_xca => k_is)
    (case r_xhm => k_is)
    (case r_xic => k_is)
    (case r_xs => k_is)
    (case r_xf => k_is)
    (case r_xv => k_is)
    (case r_fic => k_is)
    (case r_ftc => k_is)
    (case a_is_integral => k_is)
    (case l_is_integral => k_is)
    (case d_is_integral => k_is)
    (case k_is_integral => k_is)
    (case a_BadNumber_init => k_is)
    (case t_BadNumber_init => k_is)
    (case l_BadNumber_init => k_is)
    (case d_BadNumber_init => k_is)
    (case k_BadNumber_init => k_is)
    (case a_Root_init => k_is)
    (case i_Root_init => k_is)
    (case mk_Root_init => k_is)
    (case kc_Root_init => k_is)
    (case l_Root_init => k_is)
    (case d_Root_init => k_is)
    (case k_Root_init => k_is)
    (case a_Root_eq => k_is)
    (case i_Root_eq => k_is)
    (case l_Root_eq => k_is)
    (case d_Root_eq => k_is)
    (case k_Root_eq => k_is)
    (case a_Root_neg => k_is)
    (case i_Root_neg => k_is)
    (case l_Root_neg => k_is)
    (case d_Root_neg => k_is)
    (case k_Root_neg => k_is)
    (case a_is_number => k_is)
    (case l_is_number => k_is)
    (case d_is_number => k_is)
    (case k_is_number => k_is)
    (case a_as_root => k_is)
    (case l_as_root => k_is)
    (case d_as_root => k_is)
    (case k_as_root => k_is)
    (case a_surd_sign => k_is)
    (case l_surd_sign => k_is)
    (case d_surd_sign => k_is)
    (case k_surd_sign => k_is)
    (case a_Root_add => k_is)
    (case i_Root_add => k_is)
    (case l_Root_add => k_is)
    (case d_Root_add => k_is)
    (case k_Root_add => k_is)
    (case a_Root_sub => k_is)
    (case i_Root_sub => k_is)
    (case l_Root_sub => k_is)
    (case d_Root_sub => k_is)
    (case k_Root_sub => k_is)
    (case a_Root_mul => k_is)
    (case i_Root_mul => k_is)
    (case l_Root_mul => k_is)
    (case d_Root_mul => k_is)
    (case k_Root_mul => k_is)
    (case a_Root_radd => k_is)
    (case i_Root_radd => k_is)
    (case l_Root_radd => k_is)
    (case d_Root_radd => k_is)
    (case k_Root_radd => k_is)
    (case a_Root_rmul => k_is)
    (case i_Root_rmul => k_is)
    (case l_Root_rmul => k_is)
    (case d_Root_rmul => k_is)
    (case k_Root_rmul => k_is)
    (case a_Root_rsub => k_is)
    (case i_Root_rsub => k_is)
    (case l_Root_rsub => k_is)
    (case d_Root_rsub => k_is)
    (case k_Root_rsub => k_is)
    (case a_Root_less => k_is)
    (case i_Root_less => k_is)
    (case l_Root_less => k_is)
    (case d_Root_less => k_is)
    (case k_Root_less => k_is)
    (case a_surd_whole => k_is)
    (case l_surd_whole => k_is)
    (case d_surd_whole => k_is)
    (case k_surd_whole => k_is)
    (case a_Root_sign => k_is)
    (case i_Root_sign => k_is)
    (case l_Root_sign => k_is)
    (case d_Root_sign => k_is)
    (case k_Root_sign => k_is)
    (case a_Root_whole => k_is)
    (case i_Root_whole => k_is)
    (case l_Root_whole => k_is)
    (case d_Root_whole => k_is)
    (case k_Root_whole => k_is)
    (case a_Root_nearest => k_is)
    (case i_Root_nearest => k_is)
    (case l_Root_nearest => k_is)
    (case d_Root_nearest => k_is)
    (case k_Root_nearest => k_is)
    (case a__law_start => k_is)
    (case l__law_start => k_is)
    (case d__law_start => k_is)
    (case k__law_start => k_is)
    (case a__law_mixed => k_is)
    (case l__law_mixed => k_is)
    (case d__law_mixed => k_is)
    (case k__law_mixed => k_is)
    (case a__law_draw => k_is)
    (case l__law_draw => k_is)
    (case d__law_draw => k_is)
    (case k__law_draw => k_is)
    (case a__law_between => k_is)
    (case l__law_between => k_is)
    (case d__law_between => k_is)
    (case k__law_between => k_is)
    (case a__law_flag => k_is)
    (case l__law_flag => k_is)
    (case d__law_flag => k_is)
    (case k__law_flag => k_is)
    (case a__law_plus => k_is)
    (case l__law_plus => k_is)
    (case d__law_plus => k_is)
    (case k__law_plus => k_is)
    (case a__law_minus => k_is)
    (case l__law_minus => k_is)
    (case d__law_minus => k_is)
    (case k__law_minus => k_is)
    (case a__law_times => k_is)
    (case l__law_times => k_is)
    (case d__law_times => k_is)
    (case k__law_times => k_is)
    (case a__law_sign => k_is)
    (case l__law_sign => k_is)
    (case d__law_sign => k_is)
    (case k__law_sign => k_is)
    (case a__law_is_integer => k_is)
    (case l__law_is_integer => k_is)
    (case d__law_is_integer => k_is)
    (case k__law_is_integer => k_is)
    (case a__law_number => k_is)
    (case l__law_number => k_is)
    (case d__law_number => k_is)
    (case k__law_number => k_is)
    (case a__law_wholes => k_is)
    (case l__law_wholes => k_is)
    (case d__law_wholes => k_is)
    (case k__law_wholes => k_is)
    (case a_law => k_is)
    (case l_law => k_is)
    (case d_law => k_is)
    (case k_law => k_is)
