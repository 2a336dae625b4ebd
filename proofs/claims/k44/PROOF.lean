import PyProof.Rows.All
import Wide.All
import OpenK.AllK
import Wide.FinOn
import HandS.ForMost
import HandS.ForExc
import HandS.ExcInit
import HandS.ExcField
import HandS.ExcIs
import HandS.IsInst
import HandS.Style
import HandS.Wide
import HandS.Gcd
import PySem.Challenge.RW_roomlooks_k44_fractions
set_option Elab.async false
set_option linter.all false
set_option maxRecDepth 100000
set_option maxHeartbeats 2000000
/-! RKit: what several laws share. -/
namespace RK
open PySem PySem.Spec PyProof.Rows L2
/-! ### division of great ints by any divisor -/
def DivAny (_ j : Int) : Prop := j ≠ 0 ∧ j.natAbs.log2 < 9000
section
variable {X : Cx}
theorem op_fdivA : OpR X (binaryOp .FloorDiv) (rI DivAny fun i j => .int (Int.fdiv i j)) :=
  opI fun _ _ _ _ _ _ _ hc q => floordiv_int hc.1 q (.inl (PyProof.noPylong_of_log2 hc.2))
end
theorem divAny {i j : Int} {b : Nat} (h : j ≠ 0) (hb : j.natAbs < 2 ^ b) (h0 : 0 < b) (h9 : b ≤ 9000) : DivAny i j :=
  ⟨h, Nat.lt_of_lt_of_le (PySem.Flt.log2_lt_of h0 hb) h9⟩
/-! ### calls by keywords alone; the same where what is raised is wished for at the slots -/
section
variable {X : Cx} {CXt : CXT} {k : Nat} {f : Addr} {fd : FuncData} {ps ks : List Str} {sp : Sp} {x : Str} {p pos : Pos} {kws : List Keyword} {tk : TA}
  {g : List Value → List Value → List Value} {gV : List V → List V → List V}
theorem pe_kw0 {E : XK} (F : FnOk X.prog X.w X.K X.mg X.base CXt k f fd ps sp) (hr : Room k X.A) (hg : Gl X x) (hm : X.mg x = some (.ref f))
    (hk : PySem.W.keepIn X.K (.ref f) = true) (hb : KBinds X.K fd ps ks g gV) (hx : Passes CXt X E) (hkw : PK X kws tk)
    (hall : (backToKw pos (keywordEach kws X.env)).all (·.1.isSome) = true := by rfl)
    (hks : (backToKw pos (keywordEach kws X.env)).filterMap (·.1) = ks := by rfl)
    (hdb : (x == ("__debug__" : Str)) = false := by decide)
    (hpl : ((backTo pos (starEach [] X.env)).any (·.1) || (backToKw pos (keywordEach kws X.env)).any (·.1.isNone)) = false := by rfl) :
    PE X (.Call (.Name x p) [] kws pos) (tCallK sp gV E tNil tk) := ⟨fun pins s σ H Q I h => by
  refine wpAny_Call_Name_kw (ld_glob I hg hm ?_ hdb)
  refine PySem.W.callWith_KW0 (h₀ := X.base) I.ok.mod.kin hk hall ?_ hpl
  refine thn (hkw.run pos pins s σ H _ I h) fun ws s2 ⟨zs, H2, I2, rz, q2⟩ => ⟨I2.kIn, ?_⟩
  rw [hks]
  exact run_fnk F hr hb hx I2 .nil rz q2⟩
def tCallKS (sp : Sp) (gV : List V → List V → List V) (E : L2.St → XK) (t tk : TA) : TE := fun σ H Q => t σ H fun vs H1 => tk σ H1 fun zs H2 => sp (gV vs zs) H2 Q (E σ)
theorem run_kwS {E : L2.St → XK} {pins : List (Addr × Obj)} {σ : L2.St} {H : Hp} {s : Shared} {Q : VK} {us ws : List Value} {vs zs : List V}
    (F : FnOk X.prog X.w X.K X.mg X.base CXt k f fd ps sp) (hr : Room k X.A) (hb : KBinds X.K fd ps ks g gV) (hx : PassesAt CXt X σ (E σ))
    (I : Inv X pins σ H s) (r : Vals vs us) (rz : Vals zs ws) (h : sp (gV vs zs) H Q (E σ)) : wpAny (model X.prog X.w) X.A (call (.ref f) us (ks.zip ws)) (EP X pins σ Q) X.xe s := by
  have r2 := hb.rel r rz
  have hl : (g us ws).length = ps.length := r2.length.symm.trans (F.len _ _ _ _ h)
  have b := hb.to s us ws I.kIn hl
  refine wpAny_call (codeAny_mono (F.run X.A X.stack s H ⟨us, ks.zip ws⟩ (g us ws) (gV vs zs) Q (E σ) hr I.env0 b r2 h) ?_)
  intro r s' hq
  match r, hq with
  | .error e, hq => exact hx pins H s e s' I hq
  | .ok (.ret u), hq => exact I.after hq
theorem pe_kw0S {E : L2.St → XK} (F : FnOk X.prog X.w X.K X.mg X.base CXt k f fd ps sp) (hr : Room k X.A) (hg : Gl X x) (hm : X.mg x = some (.ref f))
    (hk : PySem.W.keepIn X.K (.ref f) = true) (hb : KBinds X.K fd ps ks g gV) (hx : ∀ σ, PassesAt CXt X σ (E σ)) (hkw : PK X kws tk)
    (hall : (backToKw pos (keywordEach kws X.env)).all (·.1.isSome) = true := by rfl)
    (hks : (backToKw pos (keywordEach kws X.env)).filterMap (·.1) = ks := by rfl)
    (hdb : (x == ("__debug__" : Str)) = false := by decide)
    (hpl : ((backTo pos (starEach [] X.env)).any (·.1) || (backToKw pos (keywordEach kws X.env)).any (·.1.isNone)) = false := by rfl) :
    PE X (.Call (.Name x p) [] kws pos) (tCallKS sp gV E tNil tk) := ⟨fun pins s σ H Q I h => by
  refine wpAny_Call_Name_kw (ld_glob I hg hm ?_ hdb)
  refine PySem.W.callWith_KW0 (h₀ := X.base) I.ok.mod.kin hk hall ?_ hpl
  refine thn (hkw.run pos pins s σ H _ I h) fun ws s2 ⟨zs, H2, I2, rz, q2⟩ => ⟨I2.kIn, ?_⟩
  rw [hks]
  exact run_kwS F hr hb (hx σ) I2 .nil rz q2⟩
end
/-! ### own errors of one field -/
/-- what is known of the class at C of errors with the one field f, whose __init__ stands at fI -/
structure ErrC (K : PySem.W.Frag) (mg : Str → Option Value) (x f : Str) (C fI : Addr) : Prop where
  gC : mg x = some (.ref C)
  oex : OexC K C
  xf : XfC K C
  exc : ExcC K C
  no : PySem.W.findIn K (.ref C) f = some none
  ini : PySem.W.findIn K (.ref C) "__init__" = some (some (.ref fI))
  tyI : PySem.W.typeIn K (.ref fI) = some (.type "function")
/-- __init__'s promise -/
def spIni (K : PySem.W.Frag) (f : Str) : Sp := fun vs H Q _ => ∃ (a C : Addr) (w : V), vs = [.ref a, w] ∧ OexC K C ∧ PySem.W.findIn K (.ref C) f = some none ∧ H a = some (exo a C none) ∧
  ∀ dx, H dx = none → dx ≠ a → Q .non (upd (upd H dx (exd dx [(f, w)])) a (exo a C (some dx)))
theorem upd_back {H : Hp} {a d : Addr} {o u w z : HO} (ha : H a = none) (hd : d ≠ a) : upd (del (upd (upd (upd H a o) d u) a w) a) d z = upd H d z := by
  funext b
  by_cases e : b = d
  · rw [e, upd_same, upd_same]
  · rw [upd_ne e, upd_ne e]
    by_cases e2 : b = a
    · rw [e2, del_same, ha]
    · rw [del_ne e2, upd_ne e2, upd_ne e, upd_ne e2]
/-- raise X(e): what stands behind e's reading, from what the error's new dict d leaves -/
theorem raise1 {K : PySem.W.Frag} {f : Str} {C : Addr} {H : Hp} {v : V} {Wd : XK} (T : OexC K C) (no : PySem.W.findIn K (.ref C) f = some none)
    (h : ∀ d, H d = none → Wd (.ref C) (some d) (upd H d (.xd [(f, v)]))) :
    ([v] : List V).length ≤ 1000 ∧ ∀ a, H a = none → spIni K f (.ref a :: ([v] ++ [])) (upd H a (exo a C none))
      (fun u H2 => u = .non ∧ ∃ (d : Addr) (fs : List (Str × V)), H2 a = some (exo a C (some d)) ∧ H2 d = some (exd d fs) ∧ H d = none ∧ Wd (.ref C) (some d) (upd (del H2 a) d (.xd fs))) (fun _ _ _ => False) := by
  refine ⟨by show 1 ≤ 1000; decide, fun a ha => ⟨a, C, v, rfl, T, no, upd_same, fun dx hdx hne => ⟨rfl, dx, [(f, v)], upd_same, ?_, ?_, ?_⟩⟩⟩
  · rw [upd_ne hne, upd_same]
  · rw [upd_ne hne] at hdx
    exact hdx
  · rw [upd_ne hne] at hdx
    rw [upd_back ha hne]
    exact h dx hdx
section
variable {X : Cx} {CXt : CXT} {C fI : Addr} {fd : FuncData} {f x : Str} {p pos pos' : Pos} {k : Nat} {e : Expr} {te : TE} {W : WX}
theorem ps_raise1 (T : ErrC X.K X.mg x f C fI) (F1 : FnOk X.prog X.w X.K X.mg X.base CXt k fI fd ["self", f] (spIni X.K f)) (hr : Room (k + 1) X.A)
    (hb : L2.Binds X.K fd ["self", f] []) (hx : Passes CXt X (fun _ _ _ => False)) (hc : X.calm = true) (tk : Takes X W) (he : PE X e te) (hg : Gl X x := by rfl)
    (hdb : (x == ("__debug__" : Str)) = false := by decide)
    (hst : starEach [e] X.env = (false, eval e X.env) :: starEach [] X.env := by rfl) (hpl : (backTo pos (starEach [] X.env)).any (·.1) = false := by rfl) :
    PS X (.Raise (some (.Call (.Name x p) [e] [] pos)) none pos') (fun _ σ H => tMkO C (spIni X.K f) [] (tCons te tNil) σ H fun cls d H' => W cls d σ H') :=
  ps_raise (pos := pos') hc tk (pmk_oex (p := p) T.oex T.ini T.tyI F1 hr hb .nil hx hg T.gC (pa_cons he (pa_nil) (hs := hst)) hdb hst hpl)
end
/-! ### isinstance of a caught error that has its own dict -/
section
open PySem.W PySem.Calls
variable {prog : Program} {w : World} {A : Around} {E : Value → Shared → Prop} {s : Shared} {K : Frag} {x D : Addr} {ox : Obj} {od : Option Obj}
theorem find_data {C : Addr} {nm : Str} {at_ gt : Value} (hc : (clsIn K C).isSome = true) (ha : findIn K (.ref C) nm = some (some at_)) (hg : specialIn K at_ "__get__" = some (some gt))
    (ht : takesIn K at_ = some true) : findObj K C od nm = some (.bind gt at_) := by
  obtain ⟨cd, e⟩ := Option.isSome_iff_exists.mp hc; unfold findObj; rw [e, Option.bind_some, ha]
  simp only [Option.bind_some, hg, ht]
/-- err.__class__, err an error of the own class at D with its dict -/
theorem cls_of_err {Q : Option Value → Shared → Prop} (T : ExcC K D) (X : K.In s.heap) (I : InstAt s.heap x ox D od) (h : Q (some (.ref D)) { s with toks := s.toks + 1 }) :
    wpAny (model prog w) A (getAttr? (.ref x) "__class__") Q E s := by
  have ic : (clsIn K D).isSome = true := by obtain ⟨cd, hc, _⟩ := any_some T.hd; rw [hc]; rfl
  have hf : findObj K D od "__class__" = some (.bind (.builtin "getset_descriptor.__get__") (.builtin "object.__class__")) := find_data ic T.ha T.hn T.ht
  obtain ⟨hp, g, dr, t, os⟩ := s
  have l0 := I.type (M := model prog w); have l1 := looks_findIn (M := model prog w) X T.hg; have l2 := looks_findIn (M := model prog w) X T.hk
  have l3 := looks_find (M := model prog w) X I hf
  have sb : Looks (model prog w) hp (isInstance (.ref x) (.type "BaseException")) true := l0.andThen (looks_subIn X T.hs)
  have n0 : (false && onTheHeap (Value.builtin "BaseException.__getattribute__")) = false := rfl
  have n1 : (onTheHeap (Value.ref D) && Value.builtin "BaseException.__getattribute__" == Value.builtin "object.__getattribute__") = false := by
    have n2 : (Value.builtin "BaseException.__getattribute__" == Value.builtin "object.__getattribute__") = false := by decide +kernel
    rw [n2, Bool.and_false]
  unfold getAttr? getAttrBy? getAttrBy; refine wpAny_bind (wpAny_mkText ?_)
  refine wpAny_bind (wpAny_attempt (wpAny_holding (wpAny_bind (l0.at (wpAny_bind (l1.at ?_))))))
  change wpAny _ _ (if (onTheHeap (Value.ref D) && Value.builtin "BaseException.__getattribute__" == Value.builtin "object.__getattribute__") = true then _ else _) _ _ _
  rw [n1, if_neg Bool.false_ne_true]; unfold getAttrByItsOwn hookBefore; refine wpAny_bind ?_
  rw [if_pos (show onTheHeap (Value.ref D) = true from rfl)]; refine l2.at (wpAny_bind (wpAny_attempt (wpAny_holding ?_)))
  unfold callGetattribute; rw [n0, if_neg Bool.false_ne_true]; unfold boundAndCalled
  rw [PySem.F.excAttr_ValueError.ga.bind (.ref x)]; refine wpAny_bind (wpAny_pure ?_)
  change wpAny _ _ (call (.builtin "BaseException.__getattribute__") [.ref x, .str "__class__" t]) _ _ _
  refine wpAny_call (codeAny_call_builtin PySem.F.excAttr_ValueError.ga.plain PySem.F.entry_bexc_ga
    (@check_slot (model prog w) _ _ ⟨hp, g, dr, t + 1, os⟩ "BaseException.__getattribute__" "BaseException" "__getattribute__" (.ref x) [.str "__class__" t] [] _
      (by decide +kernel) (by decide +kernel) sb (PySem.F.args_bexc_ga (.ref x) (.str "__class__" t)) ?_))
  unfold Builtin.«object.__getattribute__»
  refine wpAny_bind (wpAny_of_eq (a := ((Value.ref x : Value), [Value.str "__class__" t])) (by first | rfl | (simp only [slotArgs]; rfl)) (wpAny_bind (wpAny_pure (wpAny_bind (l0.at (wpAny_bind (l3.at ?_)))))))
  change wpAny _ _ (holding [Value.builtin "object.__class__"] (call (.builtin "getset_descriptor.__get__") [.builtin "object.__class__", .ref x, .ref D]) >>= ret) _ _ _
  refine wpAny_bind (wpAny_holding (wpAny_call (class_get (s := ⟨hp, g, dr, t + 1, os⟩) (ox := ox) (od := od) X I T.hm (wpAny_pure ?_))))
  change wpAny _ _ (handedOut (.ref D)) _ _ _
  rw [handedOut_of (v := .ref D) rfl]
  first | exact wpAny_pure (wpAny_pure h) | exact wpAny_pure h | exact wpAny_pure (wpAny_bind (wpAny_pure (wpAny_pure h)))
theorem kit_err (T : ExcC K D) : KitX K (.ref x) (.ref D) (fun h => InstAt h x ox D od) where
  ty := fun _ _ _ I => I.type
  it := fun _ _ X _ => by
    obtain ⟨cd, hc, _⟩ := any_some T.hd
    unfold clsIn at hc; split at hc
    · rename_i c' d' cd' sl' ho
      intro A' Q' E' s' kk q; unfold isType loadHead; exact wpAny_bind (wpAny_loadPart (kk _ _ (X _ _ ho)) (wpAny_pure q))
    · cases hc
  ne := fun h tp dd its n sl X htp => by
    obtain ⟨cd, hc, _⟩ := any_some T.hd
    cases q : (Value.ref D == Value.ref tp) with
    | false => rfl
    | true =>
      cases (Value.ref.inj (beq_iff_eq.mp q) : D = tp)
      unfold clsIn at hc; split at hc
      · rename_i c' d' cd' sl' ho
        cases (X _ _ ho).symm.trans htp
      · cases hc
  ca := fun X I kk => cls_of_err T X I kk
end
/-- isinstance(e, c), e the error that the suite holds (its class cls, its own dict d) -/
def rIsErr (K : PySem.W.Frag) (D a : Addr) (cls : Value) (d : Option Addr) : List V → Hp → VK → Prop := fun xs H Q => ∃ (c : V) (cv : Value) (b : Bool) (dd : Addr) (fs : List (Str × V)),
  xs = [.ref a, c] ∧ cls = .ref D ∧ d = some dd ∧ ClsV c cv ∧ H dd = some (.xd fs) ∧ PySem.W.kitOne K (.ref D) cv = some b ∧ Q (.bl b) H
theorem call_isErr {X : Cx} {a D : Addr} {cls : Value} {d : Option Addr} {oe : Obj} {pn : List (Addr × Obj)} (C : ExcC X.K D) (hz : Zc cls d oe) (hf : ∃ vs, oe.data = .fields vs) :
    CallR (X.suite a ((a, oe) :: pn)) (.builtin "isinstance") (rIsErr X.K D a cls d) := by
  intro pins s σ H xs us Q I r h
  obtain ⟨c, cv, b, dd, fs, rfl, ec, ed, hcv, hx, e, q⟩ := h
  subst ec ed
  obtain ⟨u1, u2, rfl, r1, r2⟩ := vals2 r
  cases (show u1 = Value.ref a from r1)
  have e2 := hcv.eq r2
  subst e2
  obtain ⟨hget, _⟩ := I.pin (a, oe) (List.mem_append.mpr (.inl List.mem_cons_self))
  obtain ⟨vs, hv⟩ := hf
  obtain ⟨mA, hns, hr⟩ := (show ObjOk X.prog X.w H s.heap dd (.xd fs) from I.hok dd _ hx)
  obtain ⟨od, ho, _⟩ := lookIn_ns hns
  have J : PySem.W.InstAt s.heap a oe D (some od) := ⟨hget, hz.1, by unfold PySem.W.notCls; rw [hv] <;> rfl, by rw [hz.2]; exact ho⟩
  exact PySem.W.kia_one (kit_err C) I.kIn J e (fun z => nomatch z) fun tk => ⟨.bl b, H, I.kept (t' := tk) fun _ _ z => z, rfl, q⟩
/-! ### heaps -/
/-- all that was tracked is as it was, but at p -/
def Kp (p : Addr) (H H' : Hp) : Prop := ∀ b o, H b = some o → b ≠ p → H' b = some o
theorem Kp.refl (p : Addr) (H : Hp) : Kp p H H := fun _ _ h _ => h
theorem Kp.trans {p : Addr} {H H1 H2 : Hp} (a : Kp p H H1) (b : Kp p H1 H2) : Kp p H H2 := fun c o h n => b c o (a c o h n) n
theorem Kp.of {p : Addr} {H H1 : Hp} (a : Same H H1) : Kp p H H1 := fun c o h _ => a c o h
theorem Kp.seqL {K : PySem.W.Frag} {p a : Addr} {H H' : Hp} {xs : List V} (e : Kp p H H') (h : SqL K H a xs) (n : a ≠ p) : SqL K H' a xs := by
  rcases h with (h | ⟨o, h⟩) | h
  · exact .inl (.inl (e _ _ h n))
  · exact .inl (.inr ⟨o, e _ _ h n⟩)
  · exact .inr h
theorem Same.upd {H : Hp} {p : Addr} {o : HO} (h : H p = none) : Same H (L2.upd H p o) := fun b u e => by
  rw [upd_ne (ne_of_none e h)]
  exact e
theorem Same.updAt {H H1 : Hp} {p : Addr} {o : HO} (s : Same H H1) (h : H p = none) : Same H (L2.upd H1 p o) := fun b u e => by
  rw [upd_ne (ne_of_none e h)]
  exact s b u e
end RK
namespace RK
open PySem PySem.Spec PyProof.Rows L2
/-- what is known of a value's kind stays known -/
theorem TyX.mono {K : PySem.W.Frag} {H H' : Hp} (S : Same H H') {v : V} {t : Value} (h : TyX K H v t) : TyX K H' v t := by
  cases h with
  | base b =>
    refine .base ?_
    cases b with
    | non => exact .non
    | bl x => exact .bl x
    | int i => exact .int i
    | str x => exact .str x
    | flt x => exact .flt x
    | lst e => exact .lst (S _ _ e)
    | frz e => exact .frz (S _ _ e)
    | tup e => exact .tup (S _ _ e)
    | dK e => exact .dK (S _ _ e)
    | dT e => exact .dT (S _ _ e)
    | ins e cl ha hn ht hm => exact .ins (S _ _ e) cl ha hn ht hm
  | byt b => exact .byt b
  | set e => exact .set (S _ _ e)
  | kList e c => exact .kList e c
  | kTuple e c => exact .kTuple e c
  | kDict e c => exact .kDict e c
  | fTuple e => exact .fTuple (S _ _ e)
  | fDict e => exact .fDict (S _ _ e)
end RK
/-! ### a def that is called, in one piece: where it stands, its promise, how its arguments bind -/
namespace RK
open PySem PySem.Spec PyProof.Rows L2
structure Cl (P : Program) (w : World) (K : PySem.W.Frag) (mg : Str → Option Value) (base : Heap) (CXt : CXT) (k : Nat) (x : Str) (ps : List Str) (sp : Sp) : Prop where
  ex : ∃ (f : Addr) (fd : FuncData), FnOk P w K mg base CXt k f fd ps sp ∧ mg x = some (.ref f) ∧ PySem.W.keepIn K (.ref f) = true ∧ L2.Binds K fd ps []
/-- the same, called by keywords ks alone -/
structure Ck (P : Program) (w : World) (K : PySem.W.Frag) (mg : Str → Option Value) (base : Heap) (CXt : CXT) (k : Nat) (x : Str) (ps ks : List Str) (gV : List V → List V → List V) (sp : Sp) : Prop where
  ex : ∃ (f : Addr) (fd : FuncData) (g : List Value → List Value → List Value), FnOk P w K mg base CXt k f fd ps sp ∧ mg x = some (.ref f) ∧ PySem.W.keepIn K (.ref f) = true ∧ KBinds K fd ps ks g gV
section
variable {X : Cx} {CXt : CXT} {j k : Nat} {ps ks : List Str} {sp : Sp} {x : Str} {p pos : Pos} {e : Expr} {es : List Expr} {t tk : TA} {kws : List Keyword} {gV : List V → List V → List V}
theorem pe_f {E : XK} (c : Cl X.prog X.w X.K X.mg X.base CXt k x ps sp) (hr : Room j X.A) (hk : k ≤ j) (hx : Passes CXt X E) (ha : PA X (e :: es) t) (hg : Gl X x := by rfl)
    (hdb : (x == ("__debug__" : Str)) = false := by decide) (he : starEach (e :: es) X.env = (false, eval e X.env) :: starEach es X.env := by rfl) (hpl : (backTo pos (starEach es X.env)).any (·.1) = false := by rfl) :
    PE X (.Call (.Name x p) (e :: es) [] pos) (tCall sp [] E t) := by
  obtain ⟨f, fd, F, hm, kp, b⟩ := c.ex
  exact pe_call F (hr.mono hk) hg hm kp b .nil hx ha hdb he hpl
theorem pe_fS {E : L2.St → XK} (c : Cl X.prog X.w X.K X.mg X.base CXt k x ps sp) (hr : Room j X.A) (hk : k ≤ j) (hx : ∀ σ, PassesAt CXt X σ (E σ)) (ha : PA X (e :: es) t) (hg : Gl X x := by rfl)
    (hdb : (x == ("__debug__" : Str)) = false := by decide) (he : starEach (e :: es) X.env = (false, eval e X.env) :: starEach es X.env := by rfl) (hpl : (backTo pos (starEach es X.env)).any (·.1) = false := by rfl) :
    PE X (.Call (.Name x p) (e :: es) [] pos) (tCallS sp E t) := by
  obtain ⟨f, fd, F, hm, kp, b⟩ := c.ex
  exact pe_callS F (hr.mono hk) hg hm kp b hx ha hdb he hpl
theorem pe_k {E : XK} (c : Ck X.prog X.w X.K X.mg X.base CXt k x ps ks gV sp) (hr : Room j X.A) (hk : k ≤ j) (hx : Passes CXt X E) (hkw : PK X kws tk) (hg : Gl X x := by rfl)
    (hall : (backToKw pos (keywordEach kws X.env)).all (·.1.isSome) = true := by rfl)
    (hks : (backToKw pos (keywordEach kws X.env)).filterMap (·.1) = ks := by rfl)
    (hdb : (x == ("__debug__" : Str)) = false := by decide)
    (hpl : ((backTo pos (starEach [] X.env)).any (·.1) || (backToKw pos (keywordEach kws X.env)).any (·.1.isNone)) = false := by rfl) :
    PE X (.Call (.Name x p) [] kws pos) (tCallK sp gV E tNil tk) := by
  obtain ⟨f, fd, g, F, hm, kp, b⟩ := c.ex
  exact pe_kw0 F (hr.mono hk) hg hm kp b hx hkw hall hks hdb hpl
theorem pe_kS {E : L2.St → XK} (c : Ck X.prog X.w X.K X.mg X.base CXt k x ps ks gV sp) (hr : Room j X.A) (hk : k ≤ j) (hx : ∀ σ, PassesAt CXt X σ (E σ)) (hkw : PK X kws tk) (hg : Gl X x := by rfl)
    (hall : (backToKw pos (keywordEach kws X.env)).all (·.1.isSome) = true := by rfl)
    (hks : (backToKw pos (keywordEach kws X.env)).filterMap (·.1) = ks := by rfl)
    (hdb : (x == ("__debug__" : Str)) = false := by decide)
    (hpl : ((backTo pos (starEach [] X.env)).any (·.1) || (backToKw pos (keywordEach kws X.env)).any (·.1.isNone)) = false := by rfl) :
    PE X (.Call (.Name x p) [] kws pos) (tCallKS sp gV E tNil tk) := by
  obtain ⟨f, fd, g, F, hm, kp, b⟩ := c.ex
  exact pe_kw0S F (hr.mono hk) hg hm kp b hx hkw hall hks hdb hpl
end
/-- keywords in the parameters' own order, nothing else -/
def kwId {α : Type} : List α → List α → List α
  | [], ws => ws
  | _ :: _, _ => []
/-- two keywords, the second parameter's first -/
def kwSw {α : Type} : List α → List α → List α
  | [], [y, x] => [x, y]
  | _, _ => []
theorem kwId_rel {vs : List V} {us : List Value} {zs : List V} {ws : List Value} (r : Vals vs us) (rz : Vals zs ws) : Vals (kwId vs zs) (kwId us ws) := by
  cases r with
  | nil => exact rz
  | cons _ _ => exact .nil
theorem kwSw_rel {vs : List V} {us : List Value} {zs : List V} {ws : List Value} (r : Vals vs us) (rz : Vals zs ws) : Vals (kwSw vs zs) (kwSw us ws) := by
  cases r with
  | cons _ _ => exact .nil
  | nil =>
    cases rz with
    | nil => exact .nil
    | cons a rz =>
      cases rz with
      | nil => exact .nil
      | cons b rz =>
        cases rz with
        | nil => exact .cons b (.cons a .nil)
        | cons _ _ => exact .nil
theorem fun_kb {K : PySem.W.Frag} {x qual : Str} {st : Stmt} {f : Addr} {fd : FuncData} {ps ks : List Str} {g : List Value → List Value → List Value} {gV : List V → List V → List V} (F : Fun K x qual st f fd)
    (rel : ∀ {vs : List V} {us : List Value} {zs : List V} {ws : List Value}, Vals vs us → Vals zs ws → Vals (gV vs zs) (g us ws))
    (h : ∀ (kV doc pm : Value) (an : Option Addr) (cdv ct : Value) (us ws : List Value), (g us ws).length = ps.length →
      bindArgs (PySem.W.fnOf x qual (defArgs st) (defBody st) (defScope st) .none kV doc pm an cdv ct) ⟨us, ks.zip ws⟩ = pure (ps.zip (g us ws))) : KBinds K fd ps ks g gV := by
  obtain ⟨oc, od, kV, doc, pm, an, cdv, ct, osl, rfl, lk, hcd⟩ := F.ex
  exact ⟨fun s us ws _ hl => .of_eq (h kV doc pm an cdv ct us ws hl), rel⟩
theorem Cl.of {P : Program} {w : World} {K : PySem.W.Frag} {mg : Str → Option Value} {base : Heap} {CXt : CXT} {k : Nat} {x : Str} {ps : List Str} {sp : Sp} {f : Addr} {fd : FuncData} {qual : Str} {st : Stmt}
    (F : Fun K x qual st f fd) (hm : mg x = some (.ref f)) (G : FnOk P w K mg base CXt k f fd ps sp) (b : L2.Binds K fd ps []) : Cl P w K mg base CXt k x ps sp := ⟨f, fd, G, hm, F.kp, b⟩
theorem Ck.of {P : Program} {w : World} {K : PySem.W.Frag} {mg : Str → Option Value} {base : Heap} {CXt : CXT} {k : Nat} {x : Str} {ps ks : List Str} {gV : List V → List V → List V} {sp : Sp} {f : Addr} {fd : FuncData} {qual : Str} {st : Stmt} {g : List Value → List Value → List Value}
    (F : Fun K x qual st f fd) (hm : mg x = some (.ref f)) (G : FnOk P w K mg base CXt k f fd ps sp) (b : KBinds K fd ps ks g gV) : Ck P w K mg base CXt k x ps ks gV sp := ⟨f, fd, g, G, hm, F.kp, b⟩
end RK
/-! ### what is sure of an expression, a test, from a heap on: it only adds objects -/
namespace RK
open PySem PySem.Spec PyProof.Rows L2
/-- te gives from H on some v with R v, and what was tracked stays -/
def Go (σ : L2.St) (H : Hp) (te : TE) (R : V → Hp → Prop) : Prop := ∀ H1, L2.Same H H1 → ∀ Q : VK, (∀ v H2, L2.Same H1 H2 → R v H2 → Q v H2) → te σ H1 Q
/-- a test's answer is b -/
def GoT (σ : L2.St) (H : Hp) (t : TT) (b : Bool) : Prop := ∀ H1, L2.Same H H1 → ∀ Q : Bool → Hp → Prop, (∀ H2, L2.Same H1 H2 → Q b H2) → t σ H1 Q
def IsB (b : Bool) : V → Hp → Prop := fun v _ => v = .bl b
def IsZ (z : Int) : V → Hp → Prop := fun v _ => v = .int z
section
variable {σ : L2.St} {H H' : Hp} {te ta tb : TE} {t u : TT} {b c : Bool} {i : Nat} {v : V} {R : V → Hp → Prop} {x y z : Int}
theorem Go.mono (a : Go σ H te R) (S : L2.Same H H') : Go σ H' te R := fun H1 S1 => a H1 (S.trans S1)
theorem Go.imp {R' : V → Hp → Prop} (a : Go σ H te R) (h : ∀ v H, R v H → R' v H) : Go σ H te R' := fun H1 S Q q => a H1 S Q fun v H2 S2 r => q v H2 S2 (h v H2 r)
theorem GoT.mono (a : GoT σ H t b) (S : L2.Same H H') : GoT σ H' t b := fun H1 S1 => a H1 (S.trans S1)
theorem go_var (hs : σ[i]? = some (some v)) (h : ∀ H1, L2.Same H H1 → R v H1) : Go σ H (tVar i) R := fun H1 S _ q => ⟨v, hs, q v H1 (L2.Same.refl H1) (h H1 S)⟩
theorem go_c (h : ∀ H1, L2.Same H H1 → R v H1) : Go σ H (tC v) R := fun H1 S _ q => q v H1 (L2.Same.refl H1) (h H1 S)
theorem goz_var (hs : σ[i]? = some (some (.int z))) : Go σ H (tVar i) (IsZ z) := go_var hs fun _ _ => rfl
theorem goz_c : Go σ H (tC (.int z)) (IsZ z) := go_c fun _ _ => rfl
theorem gob_c : Go σ H (tC (.bl b)) (IsB b) := go_c fun _ _ => rfl
theorem goz_add (a : Go σ H ta (IsZ x)) (b : Go σ H tb (IsZ y)) : Go σ H (tOp (rI0 fun i j => .int (i + j)) ta tb) (IsZ (x + y)) := fun H1 S Q q =>
  a H1 S _ fun _ H2 S2 e => b H2 (S.trans S2) _ fun _ H3 S3 e2 => ⟨x, y, e, e2, q _ H3 (S2.trans S3) rfl⟩
theorem goz_sub (a : Go σ H ta (IsZ x)) (b : Go σ H tb (IsZ y)) : Go σ H (tOp (rI0 fun i j => .int (i - j)) ta tb) (IsZ (x - y)) := fun H1 S Q q =>
  a H1 S _ fun _ H2 S2 e => b H2 (S.trans S2) _ fun _ H3 S3 e2 => ⟨x, y, e, e2, q _ H3 (S2.trans S3) rfl⟩
theorem goz_mulW (a : Go σ H ta (IsZ x)) (b : Go σ H tb (IsZ y)) (h : CMulW x y) : Go σ H (tOp (rI CMulW fun i j => .int (i * j)) ta tb) (IsZ (x * y)) := fun H1 S Q q =>
  a H1 S _ fun _ H2 S2 e => b H2 (S.trans S2) _ fun _ H3 S3 e2 => ⟨x, y, e, e2, h, q _ H3 (S2.trans S3) rfl⟩
theorem gob_lt (a : Go σ H ta (IsZ x)) (b : Go σ H tb (IsZ y)) : Go σ H (tOp (rI0 fun i j => .bl (decide (i < j))) ta tb) (IsB (decide (x < y))) := fun H1 S Q q =>
  a H1 S _ fun _ H2 S2 e => b H2 (S.trans S2) _ fun _ H3 S3 e2 => ⟨x, y, e, e2, q _ H3 (S2.trans S3) rfl⟩
theorem got_B (a : Go σ H te (IsB b)) : GoT σ H (tB te) b := fun H1 S Q q => a H1 S _ fun v H2 S2 e => ⟨b, e, q H2 S2⟩
theorem got_test (a : Go σ H te (IsB b)) : GoT σ H (tTest te) b := fun H1 S Q q => a H1 S _ fun v H2 S2 e => ⟨b, e, q H2 S2⟩
theorem got_not (a : GoT σ H t b) : GoT σ H (tNot t) (!b) := fun H1 S Q q => a H1 S _ fun H2 S2 => q H2 S2
theorem got_or (a : GoT σ H t b) (h : b = false → GoT σ H u c) : GoT σ H (tOr t u) (b || c) := fun H1 S Q q => a H1 S _ fun H2 S2 => by
  cases b with
  | true => exact iteT (q H2 S2)
  | false => exact iteF (h rfl H2 (S.trans S2) _ fun H3 S3 => q H3 (S2.trans S3))
theorem got_orF (a : GoT σ H t false) (h : GoT σ H u false) : GoT σ H (tOr t u) false := got_or a fun _ => h
theorem got_and (a : GoT σ H t b) (h : b = true → GoT σ H u c) : GoT σ H (tAnd t u) (b && c) := fun H1 S Q q => a H1 S _ fun H2 S2 => by
  cases b with
  | true => exact iteT (h rfl H2 (S.trans S2) _ fun H3 S3 => q H3 (S2.trans S3))
  | false => exact iteF (q H2 S2)
theorem got_notT (a : GoT σ H t true) : GoT σ H (tNot t) false := got_not a
theorem gob_notB (a : Go σ H ta (IsB b)) (c : Bool) : Go σ H (tOp rNotB ta (tC (.bl c))) (IsB (!decide (b = c))) := fun H1 S Q q => a H1 S _ fun v H2 S2 e => ⟨b, c, e, rfl, q _ H2 S2 rfl⟩
theorem gob_neB (a : Go σ H ta (IsB b)) (d : Go σ H tb (IsB c)) : Go σ H (tOp rNe ta tb) (IsB (!decide (V.bl b = V.bl c))) := fun H1 S Q q => a H1 S _ fun v H2 S2 e => d H2 (S.trans S2) _ fun w H3 S3 e2 => by
  cases (show v = .bl b from e)
  cases (show w = .bl c from e2)
  exact ⟨rfl, q _ H3 (S2.trans S3) rfl⟩
theorem gob_neZ (a : Go σ H ta (IsZ x)) (d : Go σ H tb (IsZ y)) : Go σ H (tOp rNe ta tb) (IsB (!decide (x = y))) := fun H1 S Q q => a H1 S _ fun v H2 S2 e => d H2 (S.trans S2) _ fun w H3 S3 e2 => by
  cases (show v = .int x from e)
  cases (show w = .int y from e2)
  refine ⟨rfl, q _ H3 (S2.trans S3) ?_⟩
  show V.bl _ = V.bl _
  rw [dec_int]
  rfl
/-- an if whose test is known -/
theorem if_no {tt uu : TS} {D : Ends} (a : GoT σ H t false) (h : ∀ H2, L2.Same H H2 → uu D σ H2) : tIfS t tt uu D σ H := a H (L2.Same.refl H) _ fun H2 S => iteF (h H2 S)
theorem if_yes {tt uu : TS} {D : Ends} (a : GoT σ H t true) (h : ∀ H2, L2.Same H H2 → tt D σ H2) : tIfS t tt uu D σ H := a H (L2.Same.refl H) _ fun H2 S => iteT (h H2 S)
theorem sif {tt rest : TS} {D : Ends} (a : GoT σ H t false) (h : ∀ H2, L2.Same H H2 → rest D σ H2) : tSeq (tIfS t tt tNext) rest D σ H := a H (L2.Same.refl H) _ fun H2 S => iteF (h H2 S)
theorem sset {rest : TS} {D : Ends} (a : Go σ H te R) (h : ∀ v H2, L2.Same H H2 → R v H2 → rest D (σ.set i (some v)) H2) : tSeq (tAsg te (gName i)) rest D σ H := a H (L2.Same.refl H) _ fun v H2 S r => h v H2 S r
theorem got_andF (a : GoT σ H t b) (h : b = true → GoT σ H u false) : GoT σ H (tAnd t u) false := fun H1 S Q q => a H1 S _ fun H2 S2 => by
  cases b with
  | true => exact iteT (h rfl H2 (S.trans S2) _ fun H3 S3 => q H3 (S2.trans S3))
  | false => exact iteF (q H2 S2)
theorem gob_eq (a : Go σ H te (IsB b)) (h : b = c) : Go σ H te (IsB c) := h ▸ a
theorem got_eq (a : GoT σ H t b) (h : b = c) : GoT σ H t c := h ▸ a
theorem spar {j : Nat} {R' : V → Hp → Prop} {rest : TS} {D : Ends} (a : Go σ H ta R) (b : ∀ v H2, L2.Same H H2 → R v H2 → Go σ H2 tb R')
    (h : ∀ v w H2 H3, L2.Same H H2 → R v H2 → L2.Same H2 H3 → R' w H3 → rest D ((σ.set i (some v)).set j (some w)) H3) : tSeq (tPar i j (tCons ta (tCons tb tNil))) rest D σ H :=
  a H (L2.Same.refl H) _ fun v H2 S2 r => b v H2 S2 r H2 (L2.Same.refl H2) _ fun w H3 S3 r3 => ⟨v, w, rfl, h v w H2 H3 S2 r S3 r3⟩
theorem stup4 {K : PySem.W.Frag} {i1 i2 i3 i4 : Nat} {tc td : TE} {z w : Int} {rest : TS} {D : Ends} (a : Go σ H ta (IsZ x)) (b : Go σ H tb (IsZ y)) (c : Go σ H tc (IsZ z)) (d : Go σ H td (IsZ w))
    (h : ∀ H2, L2.Same H H2 → rest D ((((σ.set i1 (some (.int x))).set i2 (some (.int y))).set i3 (some (.int z))).set i4 (some (.int w))) H2) :
    tSeq (tAsg (tTup (tCons ta (tCons tb (tCons tc (tCons td tNil))))) (gTup K 4 (gCons (gName i1) (gCons (gName i2) (gCons (gName i3) (gCons (gName i4) gNil)))))) rest D σ H :=
  a H (L2.Same.refl H) _ fun v1 H1 S1 e1 => b H1 S1 _ fun v2 H2 S2 e2 => c H2 (S1.trans S2) _ fun v3 H3 S3 e3 => d H3 (S1.trans (S2.trans S3)) _ fun v4 H4 S4 e4 =>
    ⟨(by show 4 ≤ sizeLine; decide), fun p hp => ⟨p, _, rfl, SqT.of upd_same, rfl, v1, _, rfl, v2, _, rfl, v3, _, rfl, v4, _, rfl, rfl, by
      cases (show v1 = .int x from e1)
      cases (show v2 = .int y from e2)
      cases (show v3 = .int z from e3)
      cases (show v4 = .int w from e4)
      exact h _ (S1.trans (S2.trans (S3.trans (S4.trans (RK.Same.upd hp)))))⟩⟩
end
theorem kit_self {K : PySem.W.Frag} {C : Addr} : PySem.W.kitOne K (.ref C) (.ref C) = some true := by
  unfold PySem.W.kitOne
  rw [if_pos (beq_iff_eq.mpr rfl)]
theorem kit_sub {K : PySem.W.Frag} {C S : Addr} {b : Bool} (ne : (Value.ref C == Value.ref S) = false) (hd : PySem.W.hasDictIn K S = true) (ht : PySem.W.typeIn K (.ref S) = some (.type "type"))
    (hs : PySem.W.subIn K (.ref C) (.ref S) = some b) : PySem.W.kitOne K (.ref C) (.ref S) = some b := by
  obtain ⟨cd, hc, _⟩ := PySem.W.any_some hd
  have e2 : ((PySem.W.clsIn K S).isSome && PySem.W.typeIn K (.ref S) == some (.type "type")) = true := by rw [hc, ht] <;> rfl
  unfold PySem.W.kitOne PySem.W.kitCls
  rw [ne, if_neg Bool.false_ne_true]
  dsimp only
  rw [if_pos e2]
  exact hs
end RK


set_option Elab.async false
set_option linter.all false
set_option maxRecDepth 100000
/-! the mathematics of fractions -/
namespace K44
def IsFr (x : Int × Int) : Prop := 0 < x.2 ∧ Nat.gcd x.1.natAbs x.2.natAbs = 1
def fr (a b : Int) : Int × Int :=
  let g : Int := (Nat.gcd a.natAbs b.natAbs : Nat)
  let s := if 0 < b then g else -g
  (a.fdiv s, b.fdiv s)
def sgnG (a b : Int) : Int := if 0 < b then ((Nat.gcd a.natAbs b.natAbs : Nat) : Int) else -((Nat.gcd a.natAbs b.natAbs : Nat) : Int)
theorem fr_def (a b : Int) : fr a b = (a.fdiv (sgnG a b), b.fdiv (sgnG a b)) := rfl
theorem sgnG_ne {a b : Int} (hb : b ≠ 0) : sgnG a b ≠ 0 := by
  have : Nat.gcd a.natAbs b.natAbs ≠ 0 := fun h => hb (by have := Nat.eq_zero_of_gcd_eq_zero_right h; omega)
  unfold sgnG; split <;> omega
theorem sgnG_le {a b : Int} (hb : b ≠ 0) : (sgnG a b).natAbs ≤ b.natAbs := by
  have : Nat.gcd a.natAbs b.natAbs ≤ b.natAbs := Nat.gcd_le_right _ (by omega)
  unfold sgnG; split <;> omega
theorem sgnG_abs (a b : Int) : (sgnG a b).natAbs = Nat.gcd a.natAbs b.natAbs := by unfold sgnG; split <;> omega
theorem fr_parts {a b : Int} (hb : b ≠ 0) : ∃ x y : Int, a = sgnG a b * x ∧ b = sgnG a b * y ∧ fr a b = (x, y) := by
  have d1 : sgnG a b ∣ a := by rw [← Int.natAbs_dvd_natAbs, sgnG_abs]; exact Nat.gcd_dvd_left _ _
  have d2 : sgnG a b ∣ b := by rw [← Int.natAbs_dvd_natAbs, sgnG_abs]; exact Nat.gcd_dvd_right _ _
  have hs := sgnG_ne (a := a) hb
  obtain ⟨x, hx⟩ := d1
  obtain ⟨y, hy⟩ := d2
  refine ⟨x, y, hx, hy, ?_⟩
  rw [fr_def]
  have e1 : a.fdiv (sgnG a b) = x := (congrArg (fun z => Int.fdiv z (sgnG a b)) hx).trans (Int.mul_fdiv_cancel_left x hs)
  have e2 : b.fdiv (sgnG a b) = y := (congrArg (fun z => Int.fdiv z (sgnG a b)) hy).trans (Int.mul_fdiv_cancel_left y hs)
  rw [e1, e2]
theorem fr_spec {a b : Int} (hb : b ≠ 0) : IsFr (fr a b) ∧ (fr a b).1 * b = a * (fr a b).2 ∧ (fr a b).1.natAbs ≤ a.natAbs ∧ (fr a b).2.natAbs ≤ b.natAbs := by
  obtain ⟨x, y, hx, hy, e⟩ := fr_parts (a := a) hb
  have hs := sgnG_ne (a := a) hb
  have hg := sgnG_abs a b
  rw [e]
  have h1 : 0 < (sgnG a b).natAbs := by omega
  have ax : a.natAbs = (sgnG a b).natAbs * x.natAbs := by rw [← Int.natAbs_mul, ← hx]
  have bx : b.natAbs = (sgnG a b).natAbs * y.natAbs := by rw [← Int.natAbs_mul, ← hy]
  refine ⟨⟨?_, ?_⟩, ?_, ?_, ?_⟩
  · show 0 < y
    by_cases hp : 0 < b
    · have z : sgnG a b = ((Nat.gcd a.natAbs b.natAbs : Nat) : Int) := by unfold sgnG; rw [if_pos hp]
      have : 0 < sgnG a b := by omega
      rw [hy] at hp
      exact Int.pos_of_mul_pos_right hp this
    · have z : sgnG a b = -((Nat.gcd a.natAbs b.natAbs : Nat) : Int) := by unfold sgnG; rw [if_neg hp]
      have hn : sgnG a b < 0 := by omega
      have hbn : b < 0 := by omega
      rw [hy] at hbn
      exact Int.lt_of_not_ge fun k => absurd (Int.mul_nonneg_of_nonpos_of_nonpos (Int.le_of_lt hn) k) (by omega)
  · show Nat.gcd x.natAbs y.natAbs = 1
    have : (sgnG a b).natAbs * Nat.gcd x.natAbs y.natAbs = (sgnG a b).natAbs * 1 := by rw [← Nat.gcd_mul_left, ← ax, ← bx, hg, Nat.mul_one]
    exact Nat.eq_of_mul_eq_mul_left h1 this
  · show x * b = a * y
    have key : ∀ s : Int, a = s * x → b = s * y → x * b = a * y := fun s h1 h2 => by rw [h1, h2]; grind
    exact key _ hx hy
  · show x.natAbs ≤ a.natAbs
    rw [ax]; exact Nat.le_mul_of_pos_left _ h1
  · show y.natAbs ≤ b.natAbs
    rw [bx]; exact Nat.le_mul_of_pos_left _ h1
theorem fr_uniq {x y : Int × Int} (hx : IsFr x) (hy : IsFr y) (h : x.1 * y.2 = y.1 * x.2) : x = y := by
  obtain ⟨p, q⟩ := x
  obtain ⟨r, s⟩ := y
  obtain ⟨hq, g1⟩ := hx
  obtain ⟨hs, g2⟩ := hy
  dsimp only at *
  have h' : p.natAbs * s.natAbs = r.natAbs * q.natAbs := by rw [← Int.natAbs_mul, ← Int.natAbs_mul, h]
  have d1 : q.natAbs ∣ s.natAbs := by
    have : q.natAbs ∣ p.natAbs * s.natAbs := ⟨r.natAbs, by rw [h', Nat.mul_comm]⟩
    exact Nat.Coprime.dvd_of_dvd_mul_left (Nat.coprime_comm.mp g1) this
  have d2 : s.natAbs ∣ q.natAbs := by
    have : s.natAbs ∣ r.natAbs * q.natAbs := ⟨p.natAbs, by rw [← h', Nat.mul_comm]⟩
    exact Nat.Coprime.dvd_of_dvd_mul_left (Nat.coprime_comm.mp g2) this
  have e : q = s := by have := Nat.dvd_antisymm d1 d2; omega
  subst e
  have : p = r := Int.eq_of_mul_eq_mul_right (by omega) h
  rw [this]

/-! the sums that the law asks -/
def addF (x y : Int × Int) : Int × Int := fr (x.1 * y.2 + y.1 * x.2) (x.2 * y.2)
def subF (x y : Int × Int) : Int × Int := fr (x.1 * y.2 - y.1 * x.2) (x.2 * y.2)
def mulF (x y : Int × Int) : Int × Int := fr (x.1 * y.1) (x.2 * y.2)
def divF (x y : Int × Int) : Int × Int := fr (x.1 * y.2) (x.2 * y.1)
/-- x is the fraction of a and b -/
def Val (x : Int × Int) (a b : Int) : Prop := x.1 * b = a * x.2
theorem cancel {x y z : Int} (hz : z ≠ 0) (h : x * z = y * z) : x = y := Int.eq_of_mul_eq_mul_right hz h
theorem add_spec {x y : Int × Int} {a b c d : Int} (hx : 0 < x.2) (hy : 0 < y.2) (v : Val x a b) (u : Val y c d) : IsFr (addF x y) ∧ Val (addF x y) (a * d + c * b) (b * d) := by
  obtain ⟨p, q⟩ := x
  obtain ⟨r, s⟩ := y
  have hq : (0 : Int) < q * s := Int.mul_pos hx hy
  obtain ⟨f1, f2, _, _⟩ := fr_spec (a := p * s + r * q) (b := q * s) (by omega)
  refine ⟨f1, ?_⟩
  unfold Val addF at *
  dsimp only at *
  generalize fr (p * s + r * q) (q * s) = z at *
  obtain ⟨P, Q⟩ := z
  dsimp only at *
  exact cancel (z := q * s) (by omega) (by grind)
theorem sub_spec {x y : Int × Int} {a b c d : Int} (hx : 0 < x.2) (hy : 0 < y.2) (v : Val x a b) (u : Val y c d) : IsFr (subF x y) ∧ Val (subF x y) (a * d - c * b) (b * d) := by
  obtain ⟨p, q⟩ := x
  obtain ⟨r, s⟩ := y
  have hq : (0 : Int) < q * s := Int.mul_pos hx hy
  obtain ⟨f1, f2, _, _⟩ := fr_spec (a := p * s - r * q) (b := q * s) (by omega)
  refine ⟨f1, ?_⟩
  unfold Val subF at *
  dsimp only at *
  generalize fr (p * s - r * q) (q * s) = z at *
  obtain ⟨P, Q⟩ := z
  dsimp only at *
  exact cancel (z := q * s) (by omega) (by grind)
theorem mul_spec {x y : Int × Int} {a b c d : Int} (hx : 0 < x.2) (hy : 0 < y.2) (v : Val x a b) (u : Val y c d) : IsFr (mulF x y) ∧ Val (mulF x y) (a * c) (b * d) := by
  obtain ⟨p, q⟩ := x
  obtain ⟨r, s⟩ := y
  have hq : (0 : Int) < q * s := Int.mul_pos hx hy
  obtain ⟨f1, f2, _, _⟩ := fr_spec (a := p * r) (b := q * s) (by omega)
  refine ⟨f1, ?_⟩
  unfold Val mulF at *
  dsimp only at *
  generalize fr (p * r) (q * s) = z at *
  obtain ⟨P, Q⟩ := z
  dsimp only at *
  exact cancel (z := q * s) (by omega) (by grind)
theorem top_ne {y : Int × Int} {c d : Int} (hy : 0 < y.2) (u : Val y c d) (hc : c ≠ 0) : y.1 ≠ 0 := fun e => by
  unfold Val at u
  rw [e, Int.zero_mul] at u
  exact Int.mul_ne_zero hc (by omega) u.symm
theorem div_spec {x y : Int × Int} {a b c d : Int} (hx : 0 < x.2) (hy : 0 < y.2) (v : Val x a b) (u : Val y c d) (hc : c ≠ 0) : IsFr (divF x y) ∧ Val (divF x y) (a * d) (b * c) := by
  have hr := top_ne hy u hc
  obtain ⟨p, q⟩ := x
  obtain ⟨r, s⟩ := y
  dsimp only at hx hy hr
  have hq : q * r ≠ 0 := Int.mul_ne_zero (by omega) hr
  have hs : q * s ≠ 0 := Int.mul_ne_zero (by omega) (by omega)
  obtain ⟨f1, f2, _, _⟩ := fr_spec (a := p * s) (b := q * r) hq
  refine ⟨f1, ?_⟩
  unfold Val divF at *
  dsimp only at *
  generalize fr (p * s) (q * r) = z at *
  obtain ⟨P, Q⟩ := z
  dsimp only at *
  have e1 : P * (b * c) * (q * s) = a * d * Q * (q * s) := by grind
  exact cancel hs e1
theorem less_spec {x y : Int × Int} {a b c d : Int} (hx : 0 < x.2) (hy : 0 < y.2) (v : Val x a b) (u : Val y c d) (hb : b ≠ 0) (hd : d ≠ 0) : (x.1 * y.2 < y.1 * x.2) ↔ ((a * d - c * b) * b * d < 0) := by
  obtain ⟨p, q⟩ := x
  obtain ⟨r, s⟩ := y
  unfold Val at *
  dsimp only at *
  have e : ((a * d - c * b) * b * d) * (q * s) = (p * s - r * q) * ((b * d) * (b * d)) := by grind
  have h0 : 0 < (b * d) * (b * d) := by
    have : b * d ≠ 0 := Int.mul_ne_zero hb hd
    rcases Int.lt_or_gt_of_ne this with h | h
    · exact Int.mul_pos_of_neg_of_neg h h
    · exact Int.mul_pos h h
  have h1 : 0 < q * s := Int.mul_pos hx hy
  constructor
  · intro h
    have : (p * s - r * q) * ((b * d) * (b * d)) < 0 := Int.mul_neg_of_neg_of_pos (by omega) h0
    rw [← e] at this
    exact Int.lt_of_not_ge fun k => absurd (Int.mul_nonneg k (Int.le_of_lt h1)) (by omega)
  · intro h
    have : ((a * d - c * b) * b * d) * (q * s) < 0 := Int.mul_neg_of_neg_of_pos h h1
    rw [e] at this
    exact Int.lt_of_not_ge fun k => absurd (Int.mul_nonneg (show 0 ≤ p * s - r * q by omega) (Int.le_of_lt h0)) (by omega)
theorem isFr01 : IsFr (0, 1) := ⟨by decide, by decide⟩
theorem zero_add_fr {x : Int × Int} (h : IsFr x) : addF (0, 1) x = x := by
  have s := add_spec (x := (0, 1)) (y := x) (a := 0) (b := 1) (c := x.1) (d := x.2) (by decide) h.1 rfl (by unfold Val; rfl)
  refine fr_uniq s.1 h ?_
  have := s.2
  unfold Val at this
  grind
theorem sub_self_fr {x : Int × Int} (h : IsFr x) : subF x x = (0, 1) := by
  have s := sub_spec (x := x) (y := x) (a := x.1) (b := x.2) (c := x.1) (d := x.2) h.1 h.1 rfl rfl
  have hp := Int.mul_pos h.1 h.1
  refine fr_uniq s.1 isFr01 ?_
  have := s.2
  unfold Val at this
  dsimp only
  exact cancel (z := x.2 * x.2) (by omega) (by grind)
theorem mul_one_fr {x : Int × Int} (h : IsFr x) : mulF x (1, 1) = x := by
  have s := mul_spec (x := x) (y := (1, 1)) (a := x.1) (b := x.2) (c := 1) (d := 1) h.1 (by decide) rfl rfl
  refine fr_uniq s.1 h ?_
  have := s.2
  unfold Val at this
  grind
/-! sizes -/
def Sz (n : Nat) (x : Int × Int) : Prop := x.1.natAbs < 2 ^ n ∧ x.2.natAbs < 2 ^ n
theorem mul_lt2 {x y : Int} {n m : Nat} (hx : x.natAbs < 2 ^ n) (hy : y.natAbs < 2 ^ m) : (x * y).natAbs < 2 ^ (n + m) := by
  rw [Int.natAbs_mul, Nat.pow_add]
  exact Nat.mul_lt_mul'' hx hy
theorem add_lt2 {x y : Int} {n : Nat} (hx : x.natAbs < 2 ^ n) (hy : y.natAbs < 2 ^ n) : (x + y).natAbs < 2 ^ (n + 1) := by
  have : (2 : Nat) ^ (n + 1) = 2 ^ n + 2 ^ n := by rw [Nat.pow_succ]; omega
  omega
theorem sub_lt2 {x y : Int} {n : Nat} (hx : x.natAbs < 2 ^ n) (hy : y.natAbs < 2 ^ n) : (x - y).natAbs < 2 ^ (n + 1) := by
  have : (2 : Nat) ^ (n + 1) = 2 ^ n + 2 ^ n := by rw [Nat.pow_succ]; omega
  omega
theorem up2 {x : Int} {n m : Nat} (h : x.natAbs < 2 ^ n) (k : n ≤ m) : x.natAbs < 2 ^ m := Nat.lt_of_lt_of_le h (Nat.pow_le_pow_right (by decide) k)
theorem Sz.up {x : Int × Int} {n m : Nat} (h : Sz n x) (k : n ≤ m) : Sz m x := ⟨up2 h.1 k, up2 h.2 k⟩
theorem Sz.fr {a b : Int} {n : Nat} (hb : b ≠ 0) (h1 : a.natAbs < 2 ^ n) (h2 : b.natAbs < 2 ^ n) : Sz n (fr a b) := by
  obtain ⟨_, _, k1, k2⟩ := fr_spec (a := a) hb
  exact ⟨Nat.lt_of_le_of_lt k1 h1, Nat.lt_of_le_of_lt k2 h2⟩
theorem Sz.add {x y : Int × Int} {n m : Nat} (hx : 0 < x.2) (hy : 0 < y.2) (h : Sz n x) (k : Sz m y) : Sz (n + m + 1) (addF x y) := by
  have hp := Int.mul_pos hx hy
  refine Sz.fr (by omega) (add_lt2 (mul_lt2 h.1 k.2) ?_) (up2 (mul_lt2 h.2 k.2) (by omega))
  have := mul_lt2 k.1 h.2
  rwa [Nat.add_comm] at this
theorem Sz.sub {x y : Int × Int} {n m : Nat} (hx : 0 < x.2) (hy : 0 < y.2) (h : Sz n x) (k : Sz m y) : Sz (n + m + 1) (subF x y) := by
  have hp := Int.mul_pos hx hy
  refine Sz.fr (by omega) (sub_lt2 (mul_lt2 h.1 k.2) ?_) (up2 (mul_lt2 h.2 k.2) (by omega))
  have := mul_lt2 k.1 h.2
  rwa [Nat.add_comm] at this
theorem Sz.mul {x y : Int × Int} {n m : Nat} (hx : 0 < x.2) (hy : 0 < y.2) (h : Sz n x) (k : Sz m y) : Sz (n + m) (mulF x y) := by
  have hp := Int.mul_pos hx hy
  exact Sz.fr (by omega) (mul_lt2 h.1 k.1) (mul_lt2 h.2 k.2)
theorem Sz.div {x y : Int × Int} {n m : Nat} (hx : 0 < x.2) (hy : y.1 ≠ 0) (h : Sz n x) (k : Sz m y) : Sz (n + m) (divF x y) :=
  Sz.fr (Int.mul_ne_zero (by omega) hy) (mul_lt2 h.1 k.2) (mul_lt2 h.2 k.1)
end K44


set_option Elab.async false
set_option linter.all false
set_option maxRecDepth 100000
set_option maxHeartbeats 2000000
namespace K44
open PySem PySem.Spec PyProof.Rows L2 RK
def top (i : Nat) : Stmt := PySem.Challenge.pw_roomlooks_k44_fractions.main.body.getD i (.Pass ⟨0, 0, 0, 0⟩)
abbrev sIni : Stmt := inClass (top 3) 0
abbrev sInt : Stmt := top 6
abbrev sFr : Stmt := top 8
abbrev sIsF : Stmt := top 9
abbrev sPlus : Stmt := top 10
abbrev sMinus : Stmt := top 11
abbrev sTimes : Stmt := top 12
abbrev sRatio : Stmt := top 13
abbrev sLess : Stmt := top 14
abbrev sSum : Stmt := top 15
abbrev sBox : Stmt := top 17
abbrev sTake : Stmt := top 18
abbrev sPick : Stmt := top 19
abbrev sDiv : Stmt := top 20
abbrev sLIs : Stmt := top 21
abbrev sSame : Stmt := top 22
abbrev sNum : Stmt := top 23
abbrev sPair : Stmt := top 24
abbrev sRef : Stmt := top 25
abbrev sTru : Stmt := top 26
abbrev sAlm : Stmt := top 27
abbrev sLaw : Stmt := top 28
/-- what the top has left, but the defs -/
structure Txt (K : PySem.W.Frag) (mg : Str → Option Value) (CN CR CF fI : Addr) : Prop where
  err : ErrC K mg "InvalidNumber" "word" CN fI
  gR : mg "RoomError" = some (.ref CR)
  gF : mg "Refused" = some (.ref CF)
  nr : PySem.W.exmOne K (.ref CN) (.ref CR) = some true
  nn : PySem.W.kitOne K (.ref CN) (.ref CN) = some true
  nf : PySem.W.kitOne K (.ref CN) (.ref CF) = some false
  gcd : mg "gcd" = some (.builtin "math.gcd")
  isi : mg "isinstance" = none
  int : mg "int" = none
  bool : mg "bool" = none
  tuple : mg "tuple" = none
  len : mg "len" = none
  abs : mg "abs" = none
  range : mg "range" = none
  max : mg "max" = none
  min : mg "min" = none
  all : mg "all" = none
/-! ### values -/
def isInt : V → Bool
  | .int _ => true
  | _ => false
/-- a part of a pair: isinstance knows it -/
def ItemTy (K : PySem.W.Frag) (H : Hp) (v : V) : Prop := (∃ i, v = .int i) ∨ (∃ b, v = .bl b) ∨ (isInt v = false ∧ ∃ T, TyX K H v (.type T) ∧ kitB T "int" = some false)
def frV : List V → Bool
  | [.int p, .int q] => decide (0 < q) && decide (Nat.gcd p.natAbs q.natAbs = 1)
  | _ => false
/-- a value that may be asked for being a fraction, and the answer -/
def ValD (K : PySem.W.Frag) (H : Hp) (v : V) (r : Bool) : Prop :=
  (r = false ∧ ∃ T, TyX K H v (.type T) ∧ kitB T "tuple" = some false) ∨
  (∃ t xs, v = .ref t ∧ H t = some (.tup xs) ∧ xs.length ≤ 3 ∧ (xs.length = 2 → ∀ x ∈ xs, ItemTy K H x) ∧ r = frV xs)
theorem int_test {K : PySem.W.Frag} {σ : L2.St} {H : Hp} {i : Nat} {v : V} {Q : VK} (hs : σ[i]? = some (some v)) (h : ItemTy K H v) (q : Q (.bl (isInt v)) H) :
    tAndV (tCB (rIsi K) (tCons (tVar i) (tCons (tC (.ty "int")) tNil))) (tNotV (tCB (rIsi K) (tCons (tVar i) (tCons (tC (.ty "bool")) tNil)))) σ H Q := by
  rcases h with ⟨z, rfl⟩ | ⟨b, rfl⟩ | ⟨h0, T, hT, hk⟩
  · refine ⟨_, hs, _, .ty "int", _, _, true, rfl, .ty _, .base (.int z), kit_ty (by decide +kernel), true, rfl, ?_⟩
    refine iteT ⟨_, hs, _, .ty "bool", _, _, false, rfl, .ty _, .base (.int z), kit_ty (by decide +kernel), false, rfl, q⟩
  · refine ⟨_, hs, _, .ty "int", _, _, true, rfl, .ty _, .base (.bl b), kit_ty (by decide +kernel), true, rfl, ?_⟩
    refine iteT ⟨_, hs, _, .ty "bool", _, _, true, rfl, .ty _, .base (.bl b), kit_ty (by decide +kernel), true, rfl, q⟩
  · refine ⟨_, hs, _, .ty "int", _, _, false, rfl, .ty _, hT, kit_ty hk, false, rfl, ?_⟩
    rw [h0] at q
    exact iteF q
/-! ### promises -/
def spInt (K : PySem.W.Frag) : Sp := fun vs H Q _ => ∃ v, vs = [v] ∧ ItemTy K H v ∧ Q (.bl (isInt v)) H
def spFr (C : Addr) : Sp := fun vs H Q E => ∃ a b : Int, vs = [.int a, .int b] ∧ a.natAbs < 2 ^ 4000 ∧ b.natAbs < 2 ^ 4000 ∧
  (b = 0 → ∀ d, H d = none → E (.ref C) (some d) (upd H d (.xd [("word", .str "bottom")]))) ∧
  (b ≠ 0 → ∀ t, H t = none → Q (.ref t) (upd H t (.tup [.int (fr a b).1, .int (fr a b).2])))
def spIsF (K : PySem.W.Frag) : Sp := fun vs H Q _ => ∃ v r, vs = [v] ∧ ValD K H v r ∧ Q (.bl r) H
/-- t holds the pair x -/
def At (H : Hp) (t : Addr) (x : Int × Int) : Prop := H t = some (.tup [.int x.1, .int x.2])
def pairV (x : Int × Int) : HO := .tup [.int x.1, .int x.2]
section
variable {K : PySem.W.Frag} {σ : L2.St} {H : Hp} {i : Nat} {t : Addr} {x : Int × Int} {Q : VK}
theorem ix0 (hs : σ[i]? = some (some (.ref t))) (h : At H t x) (q : Q (.int x.1) H) : tOp (rIxT K) (tVar i) (tC (.int 0)) σ H Q := ⟨_, hs, t, _, 0, _, rfl, rfl, SqT.of h, rfl, q⟩
theorem ix1 (hs : σ[i]? = some (some (.ref t))) (h : At H t x) (q : Q (.int x.2) H) : tOp (rIxT K) (tVar i) (tC (.int 1)) σ H Q := ⟨_, hs, t, _, 1, _, rfl, rfl, SqT.of h, rfl, q⟩
end
section
variable {P : Program} {w : World} {K : PySem.W.Frag} {mg : Str → Option Value} {base : Heap} {CN CR CF fI : Addr}
theorem scIni : FnScope ["self", "word"] ["self", "word"] (defScope sIni) := ⟨rfl, rfl, rfl, by decide +kernel, rfl, by decide +kernel, by decide +kernel⟩
theorem ok_ini {f : Addr} {fd : FuncData} (F : Fun K "__init__" "InvalidNumber.__init__" sIni f fd) : FnOk P w K mg base CX0 1 f fd ["self", "word"] (spIni K "word") := by
  refine F.ok scIni (fun vs H Q E h => ?_) (fun cdv A outer s H vs Q E hr h => ?_)
  · obtain ⟨a, C, w, rfl, _⟩ := h
    rfl
  · obtain ⟨a, C, w, rfl, T, no, ha, k⟩ := h
    refine ⟨_, pss_one (ps_ost (pv 0) (pv 1)), ?_⟩
    exact ⟨_, rfl, _, rfl, a, C, rfl, T, no, .inl ⟨ha, fun dx h1 h2 => k dx h1 h2⟩⟩
theorem scInt : FnScope ["value"] ["value"] (defScope sInt) := ⟨rfl, rfl, rfl, by decide +kernel, rfl, by decide +kernel, by decide +kernel⟩
theorem ok_int {f : Addr} {fd : FuncData} (F : Fun K "is_integer" "is_integer" sInt f fd) (T : Txt K mg CN CR CF fI) : FnOk P w K mg base CX0 1 f fd ["value"] (spInt K) := by
  refine F.ok scInt (fun vs H Q E h => ?_) (fun cdv A outer s H vs Q E hr h => ?_)
  · obtain ⟨v, rfl, _⟩ := h
    rfl
  · obtain ⟨v, rfl, hv, q⟩ := h
    refine ⟨_, pss_one (ps_ret (pe_and (pe_callB call_isi (by rfl) T.isi boot_isinstance (pa_cons (pv 0) (pa_cons (pe_bltn (v := .ty "int") (by rfl) T.int boot_int rfl) pa_nil)))
      (pe_one (pe_not (pe_callB call_isi (by rfl) T.isi boot_isinstance (pa_cons (pv 0) (pa_cons (pe_bltn (v := .ty "bool") (by rfl) T.bool (by decide +kernel) rfl) pa_nil))))))), ?_⟩
    exact int_test rfl hv q
theorem scFr : FnScope ["top", "bottom", "part"] ["top", "bottom"] (defScope sFr) := ⟨rfl, rfl, rfl, by decide +kernel, rfl, by decide +kernel, by decide +kernel⟩
theorem ok_fr {f : Addr} {fd fdI : FuncData} (F : Fun K "fraction_of" "fraction_of" sFr f fd) (T : Txt K mg CN CR CF fI) (FI : Fun K "__init__" "InvalidNumber.__init__" sIni fI fdI) (bI : L2.Binds K fdI ["self", "word"] []) :
    FnOk P w K mg base (L2.CX P w) 3 f fd ["top", "bottom"] (spFr CN) := by
  have GI : FnOk P w K mg base CX0 1 fI fdI ["self", "word"] (spIni K "word") := ok_ini FI
  refine F.okX scFr (fun vs H Q E h => ?_) (fun cdv A outer s H vs Q E hr h => ?_)
  · obtain ⟨a, b, rfl, _⟩ := h
    rfl
  · obtain ⟨a, b, rfl, ha, hb, k0, k1⟩ := h
    refine ⟨_, pss_cons (ps_if (pt_cmpR op_eq (pv 1) pe_int (nomark _)) (pss_one (ps_raise1 T.err GI hr bI pass0 rfl (takes_of rfl rfl rfl rfl) pe_str)) pss_nil)
      (pss_cons (ps_set (i := 2) scFr.nd rfl (Or.inl rfl) (pe_ifExp (pt_cmpR op_gt (pv 1) pe_int (nomark _))
        (pe_callBfun cr_gcd (by rfl) T.gcd (pa_cons (pv 0) (pa_cons (pv 1) pa_nil)))
        (pe_un un_neg (pe_callBfun cr_gcd (by rfl) T.gcd (pa_cons (pv 0) (pa_cons (pv 1) pa_nil))))))
      (pss_one (ps_ret (pe_tup (pa_cons (pe_op op_fdivA (pv 0) (pv 2)) (pa_cons (pe_op op_fdivA (pv 1) (pv 2)) pa_nil)))))), ?_⟩
    refine ⟨_, rfl, rfl, _, rfl, ?_⟩
    refine ite2 (fun hz => ?_) (fun hz => ?_)
    · have hz' : b = 0 := by simpa using hz
      exact raise1 T.err.oex T.err.no fun d hd => k0 hz' d hd
    · have hz' : b ≠ 0 := fun e => hz (by simp [e])
      have hs := sgnG_ne (a := a) hz'
      have hl := sgnG_le (a := a) hz'
      have hd : ∀ i : Int, DivAny i (sgnG a b) := fun i => divAny hs (Nat.lt_of_le_of_lt hl hb) (by decide) (by decide)
      have last : ∀ s : Int, s = sgnG a b → tRet (tTup (tCons (tOp (rI DivAny fun i j => .int (Int.fdiv i j)) (tVar 0) (tVar 2)) (tCons (tOp (rI DivAny fun i j => .int (Int.fdiv i j)) (tVar 1) (tVar 2)) tNil)))
          { nx := fun _ H' => Q .non H', rt := Q } [some (.int a), some (.int b), some (.int s)] H := by
        intro s e
        subst e
        exact ⟨_, rfl, _, rfl, _, _, rfl, rfl, hd _, _, rfl, _, rfl, _, _, rfl, rfl, hd _, (by show 2 ≤ sizeLine; decide), fun t ht => k1 hz' t ht⟩
      refine ⟨_, rfl, _, _, rfl, rfl, _, rfl, ?_⟩
      refine ite2 (fun hp => ?_) (fun hp => ?_)
      · have hp' : 0 < b := of_decide_eq_true hp
        exact ⟨_, rfl, _, rfl, _, _, rfl, last _ (by unfold sgnG; rw [if_pos hp'])⟩
      · have hp' : ¬ 0 < b := fun e => hp (decide_eq_true e)
        exact ⟨_, rfl, _, rfl, _, _, rfl, _, rfl, last _ (by unfold sgnG; rw [if_neg hp'])⟩
theorem scIsF : FnScope ["value", "top", "bottom"] ["value"] (defScope sIsF) := ⟨rfl, rfl, rfl, by decide +kernel, rfl, by decide +kernel, by decide +kernel⟩
theorem frV_no {x y : V} (h : (isInt x && isInt y) = false) : frV [x, y] = false := by
  cases x <;> cases y <;> first | rfl | (simp [isInt] at h)
theorem frV_len {xs : List V} (h : xs.length ≠ 2) : frV xs = false := by
  match xs, h with
  | [], _ => rfl
  | [x], _ => cases x <;> rfl
  | [x, y], h => exact absurd rfl h
  | x :: y :: z :: r, _ => cases x <;> first | rfl | (cases y <;> rfl)
theorem ok_isF {f : Addr} {fd : FuncData} (F : Fun K "is_fraction" "is_fraction" sIsF f fd) (T : Txt K mg CN CR CF fI) (cI : Cl P w K mg base CX0 1 "is_integer" ["value"] (spInt K)) : FnOk P w K mg base CX0 2 f fd ["value"] (spIsF K) := by
  refine F.ok scIsF (fun vs H Q E h => ?_) (fun cdv A outer s H vs Q E hr h => ?_)
  · obtain ⟨v, r, rfl, _⟩ := h
    rfl
  · obtain ⟨v, r, rfl, hv, q⟩ := h
    refine ⟨_, pss_cons (ps_if (PW.pt (pw_or (pt_not (pt_val (pe_callB call_isi (by rfl) T.isi boot_isinstance (pa_cons (pv 0) (pa_cons (pe_bltn (v := .ty "tuple") (by rfl) T.tuple boot_tuple rfl) pa_nil)))))
        (pw_or1 (pt_cmpR op_ne (pe_callB call_len_seq (by rfl) T.len PySem.boot_len (pa_cons (pv 0) pa_nil)) pe_int (nomark _))))) (pss_one (ps_ret pe_bl)) pss_nil)
      (pss_cons (ps_asg (pv 0) (pg_tup (n := 2) rfl (pgs_cons (pg_name (i := 1) scIsF.nd rfl (Or.inl rfl)) (pgs_cons (pg_name (i := 2) scIsF.nd rfl (Or.inl rfl)) pgs_nil))))
      (pss_one (ps_ret (pe_and (pe_f cI hr (by decide) pass0 (pa_cons (pv 1) pa_nil))
        (pe_and (pe_f cI hr (by decide) pass0 (pa_cons (pv 2) pa_nil))
        (pe_and (pe_cmpR op_gt (pv 2) pe_int (nomark _))
        (pe_one (pe_cmpR op_eq (pe_callBfun cr_gcd (by rfl) T.gcd (pa_cons (pv 1) (pa_cons (pv 2) pa_nil))) pe_int (nomark _))))))))), ?_⟩
    rcases hv with ⟨rfl, Ty, hT, hk⟩ | ⟨t, xs, rfl, ht, hl, hi, rfl⟩
    · refine ⟨_, rfl, _, .ty "tuple", _, _, false, rfl, .ty _, hT, kit_ty hk, false, rfl, ?_⟩
      exact iteT (iteT q)
    · refine ⟨_, rfl, _, .ty "tuple", _, _, true, rfl, .ty _, .base (.tup ht), kit_ty (by decide +kernel), true, rfl, ?_⟩
      refine iteF ⟨_, rfl, t, xs, rfl, .inr (SqT.of ht), rfl, _, rfl, ?_⟩
      by_cases h2 : xs.length = 2
      · match xs, h2, hi with
        | [x, y], _, hi =>
          have hx := hi rfl x (by simp)
          have hy := hi rfl y (by simp)
          refine iteF ?_
          refine ⟨_, rfl, t, _, rfl, SqT.of ht, rfl, x, _, rfl, y, _, rfl, rfl, ?_⟩
          refine ⟨_, rfl, _, rfl, hx, isInt x, rfl, ?_⟩
          cases x with
          | int p =>
            refine iteT ⟨_, rfl, _, rfl, hy, isInt y, rfl, ?_⟩
            cases y with
            | int z =>
              refine iteT ⟨_, rfl, _, _, rfl, rfl, _, rfl, ?_⟩
              by_cases hz : 0 < z
              · rw [decide_eq_true hz]
                refine iteT ⟨_, rfl, _, rfl, _, _, rfl, rfl, ?_⟩
                have e : frV [.int p, .int z] = decide (V.int ((Nat.gcd p.natAbs z.natAbs : Nat) : Int) = V.int 1) := by
                  rw [dec_int]
                  show (decide (0 < z) && decide (Nat.gcd p.natAbs z.natAbs = 1)) = _
                  rw [decide_eq_true hz, Bool.true_and, Bool.eq_iff_iff]
                  simp only [decide_eq_true_eq, beq_iff_eq]
                  omega
                rw [← e]
                exact q
              · have e : frV [.int p, .int z] = false := by
                  show (decide (0 < z) && _) = false
                  rw [decide_eq_false hz, Bool.false_and]
                rw [e] at q
                rw [decide_eq_false hz]
                exact iteF q
            | _ => exact iteF q
          | _ => exact iteF q
      · rw [frV_len h2] at q
        refine ite2 (fun _ => q) (fun z => ?_)
        have z' : xs.length = 2 := by
          rw [dec_int] at z
          simp only [Bool.not_eq_true', beq_eq_false_iff_ne, ne_eq, Classical.not_not] at z
          omega
        exact absurd z' h2
end
end K44


set_option Elab.async false
set_option linter.all false
set_option maxRecDepth 100000
set_option maxHeartbeats 2000000
namespace K44
open PySem PySem.Spec PyProof.Rows L2 RK
def spBin (g : Int × Int → Int × Int → Int × Int) : Sp := fun vs H Q _ => ∃ (t u : Addr) (x y : Int × Int), vs = [.ref t, .ref u] ∧ At H t x ∧ At H u y ∧ IsFr x ∧ IsFr y ∧ Sz 1500 x ∧ Sz 1500 y ∧
  ∀ s, H s = none → Q (.ref s) (upd H s (pairV (g x y)))
def spRatio (C : Addr) : Sp := fun vs H Q E => ∃ (t u : Addr) (x y : Int × Int), vs = [.ref t, .ref u] ∧ At H t x ∧ At H u y ∧ IsFr x ∧ IsFr y ∧ Sz 1500 x ∧ Sz 1500 y ∧
  (y.1 = 0 → ∀ d, H d = none → E (.ref C) (some d) (upd H d (.xd [("word", .str "bottom")]))) ∧
  (y.1 ≠ 0 → ∀ s, H s = none → Q (.ref s) (upd H s (pairV (divF x y))))
def spLess : Sp := fun vs H Q _ => ∃ (t u : Addr) (x y : Int × Int), vs = [.ref t, .ref u] ∧ At H t x ∧ At H u y ∧ Sz 1500 x ∧ Sz 1500 y ∧ Q (.bl (decide (x.1 * y.2 < y.1 * x.2))) H
def sumF (xs : List (Int × Int)) : Int × Int := xs.foldl addF (0, 1)
def spSum : Sp := fun vs H Q _ => ∃ (t : Addr) (ps : List (Addr × (Int × Int))), vs = [.ref t] ∧ H t = some (.tup (ps.map fun p => V.ref p.1)) ∧ ps.length ≤ 7 ∧ (∀ p ∈ ps, At H p.1 p.2 ∧ IsFr p.2 ∧ Sz 88 p.2) ∧
  ∀ (s : Addr) (H' : Hp), Same H H' → At H' s (sumF (ps.map (·.2))) → Q (.ref s) H'
theorem mulOk {a b : Int} {n m : Nat} (ha : a.natAbs < 2 ^ n) (hb : b.natAbs < 2 ^ m) (h : n + m ≤ 900000) : CMulW a b := wide_mul (up2 ha (Nat.le_succ n)) (up2 hb (Nat.le_succ m)) (Nat.succ_pos _) (Nat.succ_pos _) (by omega)
theorem mulOk' {a b : Int} (ha : a.natAbs < 2 ^ 1500) (hb : b.natAbs < 2 ^ 1500) : CMulW a b := mulOk ha hb (by decide)
theorem big {a b : Int} (ha : a.natAbs < 2 ^ 1500) (hb : b.natAbs < 2 ^ 1500) : (a * b).natAbs < 2 ^ 4000 := up2 (mul_lt2 ha hb) (by decide)
theorem big3 {a b c d : Int} (ha : a.natAbs < 2 ^ 1500) (hb : b.natAbs < 2 ^ 1500) (hc : c.natAbs < 2 ^ 1500) (hd : d.natAbs < 2 ^ 1500) : (a * b + c * d).natAbs < 2 ^ 4000 := up2 (add_lt2 (mul_lt2 ha hb) (mul_lt2 hc hd)) (by decide)
theorem big4 {a b c d : Int} (ha : a.natAbs < 2 ^ 1500) (hb : b.natAbs < 2 ^ 1500) (hc : c.natAbs < 2 ^ 1500) (hd : d.natAbs < 2 ^ 1500) : (a * b - c * d).natAbs < 2 ^ 4000 := up2 (sub_lt2 (mul_lt2 ha hb) (mul_lt2 hc hd)) (by decide)
/-- the product of two parts of pairs -/
abbrev tMulW (a b : TE) : TE := tOp (rI CMulW fun i j => .int (i * j)) a b
section
variable {P : Program} {w : World} {K : PySem.W.Frag} {mg : Str → Option Value} {base : Heap} {CN CR CF fI : Addr}
theorem scPlus : FnScope ["one", "other"] ["one", "other"] (defScope sPlus) := ⟨rfl, rfl, rfl, by decide +kernel, rfl, by decide +kernel, by decide +kernel⟩
theorem ok_plus {f : Addr} {fd : FuncData} (F : Fun K "plus" "plus" sPlus f fd) (c : Cl P w K mg base (L2.CX P w) 3 "fraction_of" ["top", "bottom"] (spFr CN)) : FnOk P w K mg base CX0 4 f fd ["one", "other"] (spBin addF) := by
  refine F.ok scPlus (fun vs H Q E h => ?_) (fun cdv A outer s H vs Q E hr h => ?_)
  · obtain ⟨t, u, x, y, rfl, _⟩ := h
    rfl
  · obtain ⟨t, u, x, y, rfl, ht, hu, fx, fy, zx, zy, k⟩ := h
    refine ⟨_, pss_one (ps_ret (pe_f c hr (by decide) passL (pa_cons (pe_op op_add
      (pe_op op_mulW (pe_ix ix_tup (pv 0) pe_int (fun _ _ => rfl)) (pe_ix ix_tup (pv 1) pe_int (fun _ _ => rfl)))
      (pe_op op_mulW (pe_ix ix_tup (pv 1) pe_int (fun _ _ => rfl)) (pe_ix ix_tup (pv 0) pe_int (fun _ _ => rfl))))
      (pa_cons (pe_op op_mulW (pe_ix ix_tup (pv 0) pe_int (fun _ _ => rfl)) (pe_ix ix_tup (pv 1) pe_int (fun _ _ => rfl))) pa_nil)))), ?_⟩
    have hp : (0 : Int) < x.2 * y.2 := Int.mul_pos fx.1 fy.1
    refine ix0 rfl ht (ix1 rfl hu ⟨_, _, rfl, rfl, mulOk' zx.1 zy.2, ix0 rfl hu (ix1 rfl ht ⟨_, _, rfl, rfl, mulOk' zy.1 zx.2, _, _, rfl, rfl, ?_⟩)⟩)
    refine ix1 rfl ht (ix1 rfl hu ⟨_, _, rfl, rfl, mulOk' zx.2 zy.2, _, _, rfl, big3 zx.1 zy.2 zy.1 zx.2, big zx.2 zy.2, fun e => by omega, fun _ s hs => k s hs⟩)
theorem scMinus : FnScope ["one", "other"] ["one", "other"] (defScope sMinus) := ⟨rfl, rfl, rfl, by decide +kernel, rfl, by decide +kernel, by decide +kernel⟩
theorem ok_minus {f : Addr} {fd : FuncData} (F : Fun K "minus" "minus" sMinus f fd) (c : Cl P w K mg base (L2.CX P w) 3 "fraction_of" ["top", "bottom"] (spFr CN)) : FnOk P w K mg base CX0 4 f fd ["one", "other"] (spBin subF) := by
  refine F.ok scMinus (fun vs H Q E h => ?_) (fun cdv A outer s H vs Q E hr h => ?_)
  · obtain ⟨t, u, x, y, rfl, _⟩ := h
    rfl
  · obtain ⟨t, u, x, y, rfl, ht, hu, fx, fy, zx, zy, k⟩ := h
    refine ⟨_, pss_one (ps_ret (pe_f c hr (by decide) passL (pa_cons (pe_op op_sub
      (pe_op op_mulW (pe_ix ix_tup (pv 0) pe_int (fun _ _ => rfl)) (pe_ix ix_tup (pv 1) pe_int (fun _ _ => rfl)))
      (pe_op op_mulW (pe_ix ix_tup (pv 1) pe_int (fun _ _ => rfl)) (pe_ix ix_tup (pv 0) pe_int (fun _ _ => rfl))))
      (pa_cons (pe_op op_mulW (pe_ix ix_tup (pv 0) pe_int (fun _ _ => rfl)) (pe_ix ix_tup (pv 1) pe_int (fun _ _ => rfl))) pa_nil)))), ?_⟩
    have hp : (0 : Int) < x.2 * y.2 := Int.mul_pos fx.1 fy.1
    refine ix0 rfl ht (ix1 rfl hu ⟨_, _, rfl, rfl, mulOk' zx.1 zy.2, ix0 rfl hu (ix1 rfl ht ⟨_, _, rfl, rfl, mulOk' zy.1 zx.2, _, _, rfl, rfl, ?_⟩)⟩)
    refine ix1 rfl ht (ix1 rfl hu ⟨_, _, rfl, rfl, mulOk' zx.2 zy.2, _, _, rfl, big4 zx.1 zy.2 zy.1 zx.2, big zx.2 zy.2, fun e => by omega, fun _ s hs => k s hs⟩)
theorem scTimes : FnScope ["one", "other"] ["one", "other"] (defScope sTimes) := ⟨rfl, rfl, rfl, by decide +kernel, rfl, by decide +kernel, by decide +kernel⟩
theorem ok_times {f : Addr} {fd : FuncData} (F : Fun K "times" "times" sTimes f fd) (c : Cl P w K mg base (L2.CX P w) 3 "fraction_of" ["top", "bottom"] (spFr CN)) : FnOk P w K mg base CX0 4 f fd ["one", "other"] (spBin mulF) := by
  refine F.ok scTimes (fun vs H Q E h => ?_) (fun cdv A outer s H vs Q E hr h => ?_)
  · obtain ⟨t, u, x, y, rfl, _⟩ := h
    rfl
  · obtain ⟨t, u, x, y, rfl, ht, hu, fx, fy, zx, zy, k⟩ := h
    refine ⟨_, pss_one (ps_ret (pe_f c hr (by decide) passL (pa_cons
      (pe_op op_mulW (pe_ix ix_tup (pv 0) pe_int (fun _ _ => rfl)) (pe_ix ix_tup (pv 1) pe_int (fun _ _ => rfl)))
      (pa_cons (pe_op op_mulW (pe_ix ix_tup (pv 0) pe_int (fun _ _ => rfl)) (pe_ix ix_tup (pv 1) pe_int (fun _ _ => rfl))) pa_nil)))), ?_⟩
    have hp : (0 : Int) < x.2 * y.2 := Int.mul_pos fx.1 fy.1
    refine ix0 rfl ht (ix0 rfl hu ⟨_, _, rfl, rfl, mulOk' zx.1 zy.1, ?_⟩)
    refine ix1 rfl ht (ix1 rfl hu ⟨_, _, rfl, rfl, mulOk' zx.2 zy.2, _, _, rfl, big zx.1 zy.1, big zx.2 zy.2, fun e => by omega, fun _ s hs => k s hs⟩)
theorem scRatio : FnScope ["one", "other"] ["one", "other"] (defScope sRatio) := ⟨rfl, rfl, rfl, by decide +kernel, rfl, by decide +kernel, by decide +kernel⟩
theorem ok_ratio {f : Addr} {fd : FuncData} (F : Fun K "ratio" "ratio" sRatio f fd) (c : Cl P w K mg base (L2.CX P w) 3 "fraction_of" ["top", "bottom"] (spFr CN)) : FnOk P w K mg base (L2.CX P w) 4 f fd ["one", "other"] (spRatio CN) := by
  refine F.okX scRatio (fun vs H Q E h => ?_) (fun cdv A outer s H vs Q E hr h => ?_)
  · obtain ⟨t, u, x, y, rfl, _⟩ := h
    rfl
  · obtain ⟨t, u, x, y, rfl, ht, hu, fx, fy, zx, zy, k0, k⟩ := h
    refine ⟨_, pss_one (ps_ret (pe_fS (E := fun _ => E) c hr (by decide) (fun σ => passAt (W := fun cls d _ H' => E cls d H') (takes_of rfl rfl rfl rfl) σ) (pa_cons
      (pe_op op_mulW (pe_ix ix_tup (pv 0) pe_int (fun _ _ => rfl)) (pe_ix ix_tup (pv 1) pe_int (fun _ _ => rfl)))
      (pa_cons (pe_op op_mulW (pe_ix ix_tup (pv 0) pe_int (fun _ _ => rfl)) (pe_ix ix_tup (pv 1) pe_int (fun _ _ => rfl))) pa_nil)))), ?_⟩
    have hp : (0 : Int) < x.2 := fx.1
    refine ix0 rfl ht (ix1 rfl hu ⟨_, _, rfl, rfl, mulOk' zx.1 zy.2, ?_⟩)
    refine ix1 rfl ht (ix0 rfl hu ⟨_, _, rfl, rfl, mulOk' zx.2 zy.1, _, _, rfl, big zx.1 zy.2, big zx.2 zy.1, fun e => ?_, fun e s hs => ?_⟩)
    · rcases Int.mul_eq_zero.mp e with e | e
      · omega
      · exact k0 e
    · exact k (fun z => e (by rw [z, Int.mul_zero])) s hs
theorem scLess : FnScope ["one", "other"] ["one", "other"] (defScope sLess) := ⟨rfl, rfl, rfl, by decide +kernel, rfl, by decide +kernel, by decide +kernel⟩
theorem ok_less {f : Addr} {fd : FuncData} (F : Fun K "less" "less" sLess f fd) : FnOk P w K mg base CX0 1 f fd ["one", "other"] spLess := by
  refine F.ok scLess (fun vs H Q E h => ?_) (fun cdv A outer s H vs Q E hr h => ?_)
  · obtain ⟨t, u, x, y, rfl, _⟩ := h
    rfl
  · obtain ⟨t, u, x, y, rfl, ht, hu, zx, zy, k⟩ := h
    refine ⟨_, pss_one (ps_ret (pe_cmpR op_lt (pe_op op_mulW (pe_ix ix_tup (pv 0) pe_int (fun _ _ => rfl)) (pe_ix ix_tup (pv 1) pe_int (fun _ _ => rfl)))
      (pe_op op_mulW (pe_ix ix_tup (pv 1) pe_int (fun _ _ => rfl)) (pe_ix ix_tup (pv 0) pe_int (fun _ _ => rfl))) (nomark _))), ?_⟩
    exact ix0 rfl ht (ix1 rfl hu ⟨_, _, rfl, rfl, mulOk' zx.1 zy.2, ix0 rfl hu (ix1 rfl ht ⟨_, _, rfl, rfl, mulOk' zy.1 zx.2, _, _, rfl, rfl, k⟩)⟩)
theorem scSum : FnScope ["fractions", "total", "fraction"] ["fractions"] (defScope sSum) := ⟨rfl, rfl, rfl, by decide +kernel, rfl, by decide +kernel, by decide +kernel⟩
theorem sumF_snoc (xs : List (Int × Int)) (x : Int × Int) : sumF (xs ++ [x]) = addF (sumF xs) x := by unfold sumF; rw [List.foldl_append]; rfl
theorem sumF_take {xs : List (Int × Int)} {i : Nat} {x : Int × Int} (h : xs[i]? = some x) : sumF (xs.take (i + 1)) = addF (sumF (xs.take i)) x := by
  rw [← sumF_snoc]
  congr 1
  obtain ⟨hi, e⟩ := List.getElem?_eq_some_iff.mp h
  rw [List.take_succ, h]
  rfl
theorem sumF_ok {xs : List (Int × Int)} (h : ∀ x ∈ xs, IsFr x ∧ Sz 88 x) : IsFr (sumF xs) ∧ Sz (1 + 89 * xs.length) (sumF xs) := by
  have key : ∀ (xs : List (Int × Int)) (a : Int × Int) (n : Nat), IsFr a → Sz n a → (∀ x ∈ xs, IsFr x ∧ Sz 88 x) → IsFr (xs.foldl addF a) ∧ Sz (n + 89 * xs.length) (xs.foldl addF a) := by
    intro xs
    induction xs with
    | nil => exact fun a n h1 h2 _ => ⟨h1, h2⟩
    | cons x r ih =>
      intro a n h1 h2 h3
      have hx := h3 x List.mem_cons_self
      have s := add_spec (x := a) (y := x) (a := a.1) (b := a.2) (c := x.1) (d := x.2) h1.1 hx.1.1 rfl rfl
      have z := Sz.add h1.1 hx.1.1 h2 hx.2
      have q := ih (addF a x) (n + 88 + 1) s.1 z fun y hy => h3 y (List.mem_cons_of_mem _ hy)
      refine ⟨q.1, q.2.up ?_⟩
      rw [List.length_cons]
      omega
  exact key xs (0, 1) 1 isFr01 ⟨by decide, by decide⟩ h
theorem ok_sum {f : Addr} {fd : FuncData} (F : Fun K "sum_of" "sum_of" sSum f fd) (c : Cl P w K mg base CX0 4 "plus" ["one", "other"] (spBin addF)) : FnOk P w K mg base CX0 5 f fd ["fractions"] spSum := by
  refine F.ok scSum (fun vs H Q E h => ?_) (fun cdv A outer s H vs Q E hr h => ?_)
  · obtain ⟨t, ps, rfl, _⟩ := h
    rfl
  · obtain ⟨t, ps, rfl, ht, hl, hp, k⟩ := h
    refine ⟨_, pss_cons (ps_set (i := 1) scSum.nd rfl (Or.inl rfl) (pe_tup (pa_cons pe_int (pa_cons pe_int pa_nil))))
      (pss_cons (ps_for PassesOwn.never rfl (pi_tup (pv 0)) (pg_name (i := 2) scSum.nd rfl (Or.inl rfl))
        (pss_one (ps_set (i := 1) scSum.nd rfl (Or.inl rfl) (pe_f c hr (by decide) pass0 (pa_cons (pv 1) (pa_cons (pv 2) pa_nil))))))
      (pss_one (ps_ret (pv 1)))), ?_⟩
    refine ⟨by show 2 ≤ sizeLine; decide, fun s0 hs0 => ?_⟩
    have S0 : Same H (upd H s0 (.tup [.int 0, .int 1])) := RK.Same.upd hs0
    refine ⟨_, rfl, t, rfl, ⟨_, SqT.of (S0 _ _ ht)⟩, for_tup (K := K) (a := t) (xs := ps.map fun p => V.ref p.1)
      (fun i σ H' => ∃ (s1 : Addr) (v : Option V), σ = [some (.ref t), some (.ref s1), v] ∧ Same H H' ∧ At H' s1 (sumF ((ps.map (·.2)).take i)))
      ⟨s0, none, rfl, S0, upd_same⟩ (fun i σ H' _ ⟨_, _, _, S, _⟩ => SqT.of (S _ _ ht)) ?_ ?_⟩
    · rintro i v σ H' hi ⟨s1, v0, rfl, S, h1⟩
      obtain ⟨p, hpi, rfl⟩ : ∃ p, ps[i]? = some p ∧ v = V.ref p.1 := by
        rw [List.getElem?_map] at hi
        cases e : ps[i]? with
        | none => rw [e] at hi; cases hi
        | some z => rw [e] at hi; exact ⟨z, rfl, (Option.some.inj hi).symm⟩
      have hmem := List.mem_of_getElem? hpi
      obtain ⟨hat, hfr, hsz⟩ := hp p hmem
      have e2 : (ps.map (·.2))[i]? = some p.2 := by rw [List.getElem?_map, hpi]; rfl
      have hall : ∀ x ∈ (ps.map (·.2)).take i, IsFr x ∧ Sz 88 x := fun x hx => by
        obtain ⟨q, hq, rfl⟩ := List.mem_map.mp (List.mem_of_mem_take hx)
        exact (hp q hq).2
      obtain ⟨o1, o2⟩ := sumF_ok hall
      have hlen : ((ps.map (·.2)).take i).length ≤ 7 := Nat.le_trans (List.length_take_le _ _) (by
        have := List.length_take_le i (ps.map (·.2))
        have e : (ps.map (·.2)).length = ps.length := List.length_map _
        have hil := (List.getElem?_eq_some_iff.mp hpi).1
        omega)
      refine ⟨_, rfl, _, rfl, s1, p.1, sumF ((ps.map (·.2)).take i), p.2, rfl, h1, S _ _ hat, o1, hfr, o2.up (by omega), hsz.up (by decide), fun s2 hs2 => ?_⟩
      refine ⟨s2, _, rfl, RK.Same.updAt S (S.free hs2), ?_⟩
      rw [sumF_take e2]
      exact upd_same
    · rintro σ H' ⟨s1, v, rfl, S, h1⟩
      refine ⟨_, rfl, k s1 H' S ?_⟩
      rw [List.length_map] at h1
      rw [← List.length_map (f := (·.2)) (as := ps), List.take_length] at h1
      exact h1
end
end K44


set_option Elab.async false
set_option linter.all false
set_option maxRecDepth 100000
set_option maxHeartbeats 2000000
namespace K44
open PySem PySem.Spec PyProof.Rows L2 RK
/-! ### the source of draws -/
/-- exactly as it was, but at p -/
def El (p : Addr) (H H' : Hp) : Prop := ∀ b, b ≠ p → H' b = H b
theorem El.refl (p : Addr) (H : Hp) : El p H H := fun _ _ => rfl
theorem El.trans {p : Addr} {H H1 H2 : Hp} (a : El p H H1) (b : El p H1 H2) : El p H H2 := fun c n => (b c n).trans (a c n)
theorem El.kp {p : Addr} {H H1 : Hp} (a : El p H H1) : Kp p H H1 := fun c o h n => (a c n).trans h
theorem El.upd {p : Addr} {H H1 : Hp} {o : HO} (a : El p H H1) : El p H (L2.upd H1 p o) := fun c n => (upd_ne n).trans (a c n)
def BoxAt (H : Hp) (p : Addr) : Prop := ∃ c r n : Int, H p = some (.lst [.int c, .int r, .int n])
theorem Kp.box {p q : Addr} {H H' : Hp} (k : Kp q H H') (h : BoxAt H p) (n : p ≠ q) : BoxAt H' p := by
  obtain ⟨c, r, m, e⟩ := h
  exact ⟨c, r, m, k _ _ e n⟩
theorem Same.box {p : Addr} {H H' : Hp} (k : L2.Same H H') (h : BoxAt H p) : BoxAt H' p := by
  obtain ⟨c, r, m, e⟩ := h
  exact ⟨c, r, m, k _ _ e⟩
def spBox (K : PySem.W.Frag) : Sp := fun vs H Q _ => ∃ (a : Addr) (ns : List Int) (k : Nat), vs = [.ref a, .int (k : Int)] ∧ SqL K H a (ns.map V.int) ∧ ns.length ≤ 63 ∧
  ∀ (p : Addr) (H' : Hp), H p = none → L2.Same H H' → BoxAt H' p → Q (.ref p) H'
def spTake : Sp := fun vs H Q _ => ∃ (p : Addr) (m : Int), vs = [.ref p, .int m] ∧ BoxAt H p ∧ 0 < m ∧ m.natAbs < 2 ^ 8000 ∧
  ∀ (d : Int) (H' : Hp), 0 ≤ d → d < m → BoxAt H' p → El p H H' → Q (.int d) H'
def spPick : Sp := fun vs H Q _ => ∃ (p q : Addr) (xs : List V), vs = [.ref p, .ref q] ∧ BoxAt H p ∧ H q = some (.lst xs) ∧ q ≠ p ∧ 0 < xs.length ∧ xs.length ≤ 1000 ∧
  ∀ (v : V) (H' : Hp), v ∈ xs → BoxAt H' p → El p H H' → Q v H'
def spDiv : Sp := fun vs H Q _ => ∃ a b : Int, vs = [.int a, .int b] ∧ ∀ H', L2.Same H H' → Q (.int ((Nat.gcd a.natAbs b.natAbs : Nat) : Int)) H'
section
variable {K : PySem.W.Frag} {σ : L2.St} {H : Hp} {i : Nat} {t : Addr} {xs : List V} {z : Int} {v : V} {Q : VK}
theorem ixl (hs : σ[i]? = some (some (.ref t))) (h : H t = some (.lst xs)) (e : atI xs z = some v) (q : Q v H) : tOp (rIxL K) (tVar i) (tC (.int z)) σ H Q := ⟨_, hs, t, _, z, _, rfl, rfl, SqL.of h, e, q⟩
end
theorem atIf (kk : Bool) (c : Int) : atI [V.int 0, V.int c] (if kk = true then 1 else 0) = some (V.int (if kk = true then c else 0)) := by cases kk <;> rfl
theorem fmod_lt {a m : Int} (h : 0 < m) : 0 ≤ a.fmod m ∧ a.fmod m < m := by
  rw [Int.fmod_eq_emod_of_nonneg a (Int.le_of_lt h)]
  exact ⟨Int.emod_nonneg _ (by omega), Int.emod_lt_of_pos _ h⟩
section
variable {P : Program} {w : World} {K : PySem.W.Frag} {mg : Str → Option Value} {base : Heap} {CN CR CF fI : Addr}
theorem scBox : FnScope ["script", "k", "cell"] ["script", "k"] (defScope sBox) := ⟨rfl, rfl, rfl, by decide +kernel, rfl, by decide +kernel, by decide +kernel⟩
theorem ok_box {f : Addr} {fd : FuncData} (F : Fun K "_law_box" "_law_box" sBox f fd) (T : Txt K mg CN CR CF fI) : FnOk P w K mg base CX0 1 f fd ["script", "k"] (spBox K) := by
  refine F.ok scBox (fun vs H Q E h => ?_) (fun cdv A outer s H vs Q E hr h => ?_)
  · obtain ⟨a, ns, k, rfl, _⟩ := h
    rfl
  · obtain ⟨a, ns, k, rfl, hS, hl, q⟩ := h
    refine ⟨_, (pss_cons (ps_set (i := 2) scBox.nd rfl (Or.inl rfl) (pe_op op_add (pe_op op_mul pe_int (pv 1)) pe_int))
        (pss_cons (ps_if (pt_cmpR op_lt (pv 1) (pe_callB call_len_seq (by rfl) T.len PySem.boot_len (pa_cons (pv 0) pa_nil)) (nomark _)) (pss_one (ps_set (i := 2) scBox.nd rfl (Or.inl rfl) (pe_callB call_abs (by rfl) T.abs (by decide +kernel) (pa_cons (pe_ix (r := rIxL K) ix_list (pv 0) (pv 1) (fun _ _ => rfl)) pa_nil)))) pss_nil)
        (pss_one (ps_ret (pe_lst (pa_cons (pe_ix (r := rIxL K) ix_list (pe_lst (pa_cons pe_int (pa_cons (pv 2) pa_nil))) (pe_callTy call_int1 (by rfl) T.int boot_int (pa_cons (pe_cmpR op_ge (pv 2) (pe_op op_pow pe_int pe_int) (nomark _)) pa_nil)) (fun _ _ => rfl)) (pa_cons (pe_op op_add (pe_op op_mod (pe_callTy call_int1 (by rfl) T.int boot_int (pa_cons (pe_op op_add (pe_op op_add (pe_op op_mul (pe_op op_mod (pe_callTy call_int1 (by rfl) T.int boot_int (pa_cons (pv 2) pa_nil)) pe_int) pe_int) (pe_op op_mul pe_int (pv 1))) pe_int) pa_nil)) pe_int) pe_int) (pa_cons pe_int pa_nil)))))))), ?_⟩
    refine ⟨_, rfl, _, _, rfl, rfl, .inl ⟨by decide, by decide⟩, _, _, rfl, rfl, ?_⟩
    refine ⟨_, rfl, _, rfl, a, _, rfl, .inl hS, _, _, rfl, rfl, _, rfl, ?_⟩
    refine ite2 (fun hp => ?_) (fun hp => ?_)
    · have hp' : (k : Int) < ((ns.map V.int).length : Int) := of_decide_eq_true hp
      have hk : k < ns.length := by rw [List.length_map] at hp'; omega
      have hget : (ns.map V.int)[k]? = some (V.int ns[k]) := by rw [List.getElem?_map, List.getElem?_eq_getElem hk]; rfl
      refine ⟨_, rfl, _, rfl, a, _, _, _, rfl, rfl, hS, atI_nat hget, _, rfl, ?_⟩
      refine ⟨_, rfl, (by show 2 ≤ sizeLine; decide), fun l hl => ?_⟩
      refine ⟨_, rfl, _, _, rfl, rfl, ⟨by decide, by decide, by decide⟩, _, _, rfl, rfl, .inr ⟨_, rfl, ?_⟩⟩
      refine ⟨l, _, _, _, rfl, rfl, SqL.of upd_same, atIf _ _, ?_⟩
      refine ⟨_, rfl, .inl ⟨_, rfl, _, _, rfl, rfl, (show (0 : Int) < 2147483629 by decide), _, _, rfl, rfl, .inr ⟨by decide, by decide⟩, _, rfl, _, _, rfl, rfl, .inl ⟨by decide, by decide⟩, _, _, rfl, rfl, _, _, rfl, rfl, .inl ⟨_, rfl, _, _, rfl, rfl, (show (0 : Int) < 2147483629 by decide), _, _, rfl, rfl, ?_⟩⟩⟩
      refine ⟨by show 3 ≤ sizeLine; decide, fun p hp => ?_⟩
      exact q p _ ((RK.Same.upd hl).free hp) (RK.Same.updAt (RK.Same.upd hl) ((RK.Same.upd hl).free hp)) ⟨_, _, _, upd_same⟩
    · refine ⟨_, rfl, (by show 2 ≤ sizeLine; decide), fun l hl => ?_⟩
      refine ⟨_, rfl, _, _, rfl, rfl, ⟨by decide, by decide, by decide⟩, _, _, rfl, rfl, .inr ⟨_, rfl, ?_⟩⟩
      refine ⟨l, _, _, _, rfl, rfl, SqL.of upd_same, atIf _ _, ?_⟩
      refine ⟨_, rfl, .inl ⟨_, rfl, _, _, rfl, rfl, (show (0 : Int) < 2147483629 by decide), _, _, rfl, rfl, .inr ⟨by decide, by decide⟩, _, rfl, _, _, rfl, rfl, .inl ⟨by decide, by decide⟩, _, _, rfl, rfl, _, _, rfl, rfl, .inl ⟨_, rfl, _, _, rfl, rfl, (show (0 : Int) < 2147483629 by decide), _, _, rfl, rfl, ?_⟩⟩⟩
      refine ⟨by show 3 ≤ sizeLine; decide, fun p hp => ?_⟩
      exact q p _ ((RK.Same.upd hl).free hp) (RK.Same.updAt (RK.Same.upd hl) ((RK.Same.upd hl).free hp)) ⟨_, _, _, upd_same⟩
theorem scTake : FnScope ["box", "many", "digit", "raw"] ["box", "many"] (defScope sTake) := ⟨rfl, rfl, rfl, by decide +kernel, rfl, by decide +kernel, by decide +kernel⟩
theorem ok_take {f : Addr} {fd : FuncData} (F : Fun K "_law_take" "_law_take" sTake f fd) (T : Txt K mg CN CR CF fI) : FnOk P w K mg base CX0 1 f fd ["box", "many"] spTake := by
  refine F.ok scTake (fun vs H Q E h => ?_) (fun cdv A outer s H vs Q E hr h => ?_)
  · obtain ⟨p, m, rfl, _⟩ := h
    rfl
  · obtain ⟨p, m, rfl, ⟨c, r, n, e⟩, m0, m1, k⟩ := h
    refine ⟨_, (pss_cons (ps_if (pt_cmpR op_gt (pe_ix (r := rIxL K) ix_list (pv 0) pe_int (fun _ _ => rfl)) pe_int (nomark _)) (pss_cons (ps_set (i := 2) scTake.nd rfl (Or.inl rfl) (pe_op op_modN (pe_callTy call_int1 (by rfl) T.int boot_int (pa_cons (pe_ix (r := rIxL K) ix_list (pv 0) pe_int (fun _ _ => rfl)) pa_nil)) (pv 1)))
        (pss_cons (ps_asg (pe_op op_fdivA (pe_ix (r := rIxL K) ix_list (pv 0) pe_int (fun _ _ => rfl)) (pv 1)) (pg_sub (pv 0) pe_int set_list))
        (pss_one (ps_ret (pv 2))))) pss_nil)
        (pss_cons (ps_asg (pe_op op_add (pe_ix (r := rIxL K) ix_list (pv 0) pe_int (fun _ _ => rfl)) pe_int) (pg_sub (pv 0) pe_int set_list))
        (pss_cons (ps_set (i := 3) scTake.nd rfl (Or.inl rfl) (pe_op op_mod (pe_callTy call_int1 (by rfl) T.int boot_int (pa_cons (pe_op op_add (pe_op op_mul (pe_op op_add (pe_ix (r := rIxL K) ix_list (pv 0) pe_int (fun _ _ => rfl)) (pe_op op_mul pe_int (pe_ix (r := rIxL K) ix_list (pv 0) pe_int (fun _ _ => rfl)))) pe_int) pe_int) pa_nil)) pe_int))
        (pss_cons (ps_asg (pe_op op_add (pe_op op_mod (pe_callTy call_int1 (by rfl) T.int boot_int (pa_cons (pe_op op_add (pe_op op_mul (pv 3) pe_int) pe_int) pa_nil)) pe_int) pe_int) (pg_sub (pv 0) pe_int set_list))
        (pss_one (ps_ret (pe_op op_modN (pe_callTy call_int1 (by rfl) T.int boot_int (pa_cons (pe_op op_fdiv (pe_op op_add (pe_op op_mul (pv 3) pe_int) (pe_ix (r := rIxL K) ix_list (pv 0) pe_int (fun _ _ => rfl))) pe_int) pa_nil)) (pv 1)))))))), ?_⟩
    have dv : ∀ i : Int, DivAny i m := fun i => divAny (by omega) m1 (by decide) (by decide)
    refine ixl rfl e rfl ⟨_, _, rfl, rfl, _, rfl, ?_⟩
    refine ite2 (fun hp => ?_) (fun hp => ?_)
    · refine ixl rfl e rfl (.inl ⟨_, rfl, _, rfl, _, _, rfl, rfl, (by omega : m ≠ 0), ?_⟩)
      refine ixl rfl e rfl ⟨_, rfl, _, _, rfl, rfl, dv _, _, rfl, p, _, _, 0, rfl, rfl, e, rfl, ?_⟩
      exact ⟨_, rfl, k _ _ (fmod_lt m0).1 (fmod_lt m0).2 ⟨_, _, _, upd_same⟩ (El.upd (El.refl p H))⟩
    · refine ixl rfl e rfl ⟨_, _, rfl, rfl, _, rfl, p, _, _, 2, rfl, rfl, e, rfl, ?_⟩
      have e1 : (upd H p (.lst [.int c, .int r, .int (n + 1)])) p = some (.lst [.int c, .int r, .int (n + 1)]) := upd_same
      refine ixl rfl e1 rfl (ixl rfl e1 rfl ⟨_, _, rfl, rfl, .inl ⟨by decide, by decide⟩, _, _, rfl, rfl, _, _, rfl, rfl, .inr ⟨by decide, by decide⟩, _, _, rfl, rfl, .inl ⟨_, rfl, _, _, rfl, rfl, (show (0 : Int) < 2147483563 by decide), ?_⟩⟩)
      refine ⟨_, rfl, _, _, rfl, rfl, .inr ⟨by decide, by decide⟩, _, _, rfl, rfl, .inl ⟨_, rfl, _, _, rfl, rfl, (show (0 : Int) < 2147483629 by decide), _, _, rfl, rfl, _, rfl, p, _, _, 1, rfl, rfl, e1, rfl, ?_⟩⟩
      refine ⟨_, rfl, _, _, rfl, rfl, .inr ⟨by decide, by decide⟩, ixl rfl upd_same rfl ⟨_, _, rfl, rfl, _, _, rfl, rfl, ⟨by decide, by decide⟩, .inl ⟨_, rfl, _, rfl, _, _, rfl, rfl, (by omega : m ≠ 0), ?_⟩⟩⟩
      exact k _ _ (fmod_lt m0).1 (fmod_lt m0).2 ⟨_, _, _, upd_same⟩ (El.upd (El.upd (El.refl p H)))
theorem scPick : FnScope ["box", "some"] ["box", "some"] (defScope sPick) := ⟨rfl, rfl, rfl, by decide +kernel, rfl, by decide +kernel, by decide +kernel⟩
theorem ok_pick {f : Addr} {fd : FuncData} (F : Fun K "_law_pick" "_law_pick" sPick f fd) (T : Txt K mg CN CR CF fI) (c__law_take : Cl P w K mg base CX0 1 "_law_take" ["box", "many"] spTake) : FnOk P w K mg base CX0 2 f fd ["box", "some"] spPick := by
  refine F.ok scPick (fun vs H Q E h => ?_) (fun cdv A outer s H vs Q E hr h => ?_)
  · obtain ⟨p, q, xs, rfl, _⟩ := h
    rfl
  · obtain ⟨p, q, xs, rfl, hb, hq, hne, h0, h1, k⟩ := h
    refine ⟨_, (pss_one (ps_ret (pe_ix (r := rIxL K) ix_list (pv 1) (pe_f c__law_take hr (by decide) pass0 (pa_cons (pv 0) (pa_cons (pe_callB call_len_seq (by rfl) T.len PySem.boot_len (pa_cons (pv 1) pa_nil)) pa_nil))) (fun _ _ => rfl)))), ?_⟩
    refine ⟨_, rfl, _, rfl, _, rfl, q, _, rfl, .inl (SqL.of hq), p, _, rfl, hb, by omega, ?_, fun d H' d0 d1 bx el => ?_⟩
    · exact Nat.lt_of_le_of_lt (show ((xs.length : Int)).natAbs ≤ 1000 by omega) (up2 (x := 1000) (n := 10) (by decide) (by decide))
    · obtain ⟨j, rfl⟩ : ∃ j : Nat, d = (j : Int) := ⟨d.toNat, by omega⟩
      have hj : j < xs.length := by omega
      refine ⟨q, xs, _, xs[j], rfl, rfl, SqL.of ((el q hne).trans hq), atI_nat (List.getElem?_eq_getElem hj), k _ H' (List.getElem_mem hj) bx el⟩
/-! ### the greatest common divisor, by hand -/
theorem scDiv : FnScope ["one", "other", "pair"] ["one", "other"] (defScope sDiv) := ⟨rfl, rfl, rfl, by decide +kernel, rfl, by decide +kernel, by decide +kernel⟩
def lstD : Option HO → Nat
  | some (.lst [_, .int y]) => y.natAbs
  | _ => 0
def muD (σ : List (Option V)) (H : Hp) : Nat := match σ with
  | [_, _, some (.ref l)] => lstD (H l)
  | _ => 0
theorem muD_eq {a b : Option V} {l : Addr} {H : Hp} {x : V} {y : Int} (h : H l = some (.lst [x, .int y])) : muD [a, b, some (.ref l)] H = y.natAbs := by
  show lstD (H l) = y.natAbs
  rw [h]
  rfl
theorem abs_if (i : Int) : (if i < 0 then -i else i) = (i.natAbs : Int) := by split <;> omega
theorem ok_div {f : Addr} {fd : FuncData} (F : Fun K "_law_divisor" "_law_divisor" sDiv f fd) (T : Txt K mg CN CR CF fI) : FnOk P w K mg base CX0 1 f fd ["one", "other"] spDiv := by
  refine F.ok scDiv (fun vs H Q E h => ?_) (fun cdv A outer s H vs Q E hr h => ?_)
  · obtain ⟨a, b, rfl, _⟩ := h
    rfl
  · obtain ⟨a, b, rfl, k⟩ := h
    refine ⟨_, (pss_cons (ps_set (i := 2) scDiv.nd rfl (Or.inl rfl) (pe_lst (pa_cons (pe_callB call_abs (by rfl) T.abs (by decide +kernel) (pa_cons (pv 0) pa_nil)) (pa_cons (pe_callB call_abs (by rfl) T.abs (by decide +kernel) (pa_cons (pv 1) pa_nil)) pa_nil))))
        (pss_cons (ps_while PassesOwn.never (pt_cmpR op_ne (pe_ix (r := rIxL K) ix_list (pv 2) pe_int (fun _ _ => rfl)) pe_int (nomark _)) (pss_one (ps_set (i := 2) scDiv.nd rfl (Or.inl rfl) (pe_lst (pa_cons (pe_ix (r := rIxL K) ix_list (pv 2) pe_int (fun _ _ => rfl)) (pa_cons (pe_op op_modN (pe_callTy call_int1 (by rfl) T.int boot_int (pa_cons (pe_ix (r := rIxL K) ix_list (pv 2) pe_int (fun _ _ => rfl)) pa_nil)) (pe_ix (r := rIxL K) ix_list (pv 2) pe_int (fun _ _ => rfl))) pa_nil))))))
        (pss_one (ps_ret (pe_ix (r := rIxL K) ix_list (pv 2) pe_int (fun _ _ => rfl)))))), ?_⟩
    refine ⟨_, rfl, _, rfl, _, rfl, _, rfl, (by show 2 ≤ sizeLine; decide), fun l hl => ?_⟩
    rw [abs_if, abs_if]
    refine while_by (fun σ H' => ∃ (l : Addr) (x y : Nat), σ = [some (.int a), some (.int b), some (.ref l)] ∧ L2.Same H H' ∧ H' l = some (.lst [.int x, .int y]) ∧ Nat.gcd x y = Nat.gcd a.natAbs b.natAbs) muD
      ⟨l, _, _, rfl, RK.Same.upd hl, upd_same, rfl⟩ ?_ ?_
    · rintro σ H' ⟨l, x, y, rfl, S, e, g⟩
      refine ixl rfl e rfl ⟨rfl, _, rfl, ?_⟩
      refine ite2 (fun hp => ?_) (fun hp => ?_)
      · have hy : y ≠ 0 := fun z => by rw [z] at hp; exact absurd hp (by decide)
        refine ixl rfl e rfl (ixl rfl e rfl (.inl ⟨_, rfl, ixl rfl e rfl ⟨_, _, rfl, rfl, (by omega), (by show 2 ≤ sizeLine; decide), fun l2 hl2 => ?_⟩⟩))
        have em : Int.fmod (x : Int) (y : Int) = ((x % y : Nat) : Int) := by
          rw [Int.fmod_eq_emod_of_nonneg _ (by omega)]; rfl
        have e2 : (upd H' l2 (.lst [.int (y : Int), .int (Int.fmod (x : Int) (y : Int))])) l2 = some (.lst [.int (y : Int), .int ((x % y : Nat) : Int)]) := by rw [upd_same, em]
        refine ⟨⟨l2, y, x % y, rfl, RK.Same.updAt S (S.free hl2), e2, ?_⟩, ?_⟩
        · rw [← g, Nat.gcd_comm x y, Nat.gcd_rec y x, Nat.gcd_comm]
        · refine Nat.lt_of_lt_of_le (Nat.lt_of_le_of_lt (Nat.le_of_eq (muD_eq (l := l2) e2)) (?_ : (((x % y : Nat) : Int)).natAbs < ((y : Int)).natAbs)) (Nat.le_of_eq (muD_eq (H := H') e).symm)
          have := Nat.mod_lt x (Nat.pos_of_ne_zero hy)
          rw [Int.natAbs_natCast, Int.natAbs_natCast]
          exact this
      · have hy : y = 0 := by
          rw [dec_int] at hp
          simp only [Bool.not_eq_true', beq_eq_false_iff_ne, ne_eq, Classical.not_not] at hp
          omega
        subst hy
        rw [Nat.gcd_zero_right] at g
        refine ixl rfl e rfl ?_
        rw [g]
        exact k H' S
    · intro σ H' Q1 Q2 hm h
      obtain ⟨v, hv, p, xs, i, u, e1, e2, hs, he, q⟩ := h
      obtain ⟨sc, kk, ek, q⟩ := q
      exact ⟨v, hv, p, xs, i, u, e1, e2, hs, he, sc, kk, ek, hm _ _ q⟩
end
end K44


set_option Elab.async false
set_option linter.all false
set_option maxRecDepth 100000
set_option maxHeartbeats 2000000
namespace K44
open PySem PySem.Spec PyProof.Rows L2 RK
def spLIs (K : PySem.W.Frag) : Sp := fun vs H Q _ => ∃ v r, vs = [v] ∧ ValD K H v r ∧ ∀ H', L2.Same H H' → Q (.bl r) H'
def spSame : Sp := fun vs H Q _ => ∃ (t u : Addr) (x y : Int × Int), vs = [.ref t, .ref u] ∧ At H t x ∧ At H u y ∧ IsFr x ∧ x.1 * y.2 = y.1 * x.2 ∧ Sz 3000 x ∧ Sz 3000 y ∧ ∀ H', L2.Same H H' → Q (.bl true) H'
def spNum : Sp := fun vs H Q _ => ∃ p : Addr, vs = [.ref p] ∧ BoxAt H p ∧ ∀ (z : Int) (H' : Hp), z.natAbs < 2 ^ 67 → BoxAt H' p → El p H H' → Q (.int z) H'
def spPair : Sp := fun vs H Q _ => ∃ p : Addr, vs = [.ref p] ∧ BoxAt H p ∧ ∀ (t : Addr) (x : Int × Int) (H' : Hp), x.2 ≠ 0 → Sz 87 x → At H' t x → BoxAt H' p → Kp p H H' → t ≠ p → Q (.ref t) H'
def spTru : Sp := fun vs H Q _ => ∃ b c : Bool, vs = [.bl b, .bl c] ∧ Q (.bl (decide (b = c))) H
def spRef : Sp := fun vs H Q _ => ∃ (t : Addr) (b : Bool) (x : Int × Int), vs = [.ref t, .bl b] ∧ At H t x ∧ IsFr x ∧ Sz 1500 x ∧ ∀ H', L2.Same H H' → Q (.bl true) H'
theorem At.same {H H' : Hp} {t : Addr} {x : Int × Int} (S : L2.Same H H') (h : At H t x) : At H' t x := S _ _ h
theorem At.kp {H H' : Hp} {t p : Addr} {x : Int × Int} (S : Kp p H H') (h : At H t x) (n : t ≠ p) : At H' t x := S _ _ h n
theorem At.ne {H : Hp} {t p : Addr} {x : Int × Int} (h : At H t x) (b : BoxAt H p) : t ≠ p := fun e => by
  obtain ⟨c, r, n, hb⟩ := b
  unfold At at h
  rw [e, hb] at h
  cases h
theorem frV_pair {x : Int × Int} (h : IsFr x) : frV [.int x.1, .int x.2] = true := by
  show (decide (0 < x.2) && decide (Nat.gcd x.1.natAbs x.2.natAbs = 1)) = true
  rw [decide_eq_true h.1, decide_eq_true h.2]
  rfl
theorem valD_pair {K : PySem.W.Frag} {H : Hp} {t : Addr} {x : Int × Int} (h : At H t x) (f : IsFr x) : ValD K H (.ref t) true :=
  .inr ⟨t, _, rfl, h, (by show 2 ≤ 3; decide), fun _ z hz => (by
    rcases List.mem_cons.mp hz with rfl | hz
    · exact .inl ⟨_, rfl⟩
    · rcases List.mem_cons.mp hz with rfl | hz
      · exact .inl ⟨_, rfl⟩
      · cases hz), (frV_pair f).symm⟩
theorem ItemTy.mono {K : PySem.W.Frag} {H H' : Hp} (S : L2.Same H H') {v : V} (h : ItemTy K H v) : ItemTy K H' v := by
  rcases h with h | h | ⟨h0, T, h1, h2⟩
  · exact .inl h
  · exact .inr (.inl h)
  · exact .inr (.inr ⟨h0, T, TyX.mono S h1, h2⟩)
theorem ValD.mono {K : PySem.W.Frag} {H H' : Hp} (S : L2.Same H H') {v : V} {r : Bool} (h : ValD K H v r) : ValD K H' v r := by
  rcases h with ⟨h0, T, h1, h2⟩ | ⟨t, xs, e, h, hl, hi, er⟩
  · exact .inl ⟨h0, T, TyX.mono S h1, h2⟩
  · exact .inr ⟨t, xs, e, S _ _ h, hl, fun z x hx => (hi z x hx).mono S, er⟩
section
variable {P : Program} {w : World} {K : PySem.W.Frag} {mg : Str → Option Value} {base : Heap} {CN CR CF fI : Addr}
theorem scLIs : FnScope ["value", "part"] ["value"] (defScope sLIs) := ⟨rfl, rfl, rfl, by decide +kernel, rfl, by decide +kernel, by decide +kernel⟩
abbrev nLIs : List Str := ["value", "part"]
theorem ok_lis {f : Addr} {fd : FuncData} (F : Fun K "_law_is_fraction" "_law_is_fraction" sLIs f fd) (T : Txt K mg CN CR CF fI) (c__law_divisor : Cl P w K mg base CX0 1 "_law_divisor" ["one", "other"] spDiv) : FnOk P w K mg base CX0 2 f fd ["value"] (spLIs K) := by
  refine F.ok scLIs (fun vs H Q E h => ?_) (fun cdv A outer s H vs Q E hr h => ?_)
  · obtain ⟨v, r, rfl, _⟩ := h
    rfl
  · obtain ⟨v, r, rfl, hv, q⟩ := h
    refine ⟨_, (pss_cons (ps_if (PW.pt (pw_or (pt_not (pt_val (pe_callB (r := rIsi K) call_isi (by rfl) T.isi boot_isinstance (pa_cons (pv 0) (pa_cons (pe_bltn (v := .ty "tuple") (by rfl) T.tuple boot_tuple rfl) pa_nil))))) (pw_or1 (pt_cmpR op_ne (pe_callB call_len_seq (by rfl) T.len PySem.boot_len (pa_cons (pv 0) pa_nil)) pe_int (nomark _))))) (pss_one (ps_ret pe_bl)) pss_nil)
        (pss_cons (ps_if (pt_not (pt_val (pe_callB (cr_all rfl) (by rfl) T.all boot_all (pa_cons (pe_lc (own := [("part", 1)]) (g := gName 1) (tt := tYes) rfl scLIs.nd (pi_tup (pv 0)) (blkOk_by (N := nLIs) (sc := defScope sLIs) (by decide +kernel)) (fun _ _ _ _ _ => pg_name (i := 1) scLIs.nd rfl (Or.inl rfl)) (fun _ _ _ _ _ => pts_nil) (fun _ _ _ _ _ => (pe_and (pe_callB (r := rIsi K) call_isi (by rfl) T.isi boot_isinstance (pa_cons (pv 1) (pa_cons (pe_bltn (v := .ty "int") (by rfl) T.int boot_int rfl) pa_nil))) (pe_one (pe_not (pe_callB (r := rIsi K) call_isi (by rfl) T.isi boot_isinstance (pa_cons (pv 1) (pa_cons (pe_bltn (v := .ty "bool") (by rfl) T.bool (by decide +kernel) rfl) pa_nil)))))))) pa_nil)))) (pss_one (ps_ret pe_bl)) pss_nil)
        (pss_one (ps_ret (pe_and (pe_cmpR op_gt (pe_ix (r := rIxT K) ix_tup (pv 0) pe_int (fun _ _ => rfl)) pe_int (nomark _)) (pe_one (pe_cmpR op_eq (pe_f c__law_divisor hr (by decide) pass0 (pa_cons (pe_ix (r := rIxT K) ix_tup (pv 0) pe_int (fun _ _ => rfl)) (pa_cons (pe_ix (r := rIxT K) ix_tup (pv 0) pe_int (fun _ _ => rfl)) pa_nil))) pe_int (nomark _)))))))), ?_⟩
    rcases hv with ⟨rfl, Ty, hT, hk⟩ | ⟨t, xs, rfl, ht, hl, hi, rfl⟩
    · refine ⟨_, rfl, _, .ty "tuple", _, _, false, rfl, .ty _, hT, kit_ty hk, false, rfl, ?_⟩
      exact iteT (iteT (q H (L2.Same.refl H)))
    · refine ⟨_, rfl, _, .ty "tuple", _, _, true, rfl, .ty _, .base (.tup ht), kit_ty (by decide +kernel), true, rfl, ?_⟩
      refine iteF ⟨_, rfl, t, xs, rfl, .inr (SqT.of ht), rfl, _, rfl, ?_⟩
      by_cases h2 : xs.length = 2
      · match xs, h2, hi with
        | [x, y], _, hi =>
          have hx := hi rfl x (by simp)
          have hy := hi rfl y (by simp)
          refine iteF ?_
          refine ⟨_, rfl, t, rfl, ⟨_, SqT.of ht⟩, fun D hD => ?_⟩
          refine lc_tup (K := K) (a := t) (xs := [x, y]) (fun i H' => L2.Same H H' ∧ H' D = some (.lst (([x, y].take i).map fun z => V.bl (isInt z))))
            ⟨RK.Same.upd hD, upd_same⟩ (fun i H' _ p => SqT.of (p.1 _ _ ht)) ?_ ?_
          · rintro i z H' hz ⟨S, e⟩
            refine ⟨rfl, ?_⟩
            unfold tYes
            refine iteT ?_
            have hmem : z ∈ [x, y] := List.mem_of_getElem? hz
            refine int_test rfl ((hi rfl z hmem).mono S) ⟨_, e, ?_, RK.Same.updAt S hD, ?_⟩
            · rw [List.length_map]
              exact Nat.lt_of_le_of_lt (Nat.le_trans (List.length_take_le _ _) (Nat.le_of_lt_succ (List.getElem?_eq_some_iff.mp hz).1)) (show 1 < sizeLine by decide)
            · rw [upd_same]
              rw [List.take_add_one, hz, List.map_append]
              rfl
          · rintro H' ⟨S, e⟩
            refine ⟨D, [isInt x, isInt y], rfl, SqL.of e, _, rfl, ?_⟩
            have ht' := S _ _ ht
            cases hb : ([isInt x, isInt y].all id) with
            | false =>
              have e0 : frV [x, y] = false := frV_no (by simpa using hb)
              rw [e0] at q
              exact iteT (q H' S)
            | true =>
              refine iteF ?_
              have hxy : isInt x = true ∧ isInt y = true := by simpa using hb
              cases x with
              | int p =>
                cases y with
                | int z =>
                  refine ⟨_, rfl, t, _, 1, _, rfl, rfl, SqT.of ht', rfl, _, _, rfl, rfl, _, rfl, ?_⟩
                  by_cases hz : 0 < z
                  · rw [decide_eq_true hz]
                    refine iteT ⟨_, rfl, t, _, 0, _, rfl, rfl, SqT.of ht', rfl, _, rfl, t, _, 1, _, rfl, rfl, SqT.of ht', rfl, _, _, rfl, fun H2 S2 => ⟨rfl, ?_⟩⟩
                    have ee : frV [.int p, .int z] = decide (V.int ((Nat.gcd p.natAbs z.natAbs : Nat) : Int) = V.int 1) := by
                      rw [dec_int]
                      show (decide (0 < z) && decide (Nat.gcd p.natAbs z.natAbs = 1)) = _
                      rw [decide_eq_true hz, Bool.true_and, Bool.eq_iff_iff]
                      simp only [decide_eq_true_eq, beq_iff_eq]
                      omega
                    rw [← ee]
                    exact q H2 (S.trans S2)
                  · have ee : frV [.int p, .int z] = false := by
                      show (decide (0 < z) && _) = false
                      rw [decide_eq_false hz, Bool.false_and]
                    rw [ee] at q
                    rw [decide_eq_false hz]
                    exact iteF (q H' S)
                | _ => exact Bool.noConfusion hxy.2
              | _ => exact Bool.noConfusion hxy.1
      · rw [frV_len h2] at q
        refine ite2 (fun _ => q H (L2.Same.refl H)) (fun z => ?_)
        have z' : xs.length = 2 := by
          rw [dec_int] at z
          simp only [Bool.not_eq_true', beq_eq_false_iff_ne, ne_eq, Classical.not_not] at z
          omega
        exact absurd z' h2
theorem scSame : FnScope ["told", "pair"] ["told", "pair"] (defScope sSame) := ⟨rfl, rfl, rfl, by decide +kernel, rfl, by decide +kernel, by decide +kernel⟩
theorem ok_same {f : Addr} {fd : FuncData} (F : Fun K "_law_same" "_law_same" sSame f fd) (T : Txt K mg CN CR CF fI) (c__law_is_fraction : Cl P w K mg base CX0 2 "_law_is_fraction" ["value"] (spLIs K)) : FnOk P w K mg base CX0 3 f fd ["told", "pair"] spSame := by
  refine F.ok scSame (fun vs H Q E h => ?_) (fun cdv A outer s H vs Q E hr h => ?_)
  · obtain ⟨t, u, x, y, rfl, _⟩ := h
    rfl
  · obtain ⟨t, u, x, y, rfl, ht, hu, fx, hxy, zx, zy, k⟩ := h
    refine ⟨_, (pss_one (ps_ret (pe_and (pe_f c__law_is_fraction hr (by decide) pass0 (pa_cons (pv 0) pa_nil)) (pe_one (pe_cmpR op_eq (pe_op op_mulW (pe_ix (r := rIxT K) ix_tup (pv 0) pe_int (fun _ _ => rfl)) (pe_ix (r := rIxT K) ix_tup (pv 1) pe_int (fun _ _ => rfl))) (pe_op op_mulW (pe_ix (r := rIxT K) ix_tup (pv 1) pe_int (fun _ _ => rfl)) (pe_ix (r := rIxT K) ix_tup (pv 0) pe_int (fun _ _ => rfl))) (nomark _)))))), ?_⟩
    refine ⟨_, rfl, _, _, rfl, valD_pair ht fx, fun H1 S => ⟨true, rfl, iteT ?_⟩⟩
    have ht1 := ht.same S
    have hu1 := hu.same S
    refine ix0 rfl ht1 (ix1 rfl hu1 ⟨_, _, rfl, rfl, mulOk zx.1 zy.2 (by decide), ix0 rfl hu1 (ix1 rfl ht1 ⟨_, _, rfl, rfl, mulOk zy.1 zx.2 (by decide), rfl, ?_⟩)⟩)
    rw [decide_eq_true (congrArg V.int hxy)]
    exact k H1 S
theorem scNum : FnScope ["box"] ["box"] (defScope sNum) := ⟨rfl, rfl, rfl, by decide +kernel, rfl, by decide +kernel, by decide +kernel⟩
theorem ok_num {f : Addr} {fd : FuncData} (F : Fun K "_law_number" "_law_number" sNum f fd) (T : Txt K mg CN CR CF fI) (c__law_take : Cl P w K mg base CX0 1 "_law_take" ["box", "many"] spTake) : FnOk P w K mg base CX0 2 f fd ["box"] spNum := by
  refine F.ok scNum (fun vs H Q E h => ?_) (fun cdv A outer s H vs Q E hr h => ?_)
  · obtain ⟨p, rfl, _⟩ := h
    rfl
  · obtain ⟨p, rfl, hb, k⟩ := h
    refine ⟨_, (pss_cons (ps_if (pt_cmpR op_eq (pe_f c__law_take hr (by decide) pass0 (pa_cons (pv 0) (pa_cons pe_int pa_nil))) pe_int (nomark _)) (pss_one (ps_ret (pe_op op_sub (pe_f c__law_take hr (by decide) pass0 (pa_cons (pv 0) (pa_cons (pe_op op_pow pe_int pe_int) pa_nil))) (pe_op op_pow pe_int pe_int)))) pss_nil)
        (pss_one (ps_ret (pe_op op_sub (pe_f c__law_take hr (by decide) pass0 (pa_cons (pv 0) (pa_cons pe_int pa_nil))) pe_int)))), ?_⟩
    refine ⟨_, rfl, p, 3, rfl, hb, by decide, up2 (n := 2) (by decide) (by decide), fun d H1 d0 d1 b1 e1 => ⟨rfl, _, rfl, ?_⟩⟩
    refine ite2 (fun _ => ?_) (fun _ => ?_)
    · refine ⟨_, rfl, _, _, rfl, rfl, ⟨by decide, by decide, by decide⟩, p, _, rfl, b1, by decide, up2 (n := 67) (by decide) (by decide), fun d2 H2 d20 d21 b2 e2 => ?_⟩
      refine ⟨_, _, rfl, rfl, ⟨by decide, by decide, by decide⟩, _, _, rfl, rfl, k _ H2 ?_ b2 (e1.trans e2)⟩
      have h1 : ((10 : Int) ^ (20 : Int).toNat) = 100000000000000000000 := by decide
      have h2 : ((10 : Int) ^ (12 : Int).toNat) = 1000000000000 := by decide
      rw [h1] at d21
      rw [h2]
      have h3 : (2 : Nat) ^ 67 = 147573952589676412928 := by decide
      rw [h3]
      omega
    · refine ⟨_, rfl, p, 19, rfl, b1, by decide, up2 (n := 5) (by decide) (by decide), fun d2 H2 d20 d21 b2 e2 => ?_⟩
      refine ⟨_, _, rfl, rfl, k _ H2 ?_ b2 (e1.trans e2)⟩
      have h3 : (2 : Nat) ^ 67 = 147573952589676412928 := by decide
      rw [h3]
      omega
theorem scPair : FnScope ["box", "top", "bottom", "many"] ["box"] (defScope sPair) := ⟨rfl, rfl, rfl, by decide +kernel, rfl, by decide +kernel, by decide +kernel⟩
theorem ok_pair {f : Addr} {fd : FuncData} (F : Fun K "_law_pair" "_law_pair" sPair f fd) (T : Txt K mg CN CR CF fI) (c__law_number : Cl P w K mg base CX0 2 "_law_number" ["box"] spNum)
    (c__law_pick : Cl P w K mg base CX0 2 "_law_pick" ["box", "some"] spPick) : FnOk P w K mg base CX0 3 f fd ["box"] spPair := by
  refine F.ok scPair (fun vs H Q E h => ?_) (fun cdv A outer s H vs Q E hr h => ?_)
  · obtain ⟨p, rfl, _⟩ := h
    rfl
  · obtain ⟨p, rfl, hb, k⟩ := h
    refine ⟨_, (pss_cons (ps_par (i := 1) (j := 2) (by rfl) scPair.nd rfl rfl (by decide) rfl rfl (pa_cons (pe_f c__law_number hr (by decide) pass0 (pa_cons (pv 0) pa_nil)) (pa_cons (pe_f c__law_number hr (by decide) pass0 (pa_cons (pv 0) pa_nil)) pa_nil)) (by rfl))
        (pss_cons (ps_set (i := 3) scPair.nd rfl (Or.inl rfl) (pe_f c__law_pick hr (by decide) pass0 (pa_cons (pv 0) (pa_cons (pe_lst (pa_cons pe_int (pa_cons pe_int (pa_cons pe_int (pa_cons pe_int (pa_cons (pe_op op_pow pe_int pe_int) pa_nil)))))) pa_nil))))
        (pss_one (ps_ret (pe_tup (pa_cons (pe_op op_mulW (pv 1) (pv 3)) (pa_cons (pe_ifExp (pt_cmpR op_ne (pv 2) pe_int (nomark _)) (pe_op op_mulW (pv 3) (pv 2)) (pv 3)) pa_nil))))))), ?_⟩
    refine ⟨_, rfl, p, rfl, hb, fun x H1 x1 b1 e1 => ⟨_, rfl, p, rfl, b1, fun y H2 y1 b2 e2 => ⟨_, _, rfl, ?_⟩⟩⟩
    refine ⟨_, rfl, _, _, rfl, rfl, ⟨by decide, by decide, by decide⟩, (by show 5 ≤ sizeLine; decide), fun l hl => ?_⟩
    have lp : l ≠ p := fun e => by
      obtain ⟨c, r, n, hp⟩ := b2
      rw [e, hp] at hl
      cases hl
    refine ⟨p, l, _, rfl, K44.Same.box (RK.Same.upd hl) b2, upd_same, lp, by decide, by decide, fun v H3 hv b3 e3 => ?_⟩
    obtain ⟨m, rfl, m0, m1⟩ : ∃ m : Int, v = .int m ∧ 1 ≤ m ∧ m.natAbs < 2 ^ 20 := by
      simp only [List.mem_cons, List.not_mem_nil, or_false] at hv
      rcases hv with rfl | rfl | rfl | rfl | rfl <;> exact ⟨_, rfl, by decide, by decide⟩
    have kp : Kp p H H3 := (e1.kp.trans e2.kp).trans ((Kp.of (RK.Same.upd hl)).trans e3.kp)
    have fin : ∀ z : Int, z ≠ 0 → z.natAbs < 2 ^ 87 → ∀ t, H3 t = none → Q (.ref t) (upd H3 t (pairV (x * m, z))) := fun z hz hz2 t ht =>
      k t (x * m, z) _ hz ⟨mul_lt2 (n := 67) (m := 20) x1 m1, hz2⟩ upd_same (K44.Same.box (RK.Same.upd ht) b3) (kp.trans (Kp.of (RK.Same.upd ht))) (fun e => by
        obtain ⟨c, r, n, hp⟩ := b3
        rw [e, hp] at ht
        cases ht)
    refine ⟨_, rfl, _, rfl, _, _, rfl, rfl, mulOk x1 m1 (by decide), _, rfl, rfl, _, rfl, ?_⟩
    refine ite2 (fun hz => ?_) (fun hz => ?_)
    · have hy : y ≠ 0 := fun e => by rw [e] at hz; exact absurd hz (by decide)
      refine ⟨_, rfl, _, rfl, _, _, rfl, rfl, mulOk m1 y1 (by decide), (by show 2 ≤ sizeLine; decide), fun t ht => fin _ (Int.mul_ne_zero (by omega) hy) ?_ t ht⟩
      exact mul_lt2 (n := 20) (m := 67) m1 y1
    · exact ⟨_, rfl, (by show 2 ≤ sizeLine; decide), fun t ht => fin m (by omega) (up2 m1 (by decide)) t ht⟩
theorem scTru : FnScope ["told", "due"] ["told", "due"] (defScope sTru) := ⟨rfl, rfl, rfl, by decide +kernel, rfl, by decide +kernel, by decide +kernel⟩
theorem ok_tru {f : Addr} {fd : FuncData} (F : Fun K "_law_truth" "_law_truth" sTru f fd) : FnOk P w K mg base CX0 1 f fd ["told", "due"] spTru := by
  refine F.ok scTru (fun vs H Q E h => ?_) (fun cdv A outer s H vs Q E hr h => ?_)
  · obtain ⟨b, c, rfl, _⟩ := h
    rfl
  · obtain ⟨b, c, rfl, k⟩ := h
    refine ⟨_, (pss_one (ps_ret (pe_ifExp (pt_val (pv 1)) (pe_cmpR op_isBl (pv 0) pe_bl (nomark _)) (pe_cmpR op_isBl (pv 0) pe_bl (nomark _))))), ?_⟩
    refine ⟨_, rfl, c, rfl, ?_⟩
    cases c with
    | true => exact iteT ⟨_, rfl, _, _, rfl, rfl, k⟩
    | false => exact iteF ⟨_, rfl, _, _, rfl, rfl, k⟩
/-! ### the error, caught -/
def tSuite (K : PySem.W.Frag) (CN CF : Addr) : Addr → Value → Option Addr → TS := fun a cls d =>
  tRet (tAndV (tCB (rIsErr K CN a cls d) (tCons (tVar 2) (tCons (tC (.ref CN)) tNil))) (tAndV (tNotV (tCB (rIsErr K CN a cls d) (tCons (tVar 2) (tCons (tC (.ref CF)) tNil)))) (tOp rEq (tXf a cls d CN "word" (tVar 2)) (tC (.str "bottom")))))
def tBody (K : PySem.W.Frag) (CN : Addr) : WX → TS := fun W => tIfS (tB (tVar 1))
  (tDrop (tCallS (spRatio CN) (WE W) (tCons (tVar 0) (tCons (tCall (spFr CN) [] E0 (tCons (tC (.int 0)) (tCons (tC (.int 5)) tNil))) tNil))))
  (tDrop (tCallKS (spFr CN) kwId (WE W) tNil (tCons (tOp (rIxT K) (tVar 0) (tC (.int 0))) (tCons (tC (.int 0)) tNil))))
theorem scRef : FnScope ["one", "by_ratio", "error"] ["one", "by_ratio"] (defScope sRef) := ⟨rfl, rfl, rfl, by decide +kernel, rfl, by decide +kernel, by decide +kernel⟩
theorem ok_ref {f : Addr} {fd : FuncData} (F : Fun K "_law_refused" "_law_refused" sRef f fd) (T : Txt K mg CN CR CF fI) (c_fr : Cl P w K mg base (L2.CX P w) 3 "fraction_of" ["top", "bottom"] (spFr CN))
    (k_fr : Ck P w K mg base (L2.CX P w) 3 "fraction_of" ["top", "bottom"] ["top", "bottom"] kwId (spFr CN)) (c_ratio : Cl P w K mg base (L2.CX P w) 4 "ratio" ["one", "other"] (spRatio CN)) :
    FnOk P w K mg base CX0 6 f fd ["one", "by_ratio"] spRef := by
  refine F.ok scRef (fun vs H Q E h => ?_) (fun cdv A outer s H vs Q E hr h => ?_)
  · obtain ⟨t, b, x, rfl, _⟩ := h
    rfl
  · obtain ⟨t, b, x, rfl, ht, fx, zx, k⟩ := h
    refine ⟨_, pss_cons (ps_try_as (i := 2) (tb := tBody K CN) (ts := tSuite K CN CF) (Wout := fun _ _ _ _ => False) rfl rfl scRef.nd rfl rfl ⟨rfl, by decide, Or.inl T.gR⟩ takes0
        (fun W pn xe tk _ => pss_one (ps_if (pt_val (pv 1))
          (pss_one (ps_expr (pe_fS c_ratio (j := 5) (hr.mono (by decide)) (by decide) (fun σ => passAt tk σ) (pa_cons (pv 0) (pa_cons (pe_f c_fr (j := 5) (hr.mono (by decide)) (by decide) passL (pa_cons pe_int (pa_cons pe_int pa_nil))) pa_nil)))))
          (pss_one (ps_expr (pe_kS k_fr (j := 5) (hr.mono (by decide)) (by decide) (fun σ => passAt tk σ) (pk_cons (pe_ix ix_tup (pv 0) pe_int (fun _ _ => rfl)) (pk_cons pe_int pk_nil)))))))
        (fun a oe cls d pn hz hf => pss_one (ps_ret (pe_and (pe_callB (call_isErr T.err.exc hz hf) (by rfl) T.isi boot_isinstance (pa_cons (pv 2) (pa_cons (pe_glob (by rfl) T.err.gC rfl) pa_nil)))
          (pe_and (pe_not (pe_callB (call_isErr T.err.exc hz hf) (by rfl) T.isi boot_isinstance (pa_cons (pv 2) (pa_cons (pe_glob (by rfl) T.gF rfl) pa_nil))))
          (pe_one (pe_cmpR op_eq (pe_xf T.err.xf T.err.no hz hf (pv 2)) pe_str (nomark _))))))))
      (pss_one (ps_ret pe_bl)), ?_⟩
    have suite : ∀ (D : Ends) (σ : L2.St) (H1 : Hp) (d : Addr), σ = [some (.ref t), some (.bl b), none] → H1 d = none → L2.Same H H1 → D.rt = Q →
        wAs K (.ref CR) 2 (tSuite K CN CF) (fun _ _ _ _ => False) D (.ref CN) (some d) σ (upd H1 d (.xd [("word", .str "bottom")])) := by
      rintro D σ H1 d rfl hd S hD
      refine ⟨true, T.nr, fun _ a ha => ?_, fun q => Bool.noConfusion q⟩
      refine ⟨_, rfl, _, _, true, d, _, rfl, rfl, rfl, .own CN, upd_same, T.nn, true, rfl, iteT ?_⟩
      refine ⟨_, rfl, _, _, false, d, _, rfl, rfl, rfl, .own CF, upd_same, T.nf, false, rfl, true, rfl, iteT ?_⟩
      refine ⟨_, rfl, rfl, rfl, d, _, _, rfl, upd_same, rfl, rfl, ?_⟩
      show D.rt (.bl true) _
      rw [hD]
      exact k _ (S.trans (RK.Same.upd hd))
    show tIfS _ _ _ _ _ _
    cases b with
    | true =>
      refine ⟨_, rfl, true, rfl, iteT ?_⟩
      refine ⟨_, rfl, _, _, rfl, up2 (n := 1) (by decide) (by decide), up2 (n := 3) (by decide) (by decide), fun e => absurd e (by decide), fun _ u hu => ?_⟩
      have ef : fr 0 5 = (0, 1) := by decide
      have hu1 : At (upd H u (.tup [.int (fr 0 5).1, .int (fr 0 5).2])) u (0, 1) := by rw [ef]; exact upd_same
      refine ⟨t, u, x, (0, 1), rfl, ht.same (RK.Same.upd hu), hu1, fx, isFr01, zx, ⟨up2 (n := 1) (by decide) (by decide), up2 (n := 1) (by decide) (by decide)⟩, fun _ d hd => ?_, fun e => absurd rfl e⟩
      exact suite _ _ _ d rfl hd (RK.Same.upd hu) rfl
    | false =>
      refine ⟨_, rfl, false, rfl, iteF ?_⟩
      refine ix0 rfl ht ⟨_, _, rfl, up2 zx.1 (by decide), up2 (n := 1) (by decide) (by decide), fun _ d hd => ?_, fun e => absurd rfl e⟩
      exact suite _ _ _ d rfl hd (L2.Same.refl H) rfl
end
end K44


set_option Elab.async false
set_option linter.all false
set_option maxRecDepth 100000
set_option maxHeartbeats 2000000
namespace K44
open PySem PySem.Spec PyProof.Rows L2 RK
/-! ### values that are fractions or almost -/
/-- te gives, from H on, a part of a pair -/
def GoI (K : PySem.W.Frag) (σ : L2.St) (H : Hp) (te : TE) : Prop := ∀ H1, L2.Same H H1 → ∀ Q : VK, (∀ v H2, L2.Same H1 H2 → ItemTy K H2 v → Q v H2) → te σ H1 Q
/-- te gives, from H on, a value that may be asked for being a fraction -/
def GoV (K : PySem.W.Frag) (σ : L2.St) (H : Hp) (te : TE) : Prop := ∀ H1, L2.Same H H1 → ∀ Q : VK, (∀ v H2, L2.Same H1 H2 → (∃ r, ValD K H2 v r) → Q v H2) → te σ H1 Q
def GoA (K : PySem.W.Frag) (σ : L2.St) (H : Hp) (n : Nat) (ta : TA) : Prop := ∀ H1, L2.Same H H1 → ∀ Q : List V → Hp → Prop, (∀ vs H2, L2.Same H1 H2 → vs.length = n → (∀ v ∈ vs, ∃ r, ValD K H2 v r) → Q vs H2) → ta σ H1 Q
/-- the same for parts -/
def GoP (K : PySem.W.Frag) (σ : L2.St) (H : Hp) (n : Nat) (ta : TA) : Prop := ∀ H1, L2.Same H H1 → ∀ Q : List V → Hp → Prop, (∀ vs H2, L2.Same H1 H2 → vs.length = n → (∀ v ∈ vs, ItemTy K H2 v) → Q vs H2) → ta σ H1 Q
/-- te gives, from H on, an int of some size -/
def GoZ (σ : L2.St) (H : Hp) (n : Nat) (te : TE) : Prop := ∀ H1, L2.Same H H1 → ∀ Q : VK, (∀ z : Int, z.natAbs < 2 ^ n → Q (.int z) H1) → te σ H1 Q
section
variable {K : PySem.W.Frag} {σ : L2.St} {H : Hp} {n m : Nat} {ta tb te : TE} {t : TA} {i : Nat} {z : Int}
theorem goA_nil : GoA K σ H 0 tNil := fun H1 _ Q q => q [] H1 (L2.Same.refl H1) rfl fun v hv => by cases hv
theorem goA_cons (a : GoV K σ H te) (b : GoA K σ H n t) : GoA K σ H (n + 1) (tCons te t) := fun H1 S Q q => a H1 S _ fun v H2 S2 hv => b H2 (S.trans S2) _ fun vs H3 S3 hl hvs =>
  q (v :: vs) H3 (S2.trans S3) (by rw [List.length_cons, hl]) fun x hx => by
    rcases List.mem_cons.mp hx with rfl | hx
    · obtain ⟨r, hr⟩ := hv
      exact ⟨r, hr.mono S3⟩
    · exact hvs x hx
theorem goP_nil : GoP K σ H 0 tNil := fun H1 _ Q q => q [] H1 (L2.Same.refl H1) rfl fun v hv => by cases hv
theorem goP_cons (a : GoI K σ H te) (b : GoP K σ H n t) : GoP K σ H (n + 1) (tCons te t) := fun H1 S Q q => a H1 S _ fun v H2 S2 hv => b H2 (S.trans S2) _ fun vs H3 S3 hl hvs =>
  q (v :: vs) H3 (S2.trans S3) (by rw [List.length_cons, hl]) fun x hx => by
    rcases List.mem_cons.mp hx with rfl | hx
    · exact hv.mono S3
    · exact hvs x hx
theorem goV_tup (a : GoP K σ H n t) (h : n ≤ 3) : GoV K σ H (tTup t) := fun H1 S Q q => a H1 S _ fun vs H2 S2 hl hvs => ⟨Nat.le_trans (Nat.le_of_eq hl) (Nat.le_trans h (by decide)), fun p hp =>
  q (.ref p) _ (S2.trans (RK.Same.upd hp)) ⟨_, .inr ⟨p, vs, rfl, upd_same, by omega, fun _ x hx => (hvs x hx).mono (RK.Same.upd hp), rfl⟩⟩⟩
theorem goI_tup (a : GoP K σ H n t) (h : n ≤ 3) : GoI K σ H (tTup t) := fun H1 S Q q => a H1 S _ fun vs H2 S2 hl hvs => ⟨Nat.le_trans (Nat.le_of_eq hl) (Nat.le_trans h (by decide)), fun p hp =>
  q (.ref p) _ (S2.trans (RK.Same.upd hp)) (.inr (.inr ⟨rfl, "tuple", .base (.tup upd_same), by decide +kernel⟩))⟩
theorem goI_z (a : GoZ σ H n te) : GoI K σ H te := fun H1 S Q q => a H1 S Q fun z _ => q _ H1 (L2.Same.refl H1) (.inl ⟨z, rfl⟩)
theorem goV_z (a : GoZ σ H n te) : GoV K σ H te := fun H1 S Q q => a H1 S Q fun z _ => q _ H1 (L2.Same.refl H1) ⟨false, .inl ⟨rfl, "int", .base (.int z), by decide +kernel⟩⟩
theorem goI_bl {b : Bool} : GoI K σ H (tC (.bl b)) := fun H1 S Q q => q _ H1 (L2.Same.refl H1) (.inr (.inl ⟨b, rfl⟩))
theorem goI_non : GoI K σ H (tC .non) := fun H1 S Q q => q _ H1 (L2.Same.refl H1) (.inr (.inr ⟨rfl, "NoneType", .base .non, by decide +kernel⟩))
theorem goI_str {x : Str} : GoI K σ H (tC (.str x)) := fun H1 S Q q => q _ H1 (L2.Same.refl H1) (.inr (.inr ⟨rfl, "str", .base (.str x), by decide +kernel⟩))
theorem goV_non : GoV K σ H (tC .non) := fun H1 S Q q => q _ H1 (L2.Same.refl H1) ⟨false, .inl ⟨rfl, "NoneType", .base .non, by decide +kernel⟩⟩
theorem goV_str {x : Str} : GoV K σ H (tC (.str x)) := fun H1 S Q q => q _ H1 (L2.Same.refl H1) ⟨false, .inl ⟨rfl, "str", .base (.str x), by decide +kernel⟩⟩
theorem goV_lst (a : GoP K σ H n t) (h : n ≤ 3) : GoV K σ H (tLst t) := fun H1 S Q q => a H1 S _ fun vs H2 S2 hl hvs => ⟨Nat.le_trans (Nat.le_of_eq hl) (Nat.le_trans h (by decide)), fun p hp =>
  q (.ref p) _ (S2.trans (RK.Same.upd hp)) ⟨false, .inl ⟨rfl, "list", .base (.lst upd_same), by decide +kernel⟩⟩⟩
theorem goV_at {u : Addr} {x : Int × Int} (hs : σ[i]? = some (some (.ref u))) (h : At H u x) (f : IsFr x) : GoV K σ H (tVar i) := fun H1 S Q q => ⟨_, hs, q _ H1 (L2.Same.refl H1) ⟨true, valD_pair (h.same S) f⟩⟩
theorem goZ_var (hs : σ[i]? = some (some (.int z))) (h : z.natAbs < 2 ^ n) : GoZ σ H n (tVar i) := fun H1 S Q q => ⟨_, hs, q z h⟩
theorem goZ_c (h : z.natAbs < 2 ^ n) : GoZ σ H n (tC (.int z)) := fun H1 S Q q => q z h
theorem goZ_mul (a : GoZ σ H n ta) (b : GoZ σ H m tb) (h : n + m ≤ 900000) : GoZ σ H (n + m) (tOp (rI CMulW fun i j => .int (i * j)) ta tb) := fun H1 S Q q =>
  a H1 S _ fun x hx => b H1 S _ fun y hy => ⟨x, y, rfl, rfl, mulOk hx hy h, q _ (mul_lt2 hx hy)⟩
theorem goZ_sub (a : GoZ σ H n ta) (b : GoZ σ H n tb) : GoZ σ H (n + 1) (tOp (rI0 fun i j => .int (i - j)) ta tb) := fun H1 S Q q => a H1 S _ fun x hx => b H1 S _ fun y hy => ⟨x, y, rfl, rfl, q _ (sub_lt2 hx hy)⟩
theorem goZ_add (a : GoZ σ H n ta) (b : GoZ σ H n tb) : GoZ σ H (n + 1) (tOp (rI0 fun i j => .int (i + j)) ta tb) := fun H1 S Q q => a H1 S _ fun x hx => b H1 S _ fun y hy => ⟨x, y, rfl, rfl, q _ (add_lt2 hx hy)⟩
end
/-- l holds values that may be asked for being fractions -/
def AskL (K : PySem.W.Frag) (H : Hp) (l : Addr) (vs : List V) : Prop := H l = some (.lst vs) ∧ ∀ v ∈ vs, ∃ r, ValD K H v r
theorem AskL.mono {K : PySem.W.Frag} {H H' : Hp} (S : L2.Same H H') {l : Addr} {vs : List V} (h : AskL K H l vs) : AskL K H' l vs := ⟨S _ _ h.1, fun v hv => by
  obtain ⟨r, hr⟩ := h.2 v hv
  exact ⟨r, hr.mono S⟩⟩
def spAlm (K : PySem.W.Frag) : Sp := fun vs H Q _ => ∃ (p t : Addr) (x : Int × Int), vs = [.ref p, .ref t] ∧ BoxAt H p ∧ At H t x ∧ IsFr x ∧ Sz 1500 x ∧
  ∀ (l : Addr) (us : List V) (H' : Hp), AskL K H' l us → us.length ≤ 30 → Kp p H H' → BoxAt H' p → Q (.ref l) H'
section
variable {P : Program} {w : World} {K : PySem.W.Frag} {mg : Str → Option Value} {base : Heap} {CN CR CF fI : Addr}
theorem goA_lst {σ : L2.St} {H : Hp} {n : Nat} {ta : TA} (a : GoA K σ H n ta) (hn : n ≤ 30) {H1 : Hp} (S : L2.Same H H1) {Q : VK}
    (q : ∀ l us H2, L2.Same H1 H2 → us.length = n → AskL K H2 l us → Q (.ref l) H2) : tLst ta σ H1 Q := a H1 S _ fun vs H2 S2 hl hvs => ⟨Nat.le_trans (Nat.le_of_eq hl) (Nat.le_trans hn (by decide)), fun p hp =>
  q p vs _ (S2.trans (RK.Same.upd hp)) hl ⟨upd_same, fun v hv => by
    obtain ⟨r, hr⟩ := hvs v hv
    exact ⟨r, hr.mono (RK.Same.upd hp)⟩⟩⟩
theorem scAlm : FnScope ["box", "one", "top", "bottom", "many", "found"] ["box", "one"] (defScope sAlm) := ⟨rfl, rfl, rfl, by decide +kernel, rfl, by decide +kernel, by decide +kernel⟩
theorem cat_ask {H : Hp} {l b : Addr} {us zs : List V} {Q : VK} (h1 : AskL K H l us) (h2 : AskL K H b zs) (hl : us.length + zs.length ≤ 60) (q : ∀ p H', L2.Same H H' → AskL K H' p (us ++ zs) → Q (.ref p) H') :
    rCat (.ref l) (.ref b) H Q := ⟨l, b, us, zs, rfl, rfl, h1.1, h2.1, Nat.le_trans hl (by decide), fun p hp => q p _ (RK.Same.upd hp) ⟨upd_same, fun v hv => by
  have S := RK.Same.upd (o := .lst (us ++ zs)) hp
  rcases List.mem_append.mp hv with hv | hv
  · obtain ⟨r, hr⟩ := h1.2 v hv
    exact ⟨r, hr.mono S⟩
  · obtain ⟨r, hr⟩ := h2.2 v hv
    exact ⟨r, hr.mono S⟩⟩⟩
theorem ok_alm {f : Addr} {fd : FuncData} (F : Fun K "_law_almost" "_law_almost" sAlm f fd) (T : Txt K mg CN CR CF fI) (c__law_take : Cl P w K mg base CX0 1 "_law_take" ["box", "many"] spTake) : FnOk P w K mg base CX0 2 f fd ["box", "one"] (spAlm K) := by
  refine F.ok scAlm (fun vs H Q E h => ?_) (fun cdv A outer s H vs Q E hr h => ?_)
  · obtain ⟨p, t, x, rfl, _⟩ := h
    rfl
  · obtain ⟨p, t, x, rfl, hb, ht, fx, zx, k⟩ := h
    refine ⟨_, (pss_cons (ps_par3 (i := 2) (j := 3) (l := 4) (by rfl) scAlm.nd rfl rfl rfl (by decide) (by decide) (by decide) rfl rfl rfl (pa_cons (pe_ix (r := rIxT K) ix_tup (pv 1) pe_int (fun _ _ => rfl)) (pa_cons (pe_ix (r := rIxT K) ix_tup (pv 1) pe_int (fun _ _ => rfl)) (pa_cons (pe_op op_add pe_int (pe_f c__law_take hr (by decide) pass0 (pa_cons (pv 0) (pa_cons pe_int pa_nil)))) pa_nil))) (by rfl))
        (pss_cons (ps_set (i := 5) scAlm.nd rfl (Or.inl rfl) (pe_lst (pa_cons (pv 1) (pa_cons (pe_tup (pa_cons (pe_op op_mulW (pv 2) (pv 4)) (pa_cons (pe_op op_mulW (pv 3) (pv 4)) pa_nil))) (pa_cons (pe_tup (pa_cons (pv 2) (pa_cons (pe_op op_sub pe_int (pv 3)) pa_nil))) (pa_cons (pe_tup (pa_cons (pe_op op_sub pe_int (pv 2)) (pa_cons (pe_op op_sub pe_int (pv 3)) pa_nil))) (pa_cons (pe_tup (pa_cons pe_int (pa_cons pe_int pa_nil))) (pa_cons (pe_tup (pa_cons pe_int (pa_cons (pv 4) pa_nil))) (pa_cons (pe_tup (pa_cons pe_int (pa_cons pe_int pa_nil))) pa_nil)))))))))
        (pss_cons (ps_set (i := 5) scAlm.nd rfl (Or.inl rfl) (pe_op op_cat (pv 5) (pe_lst (pa_cons (pe_lst (pa_cons (pv 2) (pa_cons (pv 3) pa_nil))) (pa_cons (pe_tup (pa_cons (pv 2) (pa_cons (pv 3) (pa_cons pe_int pa_nil)))) (pa_cons (pe_tup (pa_cons (pv 2) pa_nil)) (pa_cons (pe_tup pa_nil) (pa_cons (pe_tup (pa_cons (pv 2) (pa_cons pe_int pa_nil))) (pa_cons (pe_tup (pa_cons pe_bl (pa_cons pe_int pa_nil))) (pa_cons (pe_tup (pa_cons pe_int (pa_cons pe_bl pa_nil))) (pa_cons (pe_tup (pa_cons (pv 4) (pa_cons pe_int pa_nil))) (pa_cons (pe_tup (pa_cons (pv 4) (pa_cons (pv 4) pa_nil))) pa_nil))))))))))))
        (pss_one (ps_ret (pe_op op_cat (pv 5) (pe_lst (pa_cons pe_non (pa_cons (pv 2) (pa_cons pe_str (pa_cons (pe_tup (pa_cons pe_str (pa_cons pe_int pa_nil))) (pa_cons (pe_tup (pa_cons pe_non (pa_cons pe_int pa_nil))) (pa_cons (pe_tup (pa_cons (pv 2) (pa_cons pe_non pa_nil))) (pa_cons (pe_tup (pa_cons (pe_tup (pa_cons (pv 2) (pa_cons (pv 3) pa_nil))) (pa_cons pe_int pa_nil))) (pa_cons (pe_tup (pa_cons (pe_op op_sub pe_int pe_int) (pa_cons pe_int pa_nil))) (pa_cons (pe_tup (pa_cons (pv 4) (pa_cons (pe_op op_add (pv 4) pe_int) pa_nil))) pa_nil)))))))))))))))), ?_⟩
    refine ix0 rfl ht (ix1 rfl ht ⟨_, rfl, p, 3, rfl, hb, by decide, up2 (n := 2) (by decide) (by decide), fun d H1 d0 d1 b1 e1 => ⟨_, _, rfl, rfl, _, _, _, rfl, ?_⟩⟩)
    have ht1 : At H1 t x := ht.kp e1.kp (ht.ne hb)
    have hm : (2 + d).natAbs < 2 ^ 10 := by
      have : (2 : Nat) ^ 10 = 1024 := by decide
      omega
    have kp1 := e1.kp
    obtain ⟨sg, hsg⟩ : ∃ sg : Option V → L2.St, sg = fun f => [some (.ref p), some (.ref t), some (.int x.1), some (.int x.2), some (.int (2 + d)), f] := ⟨_, rfl⟩
    have zt : ∀ f H', GoZ (sg f) H' 1500 (tVar 2) := fun f H' => by rw [hsg]; exact goZ_var rfl zx.1
    have zb : ∀ f H', GoZ (sg f) H' 1500 (tVar 3) := fun f H' => by rw [hsg]; exact goZ_var rfl zx.2
    have zm : ∀ f H', GoZ (sg f) H' 10 (tVar 4) := fun f H' => by rw [hsg]; exact goZ_var rfl hm
    have at1 : ∀ f, GoV K (sg f) H1 (tVar 1) := fun f => by rw [hsg]; exact goV_at rfl ht1 fx
    have g1 := (goA_cons (at1 none)
      (goA_cons (goV_tup (goP_cons (goI_z (goZ_mul (zt none H1) (zm none H1) (by decide))) (goP_cons (goI_z (goZ_mul (zb none H1) (zm none H1) (by decide))) goP_nil)) (by decide))
      (goA_cons (goV_tup (goP_cons (goI_z (zt none H1)) (goP_cons (goI_z (goZ_sub (goZ_c (σ := sg none) (H := H1) (z := 0) (n := 1500) (up2 (n := 1) (by decide) (by decide))) (zb none H1))) goP_nil)) (by decide))
      (goA_cons (goV_tup (goP_cons (goI_z (goZ_sub (goZ_c (σ := sg none) (H := H1) (z := 0) (n := 1500) (up2 (n := 1) (by decide) (by decide))) (zt none H1))) (goP_cons (goI_z (goZ_sub (goZ_c (σ := sg none) (H := H1) (z := 0) (n := 1500) (up2 (n := 1) (by decide) (by decide))) (zb none H1))) goP_nil)) (by decide))
      (goA_cons (goV_tup (goP_cons (goI_z (goZ_c (σ := sg none) (H := H1) (z := 0) (n := 1) (by decide))) (goP_cons (goI_z (goZ_c (σ := sg none) (H := H1) (z := 1) (n := 1) (by decide))) goP_nil)) (by decide))
      (goA_cons (goV_tup (goP_cons (goI_z (goZ_c (σ := sg none) (H := H1) (z := 0) (n := 1) (by decide))) (goP_cons (goI_z (zm none H1)) goP_nil)) (by decide))
      (goA_cons (goV_tup (goP_cons (goI_z (goZ_c (σ := sg none) (H := H1) (z := 0) (n := 1) (by decide))) (goP_cons (goI_z (goZ_c (σ := sg none) (H := H1) (z := 0) (n := 1) (by decide))) goP_nil)) (by decide))
      (goA_nil (K := K) (σ := sg none) (H := H1)))))))))
    have g2 := fun l1 H2 => (goA_cons (goV_lst (goP_cons (goI_z (zt (some (.ref l1)) H2)) (goP_cons (goI_z (zb (some (.ref l1)) H2)) goP_nil)) (by decide))
      (goA_cons (goV_tup (goP_cons (goI_z (zt (some (.ref l1)) H2)) (goP_cons (goI_z (zb (some (.ref l1)) H2)) (goP_cons (goI_z (goZ_c (σ := sg (some (.ref l1))) (H := H2) (z := 1) (n := 1) (by decide))) goP_nil))) (by decide))
      (goA_cons (goV_tup (goP_cons (goI_z (zt (some (.ref l1)) H2)) goP_nil) (by decide))
      (goA_cons (goV_tup goP_nil (by decide))
      (goA_cons (goV_tup (goP_cons (goI_z (zt (some (.ref l1)) H2)) (goP_cons (goI_z (goZ_c (σ := sg (some (.ref l1))) (H := H2) (z := 0) (n := 1) (by decide))) goP_nil)) (by decide))
      (goA_cons (goV_tup (goP_cons (goI_bl (b := true)) (goP_cons (goI_z (goZ_c (σ := sg (some (.ref l1))) (H := H2) (z := 1) (n := 1) (by decide))) goP_nil)) (by decide))
      (goA_cons (goV_tup (goP_cons (goI_z (goZ_c (σ := sg (some (.ref l1))) (H := H2) (z := 1) (n := 1) (by decide))) (goP_cons (goI_bl (b := true)) goP_nil)) (by decide))
      (goA_cons (goV_tup (goP_cons (goI_z (zm (some (.ref l1)) H2)) (goP_cons (goI_z (goZ_c (σ := sg (some (.ref l1))) (H := H2) (z := 1) (n := 1) (by decide))) goP_nil)) (by decide))
      (goA_cons (goV_tup (goP_cons (goI_z (zm (some (.ref l1)) H2)) (goP_cons (goI_z (zm (some (.ref l1)) H2)) goP_nil)) (by decide))
      (goA_nil (K := K) (σ := sg (some (.ref l1))) (H := H2)))))))))))
    have g3 := fun l3 H4 => (goA_cons goV_non
      (goA_cons (goV_z (zt (some (.ref l3)) H4))
      (goA_cons (goV_str (x := "1/2"))
      (goA_cons (goV_tup (goP_cons (goI_str (x := "1")) (goP_cons (goI_z (goZ_c (σ := sg (some (.ref l3))) (H := H4) (z := 2) (n := 2) (by decide))) goP_nil)) (by decide))
      (goA_cons (goV_tup (goP_cons goI_non (goP_cons (goI_z (goZ_c (σ := sg (some (.ref l3))) (H := H4) (z := 1) (n := 1) (by decide))) goP_nil)) (by decide))
      (goA_cons (goV_tup (goP_cons (goI_z (zt (some (.ref l3)) H4)) (goP_cons goI_non goP_nil)) (by decide))
      (goA_cons (goV_tup (goP_cons (goI_tup (goP_cons (goI_z (zt (some (.ref l3)) H4)) (goP_cons (goI_z (zb (some (.ref l3)) H4)) goP_nil)) (by decide)) (goP_cons (goI_z (goZ_c (σ := sg (some (.ref l3))) (H := H4) (z := 1) (n := 1) (by decide))) goP_nil)) (by decide))
      (goA_cons (goV_tup (goP_cons (goI_z (goZ_sub (goZ_c (σ := sg (some (.ref l3))) (H := H4) (z := 0) (n := 1) (by decide)) (goZ_c (σ := sg (some (.ref l3))) (H := H4) (z := 1) (n := 1) (by decide)))) (goP_cons (goI_z (goZ_c (σ := sg (some (.ref l3))) (H := H4) (z := 1) (n := 1) (by decide))) goP_nil)) (by decide))
      (goA_cons (goV_tup (goP_cons (goI_z (zm (some (.ref l3)) H4)) (goP_cons (goI_z (goZ_add (zm (some (.ref l3)) H4) (goZ_c (σ := sg (some (.ref l3))) (H := H4) (z := 1) (n := 10) (up2 (n := 1) (by decide) (by decide))))) goP_nil)) (by decide))
      (goA_nil (K := K) (σ := sg (some (.ref l3))) (H := H4)))))))))))
    rw [hsg] at g1 g2 g3
    dsimp only [tSeq, tAsg, tPar3] at g1 g2 g3 ⊢
    refine goA_lst g1 (by decide) (L2.Same.refl H1) fun l1 us1 H2 S2 n1 a1 => ?_
    dsimp only [tSeq, tAsg, gName]
    refine ⟨_, rfl, ?_⟩
    refine goA_lst (g2 l1 H2) (by decide) (L2.Same.refl H2) fun l2 us2 H3 S3 n2 a2 => ?_
    refine cat_ask (a1.mono S3) a2 (by omega) fun l3 H4 S4 a3 => ?_
    dsimp only [tRet]
    refine ⟨_, rfl, ?_⟩
    refine goA_lst (g3 l3 H4) (by decide) (L2.Same.refl H4) fun l4 us4 H5 S5 n4 a4 => ?_
    refine cat_ask (a3.mono S5) a4 (by rw [List.length_append]; omega) fun l5 H6 S6 a5 => ?_
    have S16 : L2.Same H1 H6 := S2.trans (S3.trans (S4.trans (S5.trans S6)))
    exact k l5 _ H6 a5 (by rw [List.length_append, List.length_append]; omega) (kp1.trans (Kp.of S16)) (K44.Same.box S16 b1)
end
end K44


set_option Elab.async false
set_option linter.all false
set_option maxRecDepth 100000
set_option maxHeartbeats 2000000
namespace K44
open PySem PySem.Spec PyProof.Rows L2 RK
/-- v is a pair x, wherever it stands -/
def IsF (x : Int × Int) : V → Hp → Prop := fun v H => ∃ s, v = .ref s ∧ At H s x
section
variable {K : PySem.W.Frag} {CN : Addr} {σ : L2.St} {H : Hp} {ta tb te : TE} {x y : Int × Int} {i : Nat} {a b : Int} {u : Addr}
theorem gf_var (hs : σ[i]? = some (some (.ref u))) (h : At H u x) : Go σ H (tVar i) (IsF x) := go_var hs fun H1 S => ⟨u, rfl, h.same S⟩
theorem gf_bin {g : Int × Int → Int × Int → Int × Int} (p : Go σ H ta (IsF x)) (q : Go σ H tb (IsF y)) (fx : IsFr x) (fy : IsFr y) (zx : Sz 1500 x) (zy : Sz 1500 y) :
    Go σ H (tCall (spBin g) [] E0 (tCons ta (tCons tb tNil))) (IsF (g x y)) := fun H1 S Q k => p H1 S _ fun v H2 S2 ⟨t, ev, ht⟩ => q H2 (S.trans S2) _ fun w H3 S3 ⟨s, ew, hs⟩ =>
  ⟨t, s, x, y, by rw [ev, ew]; rfl, ht.same S3, hs, fx, fy, zx, zy, fun r hr => k _ _ (S2.trans (S3.trans (RK.Same.upd hr))) ⟨r, rfl, upd_same⟩⟩
theorem gf_binK {g : Int × Int → Int × Int → Int × Int} (p : Go σ H ta (IsF x)) (q : Go σ H tb (IsF y)) (fx : IsFr x) (fy : IsFr y) (zx : Sz 1500 x) (zy : Sz 1500 y) :
    Go σ H (tCallK (spBin g) kwSw E0 tNil (tCons tb (tCons ta tNil))) (IsF (g x y)) := fun H1 S Q k => q H1 S _ fun v H2 S2 ⟨t, ev, ht⟩ => p H2 (S.trans S2) _ fun w H3 S3 ⟨s, ew, hs⟩ =>
  ⟨s, t, x, y, by rw [ev, ew]; rfl, hs, ht.same S3, fx, fy, zx, zy, fun r hr => k _ _ (S2.trans (S3.trans (RK.Same.upd hr))) ⟨r, rfl, upd_same⟩⟩
theorem gf_ratio (p : Go σ H ta (IsF x)) (q : Go σ H tb (IsF y)) (fx : IsFr x) (fy : IsFr y) (zx : Sz 1500 x) (zy : Sz 1500 y) (hy : y.1 ≠ 0) :
    Go σ H (tCall (spRatio CN) [] E0 (tCons ta (tCons tb tNil))) (IsF (divF x y)) := fun H1 S Q k => p H1 S _ fun v H2 S2 ⟨t, ev, ht⟩ => q H2 (S.trans S2) _ fun w H3 S3 ⟨s, ew, hs⟩ =>
  ⟨t, s, x, y, by rw [ev, ew]; rfl, ht.same S3, hs, fx, fy, zx, zy, fun e => absurd e hy, fun _ r hr => k _ _ (S2.trans (S3.trans (RK.Same.upd hr))) ⟨r, rfl, upd_same⟩⟩
theorem gf_ratioK (p : Go σ H ta (IsF x)) (q : Go σ H tb (IsF y)) (fx : IsFr x) (fy : IsFr y) (zx : Sz 1500 x) (zy : Sz 1500 y) (hy : y.1 ≠ 0) :
    Go σ H (tCallK (spRatio CN) kwSw E0 tNil (tCons tb (tCons ta tNil))) (IsF (divF x y)) := fun H1 S Q k => q H1 S _ fun v H2 S2 ⟨t, ev, ht⟩ => p H2 (S.trans S2) _ fun w H3 S3 ⟨s, ew, hs⟩ =>
  ⟨s, t, x, y, by rw [ev, ew]; rfl, hs, ht.same S3, fx, fy, zx, zy, fun e => absurd e hy, fun _ r hr => k _ _ (S2.trans (S3.trans (RK.Same.upd hr))) ⟨r, rfl, upd_same⟩⟩
theorem gf_fr (p : Go σ H ta (IsZ a)) (q : Go σ H tb (IsZ b)) (hb : b ≠ 0) (za : a.natAbs < 2 ^ 4000) (zb : b.natAbs < 2 ^ 4000) :
    Go σ H (tCall (spFr CN) [] E0 (tCons ta (tCons tb tNil))) (IsF (fr a b)) := fun H1 S Q k => p H1 S _ fun v H2 S2 ev => q H2 (S.trans S2) _ fun w H3 S3 ew =>
  ⟨a, b, by rw [show v = _ from ev, show w = _ from ew]; rfl, za, zb, fun e => absurd e hb, fun _ r hr => k _ _ (S2.trans (S3.trans (RK.Same.upd hr))) ⟨r, rfl, upd_same⟩⟩
theorem gf_frK (p : Go σ H ta (IsZ a)) (q : Go σ H tb (IsZ b)) (hb : b ≠ 0) (za : a.natAbs < 2 ^ 4000) (zb : b.natAbs < 2 ^ 4000) :
    Go σ H (tCallK (spFr CN) kwSw E0 tNil (tCons tb (tCons ta tNil))) (IsF (fr a b)) := fun H1 S Q k => q H1 S _ fun v H2 S2 ev => p H2 (S.trans S2) _ fun w H3 S3 ew =>
  ⟨a, b, by rw [show v = _ from ev, show w = _ from ew]; rfl, za, zb, fun e => absurd e hb, fun _ r hr => k _ _ (S2.trans (S3.trans (RK.Same.upd hr))) ⟨r, rfl, upd_same⟩⟩
theorem gf_tup (p : Go σ H ta (IsZ a)) (q : Go σ H tb (IsZ b)) : Go σ H (tTup (tCons ta (tCons tb tNil))) (IsF (a, b)) := fun H1 S Q k => p H1 S _ fun v H2 S2 ev => q H2 (S.trans S2) _ fun w H3 S3 ew =>
  ⟨(by show 2 ≤ sizeLine; decide), fun r hr => k _ _ (S2.trans (S3.trans (RK.Same.upd hr))) ⟨r, rfl, by
    show L2.upd H3 r _ r = _
    rw [upd_same, show v = _ from ev, show w = _ from ew]⟩⟩
theorem gz_ix0 (p : Go σ H te (IsF x)) : Go σ H (tOp (rIxT K) te (tC (.int 0))) (IsZ x.1) := fun H1 S Q k => p H1 S _ fun v H2 S2 ⟨t, ev, ht⟩ => ⟨t, _, 0, _, ev, rfl, SqT.of ht, rfl, k _ H2 S2 rfl⟩
theorem gz_ix1 (p : Go σ H te (IsF x)) : Go σ H (tOp (rIxT K) te (tC (.int 1))) (IsZ x.2) := fun H1 S Q k => p H1 S _ fun v H2 S2 ⟨t, ev, ht⟩ => ⟨t, _, 1, _, ev, rfl, SqT.of ht, rfl, k _ H2 S2 rfl⟩
theorem gb_same (p : Go σ H ta (IsF x)) (q : Go σ H tb (IsF y)) (fx : IsFr x) (v : Val x y.1 y.2) (zx : Sz 3000 x) (zy : Sz 3000 y) : Go σ H (tCall spSame [] E0 (tCons ta (tCons tb tNil))) (IsB true) :=
  fun H1 S Q k => p H1 S _ fun v H2 S2 ⟨t, ev, ht⟩ => q H2 (S.trans S2) _ fun w H3 S3 ⟨s, ew, hs⟩ =>
  ⟨t, s, x, y, by rw [ev, ew]; rfl, ht.same S3, hs, fx, by assumption, zx, zy, fun H4 S4 => k _ H4 (S2.trans (S3.trans S4)) rfl⟩
theorem gb_less (p : Go σ H ta (IsF x)) (q : Go σ H tb (IsF y)) (zx : Sz 1500 x) (zy : Sz 1500 y) : Go σ H (tCall spLess [] E0 (tCons ta (tCons tb tNil))) (IsB (decide (x.1 * y.2 < y.1 * x.2))) :=
  fun H1 S Q k => p H1 S _ fun v H2 S2 ⟨t, ev, ht⟩ => q H2 (S.trans S2) _ fun w H3 S3 ⟨s, ew, hs⟩ => ⟨t, s, x, y, by rw [ev, ew]; rfl, ht.same S3, hs, zx, zy, k _ H3 (S2.trans S3) rfl⟩
theorem gb_lessK (p : Go σ H ta (IsF x)) (q : Go σ H tb (IsF y)) (zx : Sz 1500 x) (zy : Sz 1500 y) : Go σ H (tCallK spLess kwSw E0 tNil (tCons tb (tCons ta tNil))) (IsB (decide (x.1 * y.2 < y.1 * x.2))) :=
  fun H1 S Q k => q H1 S _ fun v H2 S2 ⟨t, ev, ht⟩ => p H2 (S.trans S2) _ fun w H3 S3 ⟨s, ew, hs⟩ => ⟨s, t, x, y, by rw [ev, ew]; rfl, hs, ht.same S3, zx, zy, k _ H3 (S2.trans S3) rfl⟩
theorem gb_tru {c d : Bool} (p : Go σ H ta (IsB c)) (q : Go σ H tb (IsB d)) : Go σ H (tCall spTru [] E0 (tCons ta (tCons tb tNil))) (IsB (decide (c = d))) :=
  fun H1 S Q k => p H1 S _ fun v H2 S2 ev => q H2 (S.trans S2) _ fun w H3 S3 ew => ⟨c, d, by rw [show v = _ from ev, show w = _ from ew]; rfl, k _ H3 (S2.trans S3) rfl⟩
theorem gb_ref {c : Bool} (p : Go σ H ta (IsF x)) (fx : IsFr x) (zx : Sz 1500 x) : Go σ H (tCall spRef [] E0 (tCons ta (tCons (tC (.bl c)) tNil))) (IsB true) :=
  fun H1 S Q k => p H1 S _ fun v H2 S2 ⟨t, ev, ht⟩ => ⟨t, c, x, by rw [ev]; rfl, ht, fx, zx, fun H3 S3 => k _ H3 (S2.trans S3) rfl⟩
theorem gb_isfK (p : Go σ H ta (IsF x)) (fx : IsFr x) : Go σ H (tCallK (spIsF K) kwId E0 tNil (tCons ta tNil)) (IsB true) :=
  fun H1 S Q k => p H1 S _ fun v H2 S2 ⟨t, ev, ht⟩ => ⟨_, true, rfl, by rw [ev]; exact valD_pair ht fx, k _ H2 S2 rfl⟩
theorem gf_sum0 : Go σ H (tCall spSum [] E0 (tCons (tTup tNil) tNil)) (IsF (0, 1)) := fun H1 S Q k => ⟨(by show 0 ≤ sizeLine; decide), fun r hr =>
  ⟨r, [], rfl, upd_same, by decide, fun _ h => absurd h List.not_mem_nil, fun s H2 S2 h => k _ H2 ((RK.Same.upd hr).trans S2) ⟨s, rfl, h⟩⟩⟩
theorem gf_sum2K (p : Go σ H ta (IsF x)) (q : Go σ H tb (IsF y)) (fx : IsFr x) (fy : IsFr y) (zx : Sz 88 x) (zy : Sz 88 y) : Go σ H (tCallK spSum kwId E0 tNil (tCons (tTup (tCons ta (tCons tb tNil))) tNil)) (IsF (sumF [x, y])) :=
  fun H1 S Q k => p H1 S _ fun v H2 S2 ⟨t, ev, ht⟩ => q H2 (S.trans S2) _ fun w H3 S3 ⟨s, ew, hs⟩ => ⟨(by show 2 ≤ sizeLine; decide), fun r hr =>
    ⟨r, [(t, x), (s, y)], rfl, by rw [upd_same, ev, ew]; rfl, by show 2 ≤ 7; decide, fun z hz => by
      rcases List.mem_cons.mp hz with rfl | hz
      · exact ⟨(ht.same S3).same (RK.Same.upd hr), fx, zx⟩
      · rcases List.mem_cons.mp hz with rfl | hz
        · exact ⟨hs.same (RK.Same.upd hr), fy, zy⟩
        · exact absurd hz List.not_mem_nil, fun s' H4 S4 h => k _ H4 (S2.trans (S3.trans ((RK.Same.upd hr).trans S4))) ⟨s', rfl, h⟩⟩⟩
theorem dp_pair {t : Addr} (h : At H t x) : Dp K H (.ref t) (.tuple [.int x.1, .int x.2]) := .tup (SqT.of h) (.cons (.int _) (.cons (.int _) .nil))
theorem got_ne (p : Go σ H ta (IsF x)) (q : Go σ H tb (IsF x)) : GoT σ H (tTest (tOp (rNeD K) ta tb)) false := fun H1 S Q k => p H1 S _ fun v H2 S2 ⟨t, ev, ht⟩ => q H2 (S.trans S2) _ fun w H3 S3 ⟨s, ew, hs⟩ => by
  subst ev ew
  have sh : SeqAt.shaped (.tuple [.int x.1, .int x.2]) = true := by
    have e : SeqAt.shaped (.tuple [.int x.1, .int x.2]) = SeqAt.shaped (.tuple [.int 0, .int 0]) := rfl
    rw [e]
    decide +kernel
  have eq : PyData.eqv (.tuple [.int x.1, .int x.2]) (.tuple [.int x.1, .int x.2]) = true := by simp [PyData.eqv, PyData.eqvAll]
  refine ⟨_, _, dp_pair (ht.same S3), dp_pair hs, sh, sh, ?_⟩
  rw [eq]
  exact ⟨false, rfl, k H3 (S2.trans S3)⟩
end
end K44


set_option Elab.async false
set_option linter.all false
set_option maxRecDepth 100000
set_option maxHeartbeats 4000000
namespace K44
open PySem PySem.Spec PyProof.Rows L2 RK
def spLaw (K : PySem.W.Frag) : Sp := fun vs H Q _ => ∃ (a : Addr) (ns : List Int), vs = [.ref a] ∧ SqL K H a (ns.map V.int) ∧ ns.length ≤ 63 ∧ ∀ H', Q (.bl true) H'
abbrev nLaw : List Str := ["script", "k", "box", "first", "second", "one", "other", "a", "b", "c", "d", "rest", "top", "bottom", "pair", "turn", "value"]
theorem scLaw : FnScope nLaw ["script"] (defScope sLaw) := ⟨rfl, rfl, rfl, by decide +kernel, rfl, by decide +kernel, by decide +kernel⟩
/-- top and bottom, pair by pair -/
def stepTB (s : Int × Int) (q : Int × Int) : Int × Int := (s.1 * q.2 + q.1 * s.2, s.2 * q.2)
def runTB (qs : List (Int × Int)) : Int × Int := qs.foldl stepTB (0, 1)
theorem runTB_snoc (qs : List (Int × Int)) (q : Int × Int) : runTB (qs ++ [q]) = stepTB (runTB qs) q := by unfold runTB; rw [List.foldl_append]; rfl
theorem take_snoc {α : Type} {l : List α} {i : Nat} {x : α} (h : l[i]? = some x) : l.take (i + 1) = l.take i ++ [x] := by rw [List.take_add_one, h]; rfl
def Good (q : Int × Int) : Prop := q.2 ≠ 0 ∧ Sz 87 q
theorem run_ok {qs : List (Int × Int)} (h : ∀ q ∈ qs, Good q) : (runTB qs).2 ≠ 0 ∧ Sz (1 + 88 * qs.length) (runTB qs) ∧ IsFr (sumF (qs.map fun q => fr q.1 q.2)) ∧ Val (sumF (qs.map fun q => fr q.1 q.2)) (runTB qs).1 (runTB qs).2 := by
  have key : ∀ (qs : List (Int × Int)) (s f : Int × Int) (n : Nat), s.2 ≠ 0 → Sz n s → IsFr f → Val f s.1 s.2 → (∀ q ∈ qs, Good q) →
      (qs.foldl stepTB s).2 ≠ 0 ∧ Sz (n + 88 * qs.length) (qs.foldl stepTB s) ∧ IsFr ((qs.map fun q => fr q.1 q.2).foldl addF f) ∧ Val ((qs.map fun q => fr q.1 q.2).foldl addF f) (qs.foldl stepTB s).1 (qs.foldl stepTB s).2 := by
    intro qs
    induction qs with
    | nil => exact fun s f n h0 h1 h2 h3 _ => ⟨h0, h1, h2, h3⟩
    | cons q r ih =>
      intro s f n h0 h1 h2 h3 h4
      obtain ⟨hq, zq⟩ := h4 q List.mem_cons_self
      obtain ⟨g1, g2, _, _⟩ := fr_spec (a := q.1) hq
      have v := add_spec h2.1 g1.1 h3 g2
      have z : Sz (n + 88) (stepTB s q) := by
        refine ⟨add_lt2 (mul_lt2 h1.1 zq.2) ?_, up2 (mul_lt2 h1.2 zq.2) (by omega)⟩
        have := mul_lt2 zq.1 h1.2
        rwa [Nat.add_comm] at this
      have q2 := ih (stepTB s q) (addF f (fr q.1 q.2)) (n + 88) (Int.mul_ne_zero h0 hq) z v.1 v.2 fun x hx => h4 x (List.mem_cons_of_mem _ hx)
      refine ⟨q2.1, q2.2.1.up ?_, q2.2.2.1, q2.2.2.2⟩
      rw [List.length_cons]
      omega
  exact key qs (0, 1) (0, 1) 1 (by decide) ⟨by decide, by decide⟩ isFr01 rfl h
theorem sumF_two {x y : Int × Int} (h : IsFr x) : sumF [x, y] = addF x y := by
  show addF (addF (0, 1) x) y = addF x y
  rw [zero_add_fr h]
theorem seq_new {K : PySem.W.Frag} {p a : Addr} {H H' : Hp} {xs : List V} (h : SqL K H a xs) (hp : H p = none) (e : Kp p H H') : SqL K H' a xs := by
  rcases h with (h | ⟨o, h⟩) | h
  · exact .inl (.inl (e _ _ h (ne_of_none h hp)))
  · exact .inl (.inr ⟨o, e _ _ h (ne_of_none h hp)⟩)
  · exact .inr h
/-- at D a list of pairs -/
def PairsAt (H : Hp) (D : Addr) (ps : List (Addr × (Int × Int))) : Prop := H D = some (.lst (ps.map fun q => V.ref q.1)) ∧ ∀ q ∈ ps, Good q.2 ∧ At H q.1 q.2
theorem PairsAt.same {H H' : Hp} (S : L2.Same H H') {D : Addr} {ps : List (Addr × (Int × Int))} (h : PairsAt H D ps) : PairsAt H' D ps := ⟨S _ _ h.1, fun q hq => ⟨(h.2 q hq).1, (h.2 q hq).2.same S⟩⟩
abbrev tElt (K : PySem.W.Frag) (CN : Addr) : TE := tCall (spFr CN) [] E0 (tCons (tOp (rIxT K) (tVar 14) (tC (.int 0))) (tCons (tOp (rIxT K) (tVar 14) (tC (.int 1))) tNil))
theorem gf_sumC {K : PySem.W.Frag} {CN : Addr} {σ : L2.St} {H : Hp} {D : Addr} {ps : List (Addr × (Int × Int))} (hs : σ[11]? = some (some (.ref D))) (hP : PairsAt H D ps) (hl : ps.length ≤ 7)
    (h14 : ∀ v, ((wipe σ [14]).set 14 (some v))[14]? = some (some v)) (hw : ∀ v, wipe ((wipe σ [14]).set 14 (some v)) [14] = wipe σ [14]) :
    Go σ H (tCall spSum [] E0 (tCons (tCB (fun xs H Q => ∃ p ys, xs = [.ref p] ∧ ((SqL K H p ys ∧ ∀ l, H l = none → Q (.ref l) (upd H l (.tup ys))) ∨ (SqT K H p ys ∧ Q (.ref p) H)))
      (tCons (tLc (iList K (tVar 11)) (gName 14) tYes (tElt K CN) [14]) tNil)) tNil)) (IsF (sumF (ps.map fun q => fr q.2.1 q.2.2))) := by
  intro H1 S Q k
  have hP1 := hP.same S
  refine ⟨_, hs, D, rfl, ⟨_, SqL.of hP1.1⟩, fun D2 hD2 => lc_list (K := K) (a := D) (xs := ps.map fun q => V.ref q.1)
    (fun i H' => L2.Same H1 H' ∧ ∃ rs : List (Addr × (Int × Int)), rs.map (·.2) = (ps.take i).map (fun q => fr q.2.1 q.2.2) ∧ H' D2 = some (.lst (rs.map fun r => V.ref r.1)) ∧ ∀ r ∈ rs, At H' r.1 r.2)
    ⟨RK.Same.upd hD2, [], rfl, upd_same, fun _ h => absurd h List.not_mem_nil⟩ (fun i H' _ p => SqL.of (p.1 _ _ hP1.1)) ?_ ?_⟩
  · rintro i v H' hi ⟨S1, rs, hrs, e, hat⟩
    obtain ⟨q, hq, rfl⟩ : ∃ q, ps[i]? = some q ∧ v = V.ref q.1 := by
      rw [List.getElem?_map] at hi
      cases e : ps[i]? with
      | none => rw [e] at hi; cases hi
      | some z => rw [e] at hi; exact ⟨z, rfl, (Option.some.inj hi).symm⟩
    obtain ⟨gq, aq⟩ := hP1.2 q (List.mem_of_getElem? hq)
    replace aq := aq.same S1
    refine ⟨hw _, ?_⟩
    unfold tYes
    refine iteT ?_
    refine gf_fr (gz_ix0 (gf_var (h14 _) aq)) (gz_ix1 (gf_var (h14 _) aq)) gq.1 (up2 gq.2.1 (by decide)) (up2 gq.2.2 (by decide)) H' (L2.Same.refl H') _ fun v H2 S2 ⟨s, ev, hs2⟩ => ?_
    subst ev
    have e2 := S2 _ _ e
    have hn : ∀ r ∈ rs, r.1 ≠ D2 := fun r hr => ne_of ((hat r hr).same S2) e2 (by intro z; cases z)
    have sn : s ≠ D2 := ne_of hs2 e2 (by intro z; cases z)
    have hlen : rs.length ≤ 7 := by
      have := congrArg List.length hrs
      rw [List.length_map, List.length_map] at this
      have := List.length_take_le i ps
      have := List.length_take_le' i ps
      omega
    refine ⟨_, e2, by rw [List.length_map]; exact Nat.lt_of_le_of_lt hlen (by decide), RK.Same.updAt (S1.trans S2) hD2, rs ++ [(s, fr q.2.1 q.2.2)], ?_, ?_, fun r hr => ?_⟩
    · rw [List.map_append, hrs, take_snoc hq, List.map_append]
      rfl
    · rw [upd_same, List.map_append]
      rfl
    · rcases List.mem_append.mp hr with hr | hr
      · exact (upd_ne (hn r hr)).trans ((hat r hr).same S2)
      · obtain rfl := List.mem_singleton.mp hr
        exact (upd_ne sn).trans hs2
  · rintro H' ⟨S1, rs, hrs, e, hat⟩
    rw [List.length_map, List.take_length] at hrs
    refine ⟨D2, _, rfl, .inl ⟨SqL.of e, fun l hl' => ⟨l, rs, rfl, upd_same, ?_, fun r hr => ⟨(hat r hr).same (RK.Same.upd hl'), ?_⟩, fun s H2 S2 h => ?_⟩⟩⟩
    · have := congrArg List.length hrs
      rw [List.length_map, List.length_map] at this
      omega
    · have hm : r.2 ∈ ps.map fun q => fr q.2.1 q.2.2 := by rw [← hrs]; exact List.mem_map_of_mem hr
      obtain ⟨q, hq, eq⟩ := List.mem_map.mp hm
      obtain ⟨gq, _⟩ := hP1.2 q hq
      rw [← eq]
      exact ⟨(fr_spec gq.1).1, (Sz.fr gq.1 gq.2.1 gq.2.2).up (by decide)⟩
    · rw [hrs] at h
      exact k _ H2 (S1.trans ((RK.Same.upd hl').trans S2)) ⟨s, rfl, h⟩
section
variable {P : Program} {w : World} {K : PySem.W.Frag} {mg : Str → Option Value} {base : Heap} {CN CR CF fI : Addr}
theorem ok_law {f : Addr} {fd : FuncData} (F : Fun K "law" "law" sLaw f fd) (T : Txt K mg CN CR CF fI)
    (c__law_box : Cl P w K mg base CX0 1 "_law_box" ["script", "k"] (spBox K)) (c__law_pair : Cl P w K mg base CX0 3 "_law_pair" ["box"] spPair) (c__law_take : Cl P w K mg base CX0 1 "_law_take" ["box", "many"] spTake)
    (c_fraction_of : Cl P w K mg base (L2.CX P w) 3 "fraction_of" ["top", "bottom"] (spFr CN)) (k_fraction_of_bottom_top : Ck P w K mg base (L2.CX P w) 3 "fraction_of" ["top", "bottom"] ["bottom", "top"] kwSw (spFr CN))
    (c__law_same : Cl P w K mg base CX0 3 "_law_same" ["told", "pair"] spSame) (c_plus : Cl P w K mg base CX0 4 "plus" ["one", "other"] (spBin addF)) (k_plus_other_one : Ck P w K mg base CX0 4 "plus" ["one", "other"] ["other", "one"] kwSw (spBin addF))
    (k_minus_other_one : Ck P w K mg base CX0 4 "minus" ["one", "other"] ["other", "one"] kwSw (spBin subF)) (c_minus : Cl P w K mg base CX0 4 "minus" ["one", "other"] (spBin subF))
    (c_times : Cl P w K mg base CX0 4 "times" ["one", "other"] (spBin mulF)) (k_times_other_one : Ck P w K mg base CX0 4 "times" ["one", "other"] ["other", "one"] kwSw (spBin mulF))
    (c_ratio : Cl P w K mg base (L2.CX P w) 4 "ratio" ["one", "other"] (spRatio CN)) (k_ratio_other_one : Ck P w K mg base (L2.CX P w) 4 "ratio" ["one", "other"] ["other", "one"] kwSw (spRatio CN))
    (c__law_refused : Cl P w K mg base CX0 6 "_law_refused" ["one", "by_ratio"] spRef) (c__law_truth : Cl P w K mg base CX0 1 "_law_truth" ["told", "due"] spTru)
    (c_less : Cl P w K mg base CX0 1 "less" ["one", "other"] spLess) (k_less_other_one : Ck P w K mg base CX0 1 "less" ["one", "other"] ["other", "one"] kwSw spLess)
    (c_is_fraction : Cl P w K mg base CX0 2 "is_fraction" ["value"] (spIsF K)) (k_is_fraction_value : Ck P w K mg base CX0 2 "is_fraction" ["value"] ["value"] kwId (spIsF K))
    (c_sum_of : Cl P w K mg base CX0 5 "sum_of" ["fractions"] spSum) (k_sum_of_fractions : Ck P w K mg base CX0 5 "sum_of" ["fractions"] ["fractions"] kwId spSum)
    (c__law_almost : Cl P w K mg base CX0 2 "_law_almost" ["box", "one"] (spAlm K)) (c__law_is_fraction : Cl P w K mg base CX0 2 "_law_is_fraction" ["value"] (spLIs K)) :
    FnOk P w K mg base CX0 8 f fd ["script"] (spLaw K) := by
  refine F.ok scLaw (fun vs H Q E h => ?_) (fun cdv A outer s H vs Q E hr h => ?_)
  · obtain ⟨a, ns, rfl, _⟩ := h
    rfl
  · obtain ⟨a, ns, rfl, hS, hl, k⟩ := h
    refine ⟨_, (pss_cons (ps_for PassesOwn.never rfl (pi_range1 (by rfl) T.range (pa_cons (pe_callB (call_max2 rfl) (by rfl) T.max (by decide +kernel) (pa_cons pe_int (pa_cons (pe_callB (call_min2 rfl) (by rfl) T.min (by decide +kernel) (pa_cons pe_int (pa_cons (pe_callB call_len_seq (by rfl) T.len PySem.boot_len (pa_cons (pv 0) pa_nil)) pa_nil))) pa_nil))) pa_nil)) (pg_name (i := 1) scLaw.nd rfl (Or.inl rfl))
        (pss_cons (ps_set (i := 2) scLaw.nd rfl (Or.inr rfl) (pe_f c__law_box hr (by decide) pass0 (pa_cons (pv 0) (pa_cons (pv 1) pa_nil))))
        (pss_cons (ps_par (i := 3) (j := 4) (by rfl) scLaw.nd rfl rfl (by decide) rfl rfl (pa_cons (pe_f c__law_pair hr (by decide) pass0 (pa_cons (pv 2) pa_nil)) (pa_cons (pe_f c__law_pair hr (by decide) pass0 (pa_cons (pv 2) pa_nil)) pa_nil)) (by rfl))
        (pss_cons (ps_par (i := 5) (j := 6) (by rfl) scLaw.nd rfl rfl (by decide) rfl rfl (pa_cons (pe_f c_fraction_of hr (by decide) passL (pa_cons (pe_ix (r := rIxT K) ix_tup (pv 3) pe_int (fun _ _ => rfl)) (pa_cons (pe_ix (r := rIxT K) ix_tup (pv 3) pe_int (fun _ _ => rfl)) pa_nil))) (pa_cons (pe_k k_fraction_of_bottom_top hr (by decide) passL (pk_cons (pe_ix (r := rIxT K) ix_tup (pv 4) pe_int (fun _ _ => rfl)) (pk_cons (pe_ix (r := rIxT K) ix_tup (pv 4) pe_int (fun _ _ => rfl)) pk_nil))) pa_nil)) (by rfl))
        (pss_cons (ps_if (PW.pt (pw_or (pt_not (pt_val (pe_f c__law_same hr (by decide) pass0 (pa_cons (pv 5) (pa_cons (pv 3) pa_nil))))) (pw_or1 (pt_not (pt_val (pe_f c__law_same hr (by decide) pass0 (pa_cons (pv 6) (pa_cons (pv 4) pa_nil)))))))) (pss_one (ps_ret pe_bl)) pss_nil)
        (pss_cons (ps_asg (pe_tup (pa_cons (pe_ix (r := rIxT K) ix_tup (pv 3) pe_int (fun _ _ => rfl)) (pa_cons (pe_ix (r := rIxT K) ix_tup (pv 3) pe_int (fun _ _ => rfl)) (pa_cons (pe_ix (r := rIxT K) ix_tup (pv 4) pe_int (fun _ _ => rfl)) (pa_cons (pe_ix (r := rIxT K) ix_tup (pv 4) pe_int (fun _ _ => rfl)) pa_nil))))) (pg_tup (n := 4) rfl (pgs_cons (pg_name (i := 7) scLaw.nd rfl (Or.inl rfl)) (pgs_cons (pg_name (i := 8) scLaw.nd rfl (Or.inl rfl)) (pgs_cons (pg_name (i := 9) scLaw.nd rfl (Or.inl rfl)) (pgs_cons (pg_name (i := 10) scLaw.nd rfl (Or.inl rfl)) pgs_nil))))))
        (pss_cons (ps_if (PW.pt (pw_or (pt_not (pt_val (pe_f c__law_same hr (by decide) pass0 (pa_cons (pe_f c_plus hr (by decide) pass0 (pa_cons (pv 5) (pa_cons (pv 6) pa_nil))) (pa_cons (pe_tup (pa_cons (pe_op op_add (pe_op op_mulW (pv 7) (pv 10)) (pe_op op_mulW (pv 9) (pv 8))) (pa_cons (pe_op op_mulW (pv 8) (pv 10)) pa_nil))) pa_nil))))) (pw_or1 (pt_not (pt_val (pe_f c__law_same hr (by decide) pass0 (pa_cons (pe_f c_times hr (by decide) pass0 (pa_cons (pv 5) (pa_cons (pv 6) pa_nil))) (pa_cons (pe_tup (pa_cons (pe_op op_mulW (pv 7) (pv 9)) (pa_cons (pe_op op_mulW (pv 8) (pv 10)) pa_nil))) pa_nil)))))))) (pss_one (ps_ret pe_bl)) pss_nil)
        (pss_cons (ps_if (pt_not (pt_val (pe_f c__law_same hr (by decide) pass0 (pa_cons (pe_k k_minus_other_one hr (by decide) pass0 (pk_cons (pv 6) (pk_cons (pv 5) pk_nil))) (pa_cons (pe_tup (pa_cons (pe_op op_sub (pe_op op_mulW (pv 7) (pv 10)) (pe_op op_mulW (pv 9) (pv 8))) (pa_cons (pe_op op_mulW (pv 8) (pv 10)) pa_nil))) pa_nil))))) (pss_one (ps_ret pe_bl)) pss_nil)
        (pss_cons (ps_if (PW.pt (pw_and (pt_cmpR op_ne (pv 9) pe_int (nomark _)) (pw_and1 (pt_not (pt_val (pe_f c__law_same hr (by decide) pass0 (pa_cons (pe_f c_ratio hr (by decide) passL (pa_cons (pv 5) (pa_cons (pv 6) pa_nil))) (pa_cons (pe_tup (pa_cons (pe_op op_mulW (pv 7) (pv 10)) (pa_cons (pe_op op_mulW (pv 8) (pv 9)) pa_nil))) pa_nil)))))))) (pss_one (ps_ret pe_bl)) pss_nil)
        (pss_cons (ps_if (PW.pt (pw_or (pt_not (pt_val (pe_f c__law_refused hr (by decide) pass0 (pa_cons (pv 5) (pa_cons pe_bl pa_nil))))) (pw_or1 (pt_not (pt_val (pe_f c__law_refused hr (by decide) pass0 (pa_cons (pv 5) (pa_cons pe_bl pa_nil)))))))) (pss_one (ps_ret pe_bl)) pss_nil)
        (pss_cons (ps_if (PW.pt (pw_or (pt_not (pt_val (pe_f c__law_truth hr (by decide) pass0 (pa_cons (pe_f c_less hr (by decide) pass0 (pa_cons (pv 5) (pa_cons (pv 6) pa_nil))) (pa_cons (pe_cmpR op_lt (pe_op op_mulW (pe_op op_mulW (pe_op op_sub (pe_op op_mulW (pv 7) (pv 10)) (pe_op op_mulW (pv 9) (pv 8))) (pv 8)) (pv 10)) pe_int (nomark _)) pa_nil))))) (pw_or1 (pt_cmpR op_notBl (pe_f c_less hr (by decide) pass0 (pa_cons (pv 5) (pa_cons (pv 5) pa_nil))) pe_bl (nomark _))))) (pss_one (ps_ret pe_bl)) pss_nil)
        (pss_cons (ps_if (pt_not (pt_val (pe_f c__law_truth hr (by decide) pass0 (pa_cons (pe_f c_less hr (by decide) pass0 (pa_cons (pv 6) (pa_cons (pv 5) pa_nil))) (pa_cons (pe_cmpR op_lt (pe_op op_mulW (pe_op op_mulW (pe_op op_sub (pe_op op_mulW (pv 9) (pv 8)) (pe_op op_mulW (pv 7) (pv 10))) (pv 8)) (pv 10)) pe_int (nomark _)) pa_nil))))) (pss_one (ps_ret pe_bl)) pss_nil)
        (pss_cons (ps_if (PW.pt (pw_or (pt_cmpR (op_neD hr.units) (pe_k k_plus_other_one hr (by decide) pass0 (pk_cons (pv 6) (pk_cons (pv 5) pk_nil))) (pe_f c_plus hr (by decide) pass0 (pa_cons (pv 5) (pa_cons (pv 6) pa_nil))) (nomark _)) (pw_or1 (pt_cmpR op_ne (pe_k k_less_other_one hr (by decide) pass0 (pk_cons (pv 5) (pk_cons (pv 6) pk_nil))) (pe_f c_less hr (by decide) pass0 (pa_cons (pv 6) (pa_cons (pv 5) pa_nil))) (nomark _))))) (pss_one (ps_ret pe_bl)) pss_nil)
        (pss_cons (ps_if (PW.pt (pw_or (pt_cmpR (op_neD hr.units) (pe_k k_times_other_one hr (by decide) pass0 (pk_cons (pv 6) (pk_cons (pv 5) pk_nil))) (pe_f c_times hr (by decide) pass0 (pa_cons (pv 5) (pa_cons (pv 6) pa_nil))) (nomark _)) (pw_or1 (pt_cmpR op_notBl (pe_k k_is_fraction_value hr (by decide) pass0 (pk_cons (pv 5) pk_nil)) pe_bl (nomark _))))) (pss_one (ps_ret pe_bl)) pss_nil)
        (pss_cons (ps_if (PW.pt (pw_or (pt_cmpR (op_neD hr.units) (pe_k k_sum_of_fractions hr (by decide) pass0 (pk_cons (pe_tup (pa_cons (pv 5) (pa_cons (pv 6) pa_nil))) pk_nil)) (pe_f c_plus hr (by decide) pass0 (pa_cons (pv 5) (pa_cons (pv 6) pa_nil))) (nomark _)) (pw_or1 (PW.pt (pw_and (pt_cmpR op_ne (pv 9) pe_int (nomark _)) (pw_and1 (pt_cmpR (op_neD hr.units) (pe_k k_ratio_other_one hr (by decide) passL (pk_cons (pv 6) (pk_cons (pv 5) pk_nil))) (pe_f c_ratio hr (by decide) passL (pa_cons (pv 5) (pa_cons (pv 6) pa_nil))) (nomark _)))))))) (pss_one (ps_ret pe_bl)) pss_nil)
        (pss_cons (ps_setLc (i := 11) (own := [("turn", 15)]) (g := gName 15) (tt := tYes) rfl scLaw.nd rfl rfl (sw_true rfl rfl rfl (by decide +kernel)) (pi_range1 (by rfl) T.range (pa_cons (pe_f c__law_take hr (by decide) pass0 (pa_cons (pv 2) (pa_cons pe_int pa_nil))) pa_nil)) (blkOk_by (N := nLaw) (sc := defScope sLaw) (by decide +kernel)) (fun _ _ _ _ _ => pg_name (i := 15) scLaw.nd rfl (Or.inl rfl)) (fun _ _ _ _ _ => pts_nil) (fun _ _ _ _ _ => (pe_f c__law_pair hr (by decide) pass0 (pa_cons (pv 2) pa_nil))))
        (pss_cons (ps_asg (pe_tup (pa_cons pe_int (pa_cons pe_int pa_nil))) (pg_tup (n := 2) rfl (pgs_cons (pg_name (i := 12) scLaw.nd rfl (Or.inl rfl)) (pgs_cons (pg_name (i := 13) scLaw.nd rfl (Or.inl rfl)) pgs_nil))))
        (pss_cons (ps_for PassesOwn.never rfl (pi_list (pv 11)) (pg_name (i := 14) scLaw.nd rfl (Or.inl rfl))
        (pss_one (ps_par (i := 12) (j := 13) (by rfl) scLaw.nd rfl rfl (by decide) rfl rfl (pa_cons (pe_op op_add (pe_op op_mulW (pv 12) (pe_ix (r := rIxT K) ix_tup (pv 14) pe_int (fun _ _ => rfl))) (pe_op op_mulW (pe_ix (r := rIxT K) ix_tup (pv 14) pe_int (fun _ _ => rfl)) (pv 13))) (pa_cons (pe_op op_mulW (pv 13) (pe_ix (r := rIxT K) ix_tup (pv 14) pe_int (fun _ _ => rfl))) pa_nil)) (by rfl))))
        (pss_cons (ps_if (pt_not (pt_val (pe_f c__law_same hr (by decide) pass0 (pa_cons (pe_f c_sum_of hr (by decide) pass0 (pa_cons (pe_callTy call_tuple_of (by rfl) T.tuple boot_tuple (pa_cons (pe_lc (own := [("pair", 14)]) (g := gName 14) (tt := tYes) rfl scLaw.nd (pi_list (pv 11)) (blkOk_by (N := nLaw) (sc := defScope sLaw) (by decide +kernel)) (fun _ _ _ _ _ => pg_name (i := 14) scLaw.nd rfl (Or.inl rfl)) (fun _ _ _ _ _ => pts_nil) (fun _ _ _ _ _ => (pe_f c_fraction_of hr (by decide) passL (pa_cons (pe_ix (r := rIxT K) ix_tup (pv 14) pe_int (fun _ _ => rfl)) (pa_cons (pe_ix (r := rIxT K) ix_tup (pv 14) pe_int (fun _ _ => rfl)) pa_nil))))) pa_nil)) pa_nil)) (pa_cons (pe_tup (pa_cons (pv 12) (pa_cons (pv 13) pa_nil))) pa_nil))))) (pss_one (ps_ret pe_bl)) pss_nil)
        (pss_cons (ps_if (PW.pt (pw_or (pt_cmpR (op_neD hr.units) (pe_f c_sum_of hr (by decide) pass0 (pa_cons (pe_tup pa_nil) pa_nil)) (pe_tup (pa_cons pe_int (pa_cons pe_int pa_nil))) (nomark _)) (pw_or (pt_cmpR (op_neD hr.units) (pe_f c_minus hr (by decide) pass0 (pa_cons (pv 5) (pa_cons (pv 5) pa_nil))) (pe_tup (pa_cons pe_int (pa_cons pe_int pa_nil))) (nomark _)) (pw_or1 (pt_cmpR (op_neD hr.units) (pe_f c_times hr (by decide) pass0 (pa_cons (pv 5) (pa_cons (pe_tup (pa_cons pe_int (pa_cons pe_int pa_nil))) pa_nil))) (pv 5) (nomark _)))))) (pss_one (ps_ret pe_bl)) pss_nil)
        (pss_one (ps_if (pt_not (pt_val (pe_callB (cr_all rfl) (by rfl) T.all boot_all (pa_cons (pe_lc (own := [("value", 16)]) (g := gName 16) (tt := tYes) rfl scLaw.nd (pi_list (pe_f c__law_almost hr (by decide) pass0 (pa_cons (pv 2) (pa_cons (pv 5) pa_nil)))) (blkOk_by (N := nLaw) (sc := defScope sLaw) (by decide +kernel)) (fun _ _ _ _ _ => pg_name (i := 16) scLaw.nd rfl (Or.inl rfl)) (fun _ _ _ _ _ => pts_nil) (fun _ _ _ _ _ => (pe_f c__law_truth hr (by decide) pass0 (pa_cons (pe_f c_is_fraction hr (by decide) pass0 (pa_cons (pv 16) pa_nil)) (pa_cons (pe_f c__law_is_fraction hr (by decide) pass0 (pa_cons (pv 16) pa_nil)) pa_nil))))) pa_nil)))) (pss_one (ps_ret pe_bl)) pss_nil))))))))))))))))))))))
        (pss_one (ps_ret pe_bl))), ?_⟩
    refine ⟨_, rfl, a, _, rfl, .inl hS, _, _, rfl, _, _, rfl, _, rfl, ?_, ?_, for_range (lo := 0) (fun i σ H' => (∃ v1 v2 v3 v4 v5 v6 v7 v8 v9 v10 v11 v12 v13 v14 v15 v16 : Option V, σ = [some (.ref a), v1, v2, v3, v4, v5, v6, v7, v8, v9, v10, v11, v12, v13, v14, v15, v16]) ∧ SqL K H' a (ns.map V.int))
      ⟨⟨_, _, _, _, _, _, _, _, _, _, _, _, _, _, _, _, rfl⟩, hS⟩ ?_ ?_⟩
    · split <;> (try split) <;> omega
    · have hb : (ns.map V.int).length ≤ 63 := by rw [List.length_map]; exact hl
      split <;> (try split) <;> omega
    · rintro i σ H0 hi ⟨⟨v1, v2, v3, v4, v5, v6, v7, v8, v9, v10, v11, v12, v13, v14, v15, v16, rfl⟩, hS0⟩
      refine ⟨_, rfl, _, rfl, a, ns, i, by rw [Int.zero_add]; rfl, hS0, hl, fun p H1 hp S1 b1 => ?_⟩
      dsimp only [gName]
      refine ⟨_, rfl, p, rfl, b1, fun t1 X H2 X0 Xz a1 b2 k2 n1 => ⟨_, rfl, p, rfl, b2, fun t2 Y H3 Y0 Yz a2 b3 k3 n2 => ⟨_, _, rfl, ?_⟩⟩⟩
      replace a1 : At H3 t1 X := a1.kp k3 n1
      have kk : Kp p H0 H3 := (Kp.of S1).trans (k2.trans k3)
      have zx4 : ∀ {z : Int}, z.natAbs < 2 ^ 87 → z.natAbs < 2 ^ 4000 := fun h => up2 h (by decide)
      refine spar (gf_fr (gz_ix0 (gf_var rfl a1)) (gz_ix1 (gf_var rfl a1)) X0 (zx4 Xz.1) (zx4 Xz.2))
        (fun v H4 S4 _ => gf_frK (gz_ix0 (gf_var rfl (a2.same S4))) (gz_ix1 (gf_var rfl (a2.same S4))) Y0 (zx4 Yz.1) (zx4 Yz.2)) fun v w H4 H5 S4 r4 S5 r5 => ?_
      obtain ⟨u1, rfl, h1⟩ := r4
      obtain ⟨u2, rfl, h2⟩ := r5
      obtain ⟨fx, vx, _, _⟩ := fr_spec (a := X.1) X0
      obtain ⟨fy, vy, _, _⟩ := fr_spec (a := Y.1) Y0
      have zx : Sz 87 (fr X.1 X.2) := Sz.fr X0 Xz.1 Xz.2
      have zy : Sz 87 (fr Y.1 Y.2) := Sz.fr Y0 Yz.1 Yz.2
      generalize fr X.1 X.2 = x at *
      generalize fr Y.1 Y.2 = y at *
      have zx' : Sz 1500 x := zx.up (by decide)
      have zy' : Sz 1500 y := zy.up (by decide)
      have S35 : L2.Same H3 H5 := S4.trans S5
      replace a1 := a1.same S35
      replace a2 := a2.same S35
      replace b3 := K44.Same.box S35 b3
      replace h1 := h1.same S5
      replace kk := kk.trans (Kp.of S35)
      refine sif (got_orF (got_notT (got_B (gb_same (gf_var rfl h1) (gf_var rfl a1) fx vx (zx.up (by decide)) (Xz.up (by decide))))) (got_notT (got_B (gb_same (gf_var rfl h2) (gf_var rfl a2) fy vy (zy.up (by decide)) (Yz.up (by decide)))))) fun H6 S6 => ?_
      refine stup4 (gz_ix0 (gf_var rfl (a1.same S6))) (gz_ix1 (gf_var rfl (a1.same S6))) (gz_ix0 (gf_var rfl (a2.same S6))) (gz_ix1 (gf_var rfl (a2.same S6))) fun H7 S7 => ?_
      have S57 := S6.trans S7
      replace h1 := h1.same S57
      replace h2 := h2.same S57
      replace b3 := K44.Same.box S57 b3
      replace kk := kk.trans (Kp.of S57)
      obtain ⟨aX, bX⟩ := X
      obtain ⟨cY, dY⟩ := Y
      dsimp only at Xz Yz X0 Y0 vx vy ⊢
      -- plus, times
      have m1 : ∀ {i j : Int}, i.natAbs < 2 ^ 87 → j.natAbs < 2 ^ 87 → CMulW i j := fun h h' => mulOk h h' (by decide)
      have sp := add_spec fx.1 fy.1 vx vy
      have st := mul_spec fx.1 fy.1 vx vy
      have zp : Sz 3000 (addF x y) := (Sz.add fx.1 fy.1 zx zy).up (by decide)
      have zt : Sz 3000 (mulF x y) := (Sz.mul fx.1 fy.1 zx zy).up (by decide)
      have zs : Sz 3000 (subF x y) := (Sz.sub fx.1 fy.1 zx zy).up (by decide)
      have l2 : ∀ {i j : Int}, i.natAbs < 2 ^ 87 → j.natAbs < 2 ^ 87 → (i * j).natAbs < 2 ^ 3000 := fun h h' => up2 (mul_lt2 h h') (by decide)
      have l3 : (aX * dY + cY * bX).natAbs < 2 ^ 3000 := up2 (add_lt2 (mul_lt2 Xz.1 Yz.2) (mul_lt2 Yz.1 Xz.2)) (by decide)
      have l4 : (aX * dY - cY * bX).natAbs < 2 ^ 3000 := up2 (sub_lt2 (mul_lt2 Xz.1 Yz.2) (mul_lt2 Yz.1 Xz.2)) (by decide)
      refine sif (got_orF (got_notT (got_B (gb_same (gf_bin (gf_var rfl h1) (gf_var rfl h2) fx fy zx' zy') (gf_tup (goz_add (goz_mulW (goz_var rfl) (goz_var rfl) (m1 Xz.1 Yz.2)) (goz_mulW (goz_var rfl) (goz_var rfl) (m1 Yz.1 Xz.2))) (goz_mulW (goz_var rfl) (goz_var rfl) (m1 Xz.2 Yz.2))) sp.1 sp.2 zp ⟨l3, l2 Xz.2 Yz.2⟩)))
        (got_notT (got_B (gb_same (gf_bin (gf_var rfl h1) (gf_var rfl h2) fx fy zx' zy') (gf_tup (goz_mulW (goz_var rfl) (goz_var rfl) (m1 Xz.1 Yz.1)) (goz_mulW (goz_var rfl) (goz_var rfl) (m1 Xz.2 Yz.2))) st.1 st.2 zt ⟨l2 Xz.1 Yz.1, l2 Xz.2 Yz.2⟩)))) fun H8 S8 => ?_
      replace h1 := h1.same S8
      replace h2 := h2.same S8
      have ss := sub_spec fx.1 fy.1 vx vy
      refine sif (got_notT (got_B (gb_same (gf_binK (gf_var rfl h1) (gf_var rfl h2) fx fy zx' zy') (gf_tup (goz_sub (goz_mulW (goz_var rfl) (goz_var rfl) (m1 Xz.1 Yz.2)) (goz_mulW (goz_var rfl) (goz_var rfl) (m1 Yz.1 Xz.2))) (goz_mulW (goz_var rfl) (goz_var rfl) (m1 Xz.2 Yz.2))) ss.1 ss.2 zs ⟨l4, l2 Xz.2 Yz.2⟩))) fun H9 S9 => ?_
      replace h1 := h1.same S9
      replace h2 := h2.same S9
      -- ratio
      refine sif (got_andF (got_test (gob_neZ (goz_var rfl) goz_c)) fun hc => ?_) fun H10 S10 => ?_
      · have hc' : cY ≠ 0 := by simpa using hc
        have sd := div_spec fx.1 fy.1 vx vy hc'
        have hy0 := top_ne fy.1 vy hc'
        exact got_notT (got_B (gb_same (gf_ratio (gf_var rfl h1) (gf_var rfl h2) fx fy zx' zy' hy0) (gf_tup (goz_mulW (goz_var rfl) (goz_var rfl) (m1 Xz.1 Yz.2)) (goz_mulW (goz_var rfl) (goz_var rfl) (m1 Xz.2 Yz.1))) sd.1 sd.2 ((Sz.div fx.1 hy0 zx zy).up (by decide)) ⟨l2 Xz.1 Yz.2, l2 Xz.2 Yz.1⟩))
      replace h1 := h1.same S10
      replace h2 := h2.same S10
      refine sif (got_orF (got_notT (got_B (gb_ref (gf_var rfl h1) fx zx'))) (got_notT (got_B (gb_ref (gf_var rfl h1) fx zx')))) fun H11 S11 => ?_
      replace h1 := h1.same S11
      replace h2 := h2.same S11
      -- less
      have m2 : ∀ {i j k l r : Int}, i.natAbs < 2 ^ 87 → j.natAbs < 2 ^ 87 → k.natAbs < 2 ^ 87 → l.natAbs < 2 ^ 87 → r.natAbs < 2 ^ 87 → CMulW (i * j - k * l) r := fun h1 h2 h3 h4 h5 => mulOk (sub_lt2 (mul_lt2 h1 h2) (mul_lt2 h3 h4)) h5 (by decide)
      have m3 : ∀ {i j k l r q : Int}, i.natAbs < 2 ^ 87 → j.natAbs < 2 ^ 87 → k.natAbs < 2 ^ 87 → l.natAbs < 2 ^ 87 → r.natAbs < 2 ^ 87 → q.natAbs < 2 ^ 87 → CMulW ((i * j - k * l) * r) q := fun h1 h2 h3 h4 h5 h6 => mulOk (mul_lt2 (sub_lt2 (mul_lt2 h1 h2) (mul_lt2 h3 h4)) h5) h6 (by decide)
      have e1 : decide (x.1 * y.2 < y.1 * x.2) = decide ((aX * dY - cY * bX) * bX * dY < 0) := decide_eq_decide.mpr (less_spec fx.1 fy.1 vx vy X0 Y0)
      have e2 : decide (y.1 * x.2 < x.1 * y.2) = decide ((cY * bX - aX * dY) * bX * dY < 0) := by
        rw [decide_eq_decide]
        refine (less_spec fy.1 fx.1 vy vx Y0 X0).trans ?_
        rw [show (cY * bX - aX * dY) * dY * bX = (cY * bX - aX * dY) * bX * dY by grind]
      have e3 : (!decide (decide (x.1 * x.2 < x.1 * x.2) = false)) = false := by
        rw [decide_eq_false (Int.lt_irrefl (x.1 * x.2))]
        rfl
      refine sif (got_orF (got_notT (got_B (gob_eq (gb_tru (gb_less (gf_var rfl h1) (gf_var rfl h2) zx' zy') (gob_lt (goz_mulW (goz_mulW (goz_sub (goz_mulW (goz_var rfl) (goz_var rfl) (m1 Xz.1 Yz.2)) (goz_mulW (goz_var rfl) (goz_var rfl) (m1 Yz.1 Xz.2))) (goz_var rfl) (m2 Xz.1 Yz.2 Yz.1 Xz.2 Xz.2)) (goz_var rfl) (m3 Xz.1 Yz.2 Yz.1 Xz.2 Xz.2 Yz.2)) goz_c)) (decide_eq_true e1))))
        (got_test (gob_eq (gob_notB (gb_less (gf_var rfl h1) (gf_var rfl h1) zx' zx') false) e3))) fun H12 S12 => ?_
      replace h1 := h1.same S12
      replace h2 := h2.same S12
      refine sif (got_notT (got_B (gob_eq (gb_tru (gb_less (gf_var rfl h2) (gf_var rfl h1) zy' zx') (gob_lt (goz_mulW (goz_mulW (goz_sub (goz_mulW (goz_var rfl) (goz_var rfl) (m1 Yz.1 Xz.2)) (goz_mulW (goz_var rfl) (goz_var rfl) (m1 Xz.1 Yz.2))) (goz_var rfl) (m2 Yz.1 Xz.2 Xz.1 Yz.2 Xz.2)) (goz_var rfl) (m3 Yz.1 Xz.2 Xz.1 Yz.2 Xz.2 Yz.2)) goz_c)) (decide_eq_true e2)))) fun H13 S13 => ?_
      replace h1 := h1.same S13
      replace h2 := h2.same S13
      -- by keywords
      refine sif (got_orF (got_ne (gf_binK (gf_var rfl h1) (gf_var rfl h2) fx fy zx' zy') (gf_bin (gf_var rfl h1) (gf_var rfl h2) fx fy zx' zy')) (got_test (gob_eq (gob_neB (gb_lessK (gf_var rfl h2) (gf_var rfl h1) zy' zx') (gb_less (gf_var rfl h2) (gf_var rfl h1) zy' zx')) (by simp)))) fun H14 S14 => ?_
      replace h1 := h1.same S14
      replace h2 := h2.same S14
      refine sif (got_orF (got_ne (gf_binK (gf_var rfl h1) (gf_var rfl h2) fx fy zx' zy') (gf_bin (gf_var rfl h1) (gf_var rfl h2) fx fy zx' zy')) (got_test (gob_eq (gob_notB (gb_isfK (gf_var rfl h1) fx) true) rfl))) fun H15 S15 => ?_
      replace h1 := h1.same S15
      replace h2 := h2.same S15
      refine sif (got_orF (got_ne (x := addF x y) ((gf_sum2K (gf_var rfl h1) (gf_var rfl h2) fx fy (zx.up (by decide)) (zy.up (by decide))).imp fun v H h => by rw [sumF_two fx] at h; exact h) (gf_bin (gf_var rfl h1) (gf_var rfl h2) fx fy zx' zy'))
        (got_andF (got_test (gob_neZ (goz_var rfl) goz_c)) fun hc => ?_)) fun H16 S16 => ?_
      · have hc' : cY ≠ 0 := by simpa using hc
        have hy0 := top_ne fy.1 vy hc'
        exact got_ne (gf_ratioK (gf_var rfl h1) (gf_var rfl h2) fx fy zx' zy' hy0) (gf_ratio (gf_var rfl h1) (gf_var rfl h2) fx fy zx' zy' hy0)
      replace h1 := h1.same S16
      replace h2 := h2.same S16
      have S716 : L2.Same H7 H16 := S8.trans (S9.trans (S10.trans (S11.trans (S12.trans (S13.trans (S14.trans (S15.trans S16)))))))
      replace b3 := K44.Same.box S716 b3
      replace kk := kk.trans (Kp.of S716)
      have hne1 : u1 ≠ p := h1.ne b3
      -- rest
      refine ⟨_, rfl, p, 7, rfl, b3, by decide, up2 (n := 3) (by decide) (by decide), fun d H17 d0 d1 b4 e17 => ⟨d, rfl, by omega, by omega, fun D hD => ?_⟩⟩
      have hp17 : p ≠ D := fun e => by
        obtain ⟨c, r, n, hb⟩ := b4
        rw [← e, hb] at hD
        cases hD
      replace h1 : At H17 u1 x := (e17 u1 hne1).trans h1
      replace kk := kk.trans e17.kp
      refine lc_range (lo := 0) (fun i H' => ∃ ps : List (Addr × (Int × Int)), ps.length = i ∧ PairsAt H' D ps ∧ (∀ q ∈ ps, q.1 ≠ p) ∧ BoxAt H' p ∧ Kp p H17 H')
        ⟨[], rfl, ⟨upd_same, fun _ h => absurd h List.not_mem_nil⟩, fun _ h => absurd h List.not_mem_nil, K44.Same.box (RK.Same.upd hD) b4, Kp.of (RK.Same.upd hD)⟩ ?_ ?_
      · rintro i H' hi ⟨ps, hlen, hP, hne, hb, hk⟩
        refine ⟨rfl, ?_⟩
        unfold tYes
        refine iteT ⟨_, rfl, p, rfl, hb, fun t Z H2 Z0 Zz az b5 k5 n5 => ?_⟩
        have eD := k5 _ _ hP.1 hp17.symm
        have nD : ∀ {r : Addr} {z : Int × Int}, At H2 r z → r ≠ D := fun h => ne_of h eD (by intro z; cases z)
        have hlen2 : i < 7 := by omega
        refine ⟨_, eD, by rw [List.length_map]; exact Nat.lt_of_lt_of_le (by omega : ps.length < 100) (by decide), ps ++ [(t, Z)], by rw [List.length_append, hlen]; rfl, ⟨?_, fun q hq => ?_⟩, fun q hq => ?_, ?_, ?_⟩
        · rw [upd_same, List.map_append]
          rfl
        · rcases List.mem_append.mp hq with hq | hq
          · have h2 := (hP.2 q hq).2.kp k5 (hne q hq)
            exact ⟨(hP.2 q hq).1, (upd_ne (nD h2)).trans h2⟩
          · obtain rfl := List.mem_singleton.mp hq
            exact ⟨⟨Z0, Zz⟩, (upd_ne (nD az)).trans az⟩
        · rcases List.mem_append.mp hq with hq | hq
          · exact hne q hq
          · obtain rfl := List.mem_singleton.mp hq
            exact n5
        · obtain ⟨c, r, n, hb5⟩ := b5
          exact ⟨c, r, n, (upd_ne hp17).trans hb5⟩
        · exact fun b o hb' hbp => (upd_ne (ne_of_none hb' hD)).trans ((hk.trans k5) b o hb' hbp)
      rintro H18 ⟨ps, hlen, hP, hne, b5, k18⟩
      replace h1 : At H18 u1 x := h1.kp k18 hne1
      replace kk := kk.trans k18
      have hps : ps.length ≤ 7 := by omega
      -- top, bottom = 0, 1
      dsimp only [gName]
      refine ⟨(by show 2 ≤ sizeLine; decide), fun r hr => ⟨r, _, rfl, SqT.of upd_same, rfl, _, _, rfl, _, _, rfl, rfl, ?_⟩⟩
      have S19 := RK.Same.upd (o := .tup [.int 0, .int 1]) hr
      generalize upd H18 r (.tup [.int 0, .int 1]) = H19 at *
      replace h1 := h1.same S19
      replace hP := hP.same S19
      replace b5 := K44.Same.box S19 b5
      replace kk := kk.trans (Kp.of S19)
      have hgood : ∀ q ∈ ps.map (·.2), Good q := fun q hq => by
        obtain ⟨z, hz, rfl⟩ := List.mem_map.mp hq
        exact (hP.2 z hz).1
      refine ⟨_, rfl, D, rfl, ⟨_, SqL.of hP.1⟩, for_list (K := K) (a := D) (xs := ps.map fun q => V.ref q.1)
        (fun j σ' H' => L2.Same H19 H' ∧ ∃ v14 v15 v16 : Option V, σ' = [some (.ref a), some (.int (0 + (i : Int))), some (.ref p), some (.ref t1), some (.ref t2), some (.ref u1), some (.ref u2), some (.int aX), some (.int bX), some (.int cY), some (.int dY), some (.ref D),
          some (.int (runTB ((ps.map (·.2)).take j)).1), some (.int (runTB ((ps.map (·.2)).take j)).2), v14, v15, v16])
        ⟨L2.Same.refl H19, _, _, _, rfl⟩ (fun j σ' H' _ h => SqL.of (h.1 _ _ hP.1)) ?_ ?_⟩
      · rintro j v σ' H' hj ⟨S, v14, v15, v16, rfl⟩
        obtain ⟨q, hq, rfl⟩ : ∃ q, ps[j]? = some q ∧ v = V.ref q.1 := by
          rw [List.getElem?_map] at hj
          cases e : ps[j]? with
          | none => rw [e] at hj; cases hj
          | some z => rw [e] at hj; exact ⟨z, rfl, (Option.some.inj hj).symm⟩
        obtain ⟨gq, aq⟩ := hP.2 q (List.mem_of_getElem? hq)
        replace aq := aq.same S
        have hq2 : (ps.map (·.2))[j]? = some q.2 := by rw [List.getElem?_map, hq]; rfl
        have hg := run_ok (qs := (ps.map (·.2)).take j) fun z hz => hgood z (List.mem_of_mem_take hz)
        have hz : Sz 700 (runTB ((ps.map (·.2)).take j)) := hg.2.1.up (by
          have h1 := List.length_take_le j (ps.map (·.2))
          have h2 := List.length_take_le' j (ps.map (·.2))
          rw [List.length_map] at h2
          omega)
        have er := runTB_snoc ((ps.map (·.2)).take j) q.2
        rw [← take_snoc hq2] at er
        have c1 : CMulW (runTB ((ps.map (·.2)).take j)).1 q.2.2 := mulOk hz.1 gq.2.2 (by decide)
        have c2 : CMulW q.2.1 (runTB ((ps.map (·.2)).take j)).2 := mulOk gq.2.1 hz.2 (by decide)
        have c3 : CMulW (runTB ((ps.map (·.2)).take j)).2 q.2.2 := mulOk hz.2 gq.2.2 (by decide)
        refine (goz_add (goz_mulW (goz_var rfl) (gz_ix1 (gf_var rfl aq)) c1) (goz_mulW (gz_ix0 (gf_var rfl aq)) (goz_var rfl) c2)) H' (L2.Same.refl H') _ fun v H2 S2 ev => ?_
        refine (goz_mulW (goz_var rfl) (gz_ix1 (gf_var rfl (aq.same S2))) c3) H2 (L2.Same.refl H2) _ fun w H3 S3 ew => ?_
        cases (show v = _ from ev)
        cases (show w = _ from ew)
        refine ⟨_, _, rfl, S.trans (S2.trans S3), some (.ref q.1), v15, v16, ?_⟩
        rw [er]
        rfl
      rintro σ' H20 ⟨S20, v14, v15, v16, rfl⟩
      rw [List.length_map, ← List.length_map (f := (·.2)) (as := ps), List.take_length]
      replace h1 := h1.same S20
      replace hP := hP.same S20
      replace b5 := K44.Same.box S20 b5
      replace kk := kk.trans (Kp.of S20)
      obtain ⟨g1, g2, g3, g4⟩ := run_ok hgood
      rw [List.map_map] at g3 g4
      have hlen7 : (ps.map (·.2)).length ≤ 7 := by rw [List.length_map]; exact hps
      have zz : Sz 3000 (runTB (ps.map (·.2))) := g2.up (by omega)
      have zsum : Sz 3000 (sumF (ps.map fun q => fr q.2.1 q.2.2)) := (sumF_ok (xs := ps.map fun q => fr q.2.1 q.2.2) fun z hz => by
        obtain ⟨q, hq, rfl⟩ := List.mem_map.mp hz
        have gq := (hP.2 q hq).1
        exact ⟨(fr_spec gq.1).1, (Sz.fr gq.1 gq.2.1 gq.2.2).up (by decide)⟩).2.up (by rw [List.length_map]; omega)
      refine sif (got_notT (got_B (gb_same (gf_sumC (CN := CN) rfl hP hps (fun _ => rfl) (fun _ => rfl)) (gf_tup (goz_var rfl) (goz_var rfl)) g3 g4 zsum zz))) fun H21 S21 => ?_
      replace h1 := h1.same S21
      -- the last ones
      have f11 : IsFr (1, 1) := ⟨by decide, by decide⟩
      have s11 : ∀ n, 0 < n → Sz n (1, 1) := fun n hn => ⟨up2 (n := 1) (by decide) hn, up2 (n := 1) (by decide) hn⟩
      refine sif (got_orF (got_ne (x := (0, 1)) gf_sum0 (gf_tup goz_c goz_c)) (got_orF (got_ne (x := (0, 1)) ((gf_bin (g := subF) (gf_var rfl h1) (gf_var rfl h1) fx fx zx' zx').imp fun v H h => by rw [sub_self_fr fx] at h; exact h) (gf_tup goz_c goz_c))
        (got_ne (x := x) ((gf_bin (g := mulF) (y := (1, 1)) (gf_var rfl h1) (gf_tup goz_c goz_c) fx f11 zx' (s11 1500 (by decide))).imp fun v H h => by rw [mul_one_fr fx] at h; exact h) (gf_var rfl h1)))) fun H22 S22 => ?_
      replace h1 := h1.same S22
      replace b5 := K44.Same.box (S21.trans S22) b5
      replace kk := kk.trans (Kp.of (S21.trans S22))
      refine ⟨_, rfl, _, rfl, p, u1, x, rfl, b5, h1, fx, zx', fun l us H23 hA hl2 k23 b6 => ⟨l, rfl, ⟨_, SqL.of hA.1⟩, fun D2 hD2 => lc_list (K := K) (a := l) (xs := us)
        (fun j H' => L2.Same H23 H' ∧ H' D2 = some (.lst ((us.take j).map fun _ => V.bl true))) ⟨RK.Same.upd hD2, upd_same⟩ (fun j H' _ h => SqL.of (h.1 _ _ hA.1)) ?_ ?_⟩⟩
      · rintro j v H' hj ⟨S, e⟩
        obtain ⟨r, hv⟩ := hA.2 v (List.mem_of_getElem? hj)
        refine ⟨rfl, ?_⟩
        unfold tYes
        refine iteT ⟨_, rfl, v, r, rfl, hv.mono S, _, rfl, v, r, rfl, hv.mono S, fun H24 S24 => ⟨r, r, rfl, _, S24 _ _ e, ?_, RK.Same.updAt (S.trans S24) hD2, ?_⟩⟩
        · rw [List.length_map]
          exact Nat.lt_of_le_of_lt (Nat.le_trans (List.length_take_le' _ _) hl2) (by decide)
        · rw [upd_same, take_snoc hj, List.map_append, decide_eq_true (rfl : r = r)]
          rfl
      · rintro H24 ⟨S24, e⟩
        rw [List.take_length] at e
        have eb : us.map (fun _ => V.bl true) = (us.map fun _ => true).map V.bl := by rw [List.map_map]; rfl
        rw [eb] at e
        refine ⟨D2, _, rfl, SqL.of e, _, rfl, ?_⟩
        have ea : (us.map fun _ => true).all id = true := by rw [List.all_map]; simp
        rw [ea]
        refine iteF ?_
        exact ⟨⟨_, _, _, _, _, _, _, _, _, _, _, _, _, _, _, _, rfl⟩, seq_new hS0 hp (kk.trans (k23.trans (Kp.of S24)))⟩
    · rintro σ H' ⟨⟨v1, v2, v3, v4, v5, v6, v7, v8, v9, v10, v11, v12, v13, v14, v15, v16, rfl⟩, _⟩
      exact k H'
end
end K44


set_option Elab.async false
set_option linter.all false
set_option maxRecDepth 100000
set_option maxHeartbeats 4000000
namespace K44
open PySem PySem.Spec PyProof.Rows L2 RK
/-- a def of the text, where the top has put it -/
structure Df (K : PySem.W.Frag) (mg : Str → Option Value) (x : Str) (st : Stmt) : Prop where
  ex : ∃ (f : Addr) (fd : FuncData), Fun K x x st f fd ∧ mg x = some (.ref f)
theorem df_mk {K : PySem.W.Frag} {h : Heap} {mg : Str → Option Value} {x : Str} {st : Stmt} {f : Addr} {oc : Value} {od an : Option Addr} {sl : Array (Option Value)} {kV dc pm cd ct : Value} (X : K.In h) (G : h.Ns mainGlobals mg)
    (a : PySem.W.nsIn K mainGlobals x = some (some (.ref f))) (l : K.lookup f = some ⟨oc, od, .func (PySem.W.fnOf x x (defArgs st) (defBody st) (defScope st) .none kV dc pm an cd ct), sl⟩) (c : PySem.W.codeIn K cd x = true)
    (k : PySem.W.keepIn K (.ref f) = true) : Df K mg x st := ⟨f, _, fun_mk l c k, PySem.W.mg_of X G a⟩
theorem exm_self {K : PySem.W.Frag} {S C : Addr} (h1 : PySem.W.subIn K (.ref S) (.type "BaseException") = some true) (hd : PySem.W.hasDictIn K S = true) (h3 : PySem.W.typeIn K (.ref S) = some (.type "type"))
    (h4 : PySem.W.subIn K (.ref C) (.ref S) = some true) : PySem.W.exmOne K (.ref C) (.ref S) = some true := PySem.W.exm_ref h1 hd h3 h4
theorem all_mk {l : PySem.W.OpenLaw} {w : World} {K : PySem.W.Frag} {h : Heap} {mg : Str → Option Value} {fa CN CR CF fI fL : Addr} (X : K.In h) (G : h.Ns mainGlobals mg) (hfa : mg "law" = some (.ref fa))
    {nm q : Str} {N : Addr} {bs : List Value} {sn : List Str} {sub : List Value} {ab : Bool} {col : Option Bool} {dd : Option Addr} {m0 m1 m2 m3 m5 : Option Value} {od1 an1 od2 an2 : Option Addr} {sl1 sl2 : Array (Option Value)} {oc1 kV1 dc1 pm1 cd1 ct1 oc2 kV2 dc2 pm2 cd2 ct2 : Value}
    (aN : PySem.W.nsIn K mainGlobals "InvalidNumber" = some (some (.ref CN)))
    (aR : PySem.W.nsIn K mainGlobals "RoomError" = some (some (.ref CR)))
    (aF : PySem.W.nsIn K mainGlobals "Refused" = some (some (.ref CF)))
    (xL : K.lookup CN = some (excClassObj nm q CN N bs [.ref CR, .type "ValueError", .type "Exception", .type "BaseException", .type "object"] true sn sub ab col dd m0 m1 m2 m3 m5 "ValueError.__new__"))
    (sa : PySem.W.findIn K (.ref CN) "__setattr__" = some (some (.builtin "object.__setattr__")))
    (eC : PySem.W.subIn K (.ref CN) (.type "BaseException") = some true)
    (tC : PySem.W.typeIn K (.ref CN) = some (.type "type"))
    (kC : PySem.W.keepIn K (.ref CN) = true)
    (ga : PySem.W.findIn K (.ref CN) "__getattribute__" = some (some (.builtin "BaseException.__getattribute__")))
    (gg : PySem.W.findIn K (.ref CN) "__getattr__" = some none)
    (hC : PySem.W.hasDictIn K CN = true)
    (cC : PySem.W.findIn K (.ref CN) "__class__" = some (some (.builtin "object.__class__")))
    (sp : PySem.W.specialIn K (.builtin "object.__class__") "__get__" = some (some (.builtin "getset_descriptor.__get__")))
    (ti : PySem.W.takesIn K (.builtin "object.__class__") = some true)
    (mo : PySem.W.mroIn K CN (.type "object") = some true)
    (nw : PySem.W.findIn K (.ref CN) "word" = some none)
    (iC : PySem.W.findIn K (.ref CN) "__init__" = some (some (.ref fI)))
    (tI : PySem.W.typeIn K (.ref fI) = some (.type "function"))
    (l1 : K.lookup fI = some ⟨oc1, od1, .func (PySem.W.fnOf "__init__" "InvalidNumber.__init__" (defArgs sIni) (defBody sIni) (defScope sIni) .none kV1 dc1 pm1 an1 cd1 ct1), sl1⟩)
    (c1 : PySem.W.codeIn K cd1 "InvalidNumber.__init__" = true)
    (k1 : PySem.W.keepIn K (.ref fI) = true)
    (eR : PySem.W.subIn K (.ref CR) (.type "BaseException") = some true)
    (hR : PySem.W.hasDictIn K CR = true)
    (tR : PySem.W.typeIn K (.ref CR) = some (.type "type"))
    (sR : PySem.W.subIn K (.ref CN) (.ref CR) = some true)
    (nF : (Value.ref CN == Value.ref CF) = false)
    (hF : PySem.W.hasDictIn K CF = true)
    (tF : PySem.W.typeIn K (.ref CF) = some (.type "type"))
    (sF : PySem.W.subIn K (.ref CN) (.ref CF) = some false)
    (zg : PySem.W.nsIn K mainGlobals "gcd" = some (some (.builtin "math.gcd")))
    (z_isinstance : PySem.W.nsIn K mainGlobals "isinstance" = some none)
    (z_int : PySem.W.nsIn K mainGlobals "int" = some none)
    (z_bool : PySem.W.nsIn K mainGlobals "bool" = some none)
    (z_tuple : PySem.W.nsIn K mainGlobals "tuple" = some none)
    (z_len : PySem.W.nsIn K mainGlobals "len" = some none)
    (z_abs : PySem.W.nsIn K mainGlobals "abs" = some none)
    (z_range : PySem.W.nsIn K mainGlobals "range" = some none)
    (z_max : PySem.W.nsIn K mainGlobals "max" = some none)
    (z_min : PySem.W.nsIn K mainGlobals "min" = some none)
    (z_all : PySem.W.nsIn K mainGlobals "all" = some none)
    (aL : PySem.W.nsIn K mainGlobals "law" = some (some (.ref fL)))
    (lL : K.lookup fL = some ⟨oc2, od2, .func (PySem.W.fnOf "law" "law" (defArgs sLaw) (defBody sLaw) (defScope sLaw) .none kV2 dc2 pm2 an2 cd2 ct2), sl2⟩)
    (cL : PySem.W.codeIn K cd2 "law" = true)
    (kL : PySem.W.keepIn K (.ref fL) = true)
    (d0 : Df K mg "is_integer" sInt)
    (d1 : Df K mg "fraction_of" sFr)
    (d2 : Df K mg "is_fraction" sIsF)
    (d3 : Df K mg "plus" sPlus)
    (d4 : Df K mg "minus" sMinus)
    (d5 : Df K mg "times" sTimes)
    (d6 : Df K mg "ratio" sRatio)
    (d7 : Df K mg "less" sLess)
    (d8 : Df K mg "sum_of" sSum)
    (d9 : Df K mg "_law_box" sBox)
    (d10 : Df K mg "_law_take" sTake)
    (d11 : Df K mg "_law_pick" sPick)
    (d12 : Df K mg "_law_divisor" sDiv)
    (d13 : Df K mg "_law_is_fraction" sLIs)
    (d14 : Df K mg "_law_same" sSame)
    (d15 : Df K mg "_law_number" sNum)
    (d16 : Df K mg "_law_pair" sPair)
    (d17 : Df K mg "_law_refused" sRef)
    (d18 : Df K mg "_law_truth" sTru)
    (d19 : Df K mg "_law_almost" sAlm) :
    ∃ fd : FuncData, (∀ (s : Shared) (v : Value), BindsTo s fd ⟨[v], []⟩ [("script", v)]) ∧ ∀ base : Heap, K.In base → base.Ns mainGlobals mg → FnOk l.prog w K mg base CX0 8 fa fd ["script"] (spLaw K) := by
  have e := hfa.symm.trans (PySem.W.mg_of X G aL)
  cases e
  have oex : OexC K CN := ⟨⟨nm, q, N, bs, _, sn, sub, ab, col, dd, m0, m1, m2, m3, m5, xL, rfl⟩, sa, eC, tC, kC⟩
  have err : ErrC K mg "InvalidNumber" "word" CN fI := ⟨PySem.W.mg_of X G aN, oex, ⟨ga, gg, eC, hC⟩, ⟨ga, gg, eC, hC, cC, sp, ti, mo⟩, nw, iC, tI⟩
  have T : Txt K mg CN CR CF fI := ⟨err, PySem.W.mg_of X G aR, PySem.W.mg_of X G aF, exm_self eR hR tR sR, kit_self, kit_sub nF hF tF sF, PySem.W.mg_of X G zg, PySem.W.mg_none_of X G z_isinstance, PySem.W.mg_none_of X G z_int, PySem.W.mg_none_of X G z_bool, PySem.W.mg_none_of X G z_tuple, PySem.W.mg_none_of X G z_len, PySem.W.mg_none_of X G z_abs, PySem.W.mg_none_of X G z_range, PySem.W.mg_none_of X G z_max, PySem.W.mg_none_of X G z_min, PySem.W.mg_none_of X G z_all⟩
  have FI := fun_mk (st := sIni) l1 c1 k1
  have bI := FI.binds (ps := ["self", "word"]) fun _ _ _ _ _ _ us hl => match us, hl with | [_, _], _ => rfl
  have FL := fun_mk (st := sLaw) lL cL kL
  obtain ⟨f0, fd0, F0, g0⟩ := d0.ex
  have b0 := F0.binds (ps := ["value"]) fun _ _ _ _ _ _ us hl => match us, hl with | [_], _ => rfl
  obtain ⟨f1, fd1, F1, g1⟩ := d1.ex
  have b1 := F1.binds (ps := ["top", "bottom"]) fun _ _ _ _ _ _ us hl => match us, hl with | [_, _], _ => rfl
  obtain ⟨f2, fd2, F2, g2⟩ := d2.ex
  have b2 := F2.binds (ps := ["value"]) fun _ _ _ _ _ _ us hl => match us, hl with | [_], _ => rfl
  obtain ⟨f3, fd3, F3, g3⟩ := d3.ex
  have b3 := F3.binds (ps := ["one", "other"]) fun _ _ _ _ _ _ us hl => match us, hl with | [_, _], _ => rfl
  obtain ⟨f4, fd4, F4, g4⟩ := d4.ex
  have b4 := F4.binds (ps := ["one", "other"]) fun _ _ _ _ _ _ us hl => match us, hl with | [_, _], _ => rfl
  obtain ⟨f5, fd5, F5, g5⟩ := d5.ex
  have b5 := F5.binds (ps := ["one", "other"]) fun _ _ _ _ _ _ us hl => match us, hl with | [_, _], _ => rfl
  obtain ⟨f6, fd6, F6, g6⟩ := d6.ex
  have b6 := F6.binds (ps := ["one", "other"]) fun _ _ _ _ _ _ us hl => match us, hl with | [_, _], _ => rfl
  obtain ⟨f7, fd7, F7, g7⟩ := d7.ex
  have b7 := F7.binds (ps := ["one", "other"]) fun _ _ _ _ _ _ us hl => match us, hl with | [_, _], _ => rfl
  obtain ⟨f8, fd8, F8, g8⟩ := d8.ex
  have b8 := F8.binds (ps := ["fractions"]) fun _ _ _ _ _ _ us hl => match us, hl with | [_], _ => rfl
  obtain ⟨f9, fd9, F9, g9⟩ := d9.ex
  have b9 := F9.binds (ps := ["script", "k"]) fun _ _ _ _ _ _ us hl => match us, hl with | [_, _], _ => rfl
  obtain ⟨f10, fd10, F10, g10⟩ := d10.ex
  have b10 := F10.binds (ps := ["box", "many"]) fun _ _ _ _ _ _ us hl => match us, hl with | [_, _], _ => rfl
  obtain ⟨f11, fd11, F11, g11⟩ := d11.ex
  have b11 := F11.binds (ps := ["box", "some"]) fun _ _ _ _ _ _ us hl => match us, hl with | [_, _], _ => rfl
  obtain ⟨f12, fd12, F12, g12⟩ := d12.ex
  have b12 := F12.binds (ps := ["one", "other"]) fun _ _ _ _ _ _ us hl => match us, hl with | [_, _], _ => rfl
  obtain ⟨f13, fd13, F13, g13⟩ := d13.ex
  have b13 := F13.binds (ps := ["value"]) fun _ _ _ _ _ _ us hl => match us, hl with | [_], _ => rfl
  obtain ⟨f14, fd14, F14, g14⟩ := d14.ex
  have b14 := F14.binds (ps := ["told", "pair"]) fun _ _ _ _ _ _ us hl => match us, hl with | [_, _], _ => rfl
  obtain ⟨f15, fd15, F15, g15⟩ := d15.ex
  have b15 := F15.binds (ps := ["box"]) fun _ _ _ _ _ _ us hl => match us, hl with | [_], _ => rfl
  obtain ⟨f16, fd16, F16, g16⟩ := d16.ex
  have b16 := F16.binds (ps := ["box"]) fun _ _ _ _ _ _ us hl => match us, hl with | [_], _ => rfl
  obtain ⟨f17, fd17, F17, g17⟩ := d17.ex
  have b17 := F17.binds (ps := ["one", "by_ratio"]) fun _ _ _ _ _ _ us hl => match us, hl with | [_, _], _ => rfl
  obtain ⟨f18, fd18, F18, g18⟩ := d18.ex
  have b18 := F18.binds (ps := ["told", "due"]) fun _ _ _ _ _ _ us hl => match us, hl with | [_, _], _ => rfl
  obtain ⟨f19, fd19, F19, g19⟩ := d19.ex
  have b19 := F19.binds (ps := ["box", "one"]) fun _ _ _ _ _ _ us hl => match us, hl with | [_, _], _ => rfl
  refine ⟨PySem.W.fnOf "law" "law" (defArgs sLaw) (defBody sLaw) (defScope sLaw) .none kV2 dc2 pm2 an2 cd2 ct2, fun s v => .of_eq rfl, fun base _ _ => ?_⟩
  have c_is_integer := Cl.of F0 g0 (ok_int (P := l.prog) (w := w) (base := base) F0 T) b0
  have c_fraction_of := Cl.of F1 g1 (ok_fr (P := l.prog) (w := w) (base := base) F1 T FI bI) b1
  have k_fraction_of_bottom_top := Ck.of F1 g1 (ok_fr (P := l.prog) (w := w) (base := base) F1 T FI bI) (fun_kb (ks := ["bottom", "top"]) (g := kwSw) (gV := kwSw) F1 kwSw_rel fun _ _ _ _ _ _ us ws hl => match us, ws, hl with | [], [_, _], _ => rfl)
  have k_fraction_of_top_bottom := Ck.of F1 g1 (ok_fr (P := l.prog) (w := w) (base := base) F1 T FI bI) (fun_kb (ks := ["top", "bottom"]) (g := kwId) (gV := kwId) F1 kwId_rel fun _ _ _ _ _ _ us ws hl => match us, ws, hl with | [], [_, _], _ => rfl)
  have c_is_fraction := Cl.of F2 g2 (ok_isF (P := l.prog) (w := w) (base := base) F2 T c_is_integer) b2
  have k_is_fraction_value := Ck.of F2 g2 (ok_isF (P := l.prog) (w := w) (base := base) F2 T c_is_integer) (fun_kb (ks := ["value"]) (g := kwId) (gV := kwId) F2 kwId_rel fun _ _ _ _ _ _ us ws hl => match us, ws, hl with | [], [_], _ => rfl)
  have c_plus := Cl.of F3 g3 (ok_plus (P := l.prog) (w := w) (base := base) F3 c_fraction_of) b3
  have k_plus_other_one := Ck.of F3 g3 (ok_plus (P := l.prog) (w := w) (base := base) F3 c_fraction_of) (fun_kb (ks := ["other", "one"]) (g := kwSw) (gV := kwSw) F3 kwSw_rel fun _ _ _ _ _ _ us ws hl => match us, ws, hl with | [], [_, _], _ => rfl)
  have c_minus := Cl.of F4 g4 (ok_minus (P := l.prog) (w := w) (base := base) F4 c_fraction_of) b4
  have k_minus_other_one := Ck.of F4 g4 (ok_minus (P := l.prog) (w := w) (base := base) F4 c_fraction_of) (fun_kb (ks := ["other", "one"]) (g := kwSw) (gV := kwSw) F4 kwSw_rel fun _ _ _ _ _ _ us ws hl => match us, ws, hl with | [], [_, _], _ => rfl)
  have c_times := Cl.of F5 g5 (ok_times (P := l.prog) (w := w) (base := base) F5 c_fraction_of) b5
  have k_times_other_one := Ck.of F5 g5 (ok_times (P := l.prog) (w := w) (base := base) F5 c_fraction_of) (fun_kb (ks := ["other", "one"]) (g := kwSw) (gV := kwSw) F5 kwSw_rel fun _ _ _ _ _ _ us ws hl => match us, ws, hl with | [], [_, _], _ => rfl)
  have c_ratio := Cl.of F6 g6 (ok_ratio (P := l.prog) (w := w) (base := base) F6 c_fraction_of) b6
  have k_ratio_other_one := Ck.of F6 g6 (ok_ratio (P := l.prog) (w := w) (base := base) F6 c_fraction_of) (fun_kb (ks := ["other", "one"]) (g := kwSw) (gV := kwSw) F6 kwSw_rel fun _ _ _ _ _ _ us ws hl => match us, ws, hl with | [], [_, _], _ => rfl)
  have c_less := Cl.of F7 g7 (ok_less (P := l.prog) (w := w) (base := base) F7) b7
  have k_less_other_one := Ck.of F7 g7 (ok_less (P := l.prog) (w := w) (base := base) F7) (fun_kb (ks := ["other", "one"]) (g := kwSw) (gV := kwSw) F7 kwSw_rel fun _ _ _ _ _ _ us ws hl => match us, ws, hl with | [], [_, _], _ => rfl)
  have c_sum_of := Cl.of F8 g8 (ok_sum (P := l.prog) (w := w) (base := base) F8 c_plus) b8
  have k_sum_of_fractions := Ck.of F8 g8 (ok_sum (P := l.prog) (w := w) (base := base) F8 c_plus) (fun_kb (ks := ["fractions"]) (g := kwId) (gV := kwId) F8 kwId_rel fun _ _ _ _ _ _ us ws hl => match us, ws, hl with | [], [_], _ => rfl)
  have c__law_box := Cl.of F9 g9 (ok_box (P := l.prog) (w := w) (base := base) F9 T) b9
  have c__law_take := Cl.of F10 g10 (ok_take (P := l.prog) (w := w) (base := base) F10 T) b10
  have c__law_pick := Cl.of F11 g11 (ok_pick (P := l.prog) (w := w) (base := base) F11 T c__law_take) b11
  have c__law_divisor := Cl.of F12 g12 (ok_div (P := l.prog) (w := w) (base := base) F12 T) b12
  have c__law_is_fraction := Cl.of F13 g13 (ok_lis (P := l.prog) (w := w) (base := base) F13 T c__law_divisor) b13
  have c__law_same := Cl.of F14 g14 (ok_same (P := l.prog) (w := w) (base := base) F14 T c__law_is_fraction) b14
  have c__law_number := Cl.of F15 g15 (ok_num (P := l.prog) (w := w) (base := base) F15 T c__law_take) b15
  have c__law_pair := Cl.of F16 g16 (ok_pair (P := l.prog) (w := w) (base := base) F16 T c__law_number c__law_pick) b16
  have c__law_refused := Cl.of F17 g17 (ok_ref (P := l.prog) (w := w) (base := base) F17 T c_fraction_of k_fraction_of_top_bottom c_ratio) b17
  have c__law_truth := Cl.of F18 g18 (ok_tru (P := l.prog) (w := w) (base := base) F18) b18
  have c__law_almost := Cl.of F19 g19 (ok_alm (P := l.prog) (w := w) (base := base) F19 T c__law_take) b19
  exact ok_law FL T c__law_box c__law_pair c__law_take c_fraction_of k_fraction_of_bottom_top c__law_same c_plus k_plus_other_one k_minus_other_one c_minus c_times k_times_other_one c_ratio k_ratio_other_one c__law_refused c__law_truth c_less k_less_other_one c_is_fraction k_is_fraction_value c_sum_of k_sum_of_fractions c__law_almost c__law_is_fraction
theorem walk {l : PySem.W.OpenLaw} {q : Program} {loose : List Str} {XP : (Str → Option Value) → Heap → Prop} {YP : World → Heap → Prop} {d : DefRec} {K : Params → PySem.W.Frag} (hn : l.most = some 63) (hdf : d.params.defaults = [])
    (hY : ∀ (w : World) (h : Heap), YP w h → (K w.params).In h)
    (F : ∀ (w : World) (mg : Str → Option Value) (fa : Addr) (h : Heap), (K w.params).In h → h.Ns mainGlobals mg → mg d.name = some (.ref fa) →
      ∃ fd : FuncData, (∀ (s : Shared) (u : Value), BindsTo s fd ⟨[u], []⟩ [("script", u)]) ∧ ∀ base : Heap, (K w.params).In base → base.Ns mainGlobals mg → FnOk l.prog w (K w.params) mg base CX0 8 fa fd ["script"] (spLaw (K w.params))) :
    PySem.W.WalkO q loose XP YP l.row.toRowW d [] (fun f vs => PySem.call f vs) :=
  L2.walk_of (n := 63) (k := 8) (x := "script") (CX := fun _ => CX0) (sp := fun w => spLaw (K w.params)) hn (by decide) hdf ⟨rfl, by decide, by decide⟩ hY F (fun _ _ a ns hl _ hS => ⟨a, ns, rfl, hS, hl, fun _ => rfl⟩) fun _ _ _ _ _ z => z
end K44
open PySem PySem.W PyProof.Rows
set_option maxRecDepth 100000 in
set_option maxHeartbeats 0 in
theorem PySem.Challenge.cw_roomlooks_k44_fractions_holds : PySem.Challenge.rw_roomlooks_k44_fractions.Holds := by
  w_on; o_law; k_head; (case hw => w_witness2)
  k_fill
  refine K44.walk (l := PySem.Challenge.rw_roomlooks_k44_fractions) rfl rfl (fun w h Y => PySem.W.kIn_of Y) ?F
  case F =>
    intro w mg fa h KX G hmg
    refine' K44.all_mk KX G hmg ?aN ?aR ?aF ?xL ?sa ?eC ?tC ?kC ?ga ?gg ?hC ?cC ?sp ?ti ?mo ?nw ?iC ?tI ?l1 ?c1 ?k1 ?eR ?hR ?tR ?sR ?nF ?hF ?tF ?sF ?zg ?z_isinstance ?z_int ?z_bool ?z_tuple ?z_len ?z_abs ?z_range ?z_max ?z_min ?z_all ?aL ?lL ?cL ?kL ?d0 ?d1 ?d2 ?d3 ?d4 ?d5 ?d6 ?d7 ?d8 ?d9 ?d10 ?d11 ?d12 ?d13 ?d14 ?d15 ?d16 ?d17 ?d18 ?d19
    case aN => k_is
    case aR => k_is
    case aF => k_is
    case xL => k_is
    case sa => k_is
    case eC => k_is
    case tC => k_is
    case kC => k_is
    case ga => k_is
    case gg => k_is
    case hC => k_is
    case cC => k_is
    case sp => k_is
    case ti => k_is
    case mo => k_is
    case nw => k_is
    case iC => k_is
    case tI => k_is
    case l1 => k_is
    case c1 => k_is
    case k1 => k_is
    case eR => k_is
    case hR => k_is
    case tR => k_is
    case sR => k_is
    case nF => first | rfl | decide | k_is
    case hF => k_is
    case tF => k_is
    case sF => k_is
    case zg => k_is
    case z_isinstance => k_is
    case z_int => k_is
    case z_bool => k_is
    case z_tuple => k_is
    case z_len => k_is
    case z_abs => k_is
    case z_range => k_is
    case z_max => k_is
    case z_min => k_is
    case z_all => k_is
    case aL => k_is
    case lL => k_is
    case cL => k_is
    case kL => k_is
    case d0 => (refine' K44.df_mk KX G ?a ?l ?c ?k; (case a => k_is); (case l => k_is); (case c => k_is); (case k => k_is))
    case d1 => (refine' K44.df_mk KX G ?a ?l ?c ?k; (case a => k_is); (case l => k_is); (case c => k_is); (case k => k_is))
    case d2 => (refine' K44.df_mk KX G ?a ?l ?c ?k; (case a => k_is); (case l => k_is); (case c => k_is); (case k => k_is))
    case d3 => (refine' K44.df_mk KX G ?a ?l ?c ?k; (case a => k_is); (case l => k_is); (case c => k_is); (case k => k_is))
    case d4 => (refine' K44.df_mk KX G ?a ?l ?c ?k; (case a => k_is); (case l => k_is); (case c => k_is); (case k => k_is))
    case d5 => (refine' K44.df_mk KX G ?a ?l ?c ?k; (case a => k_is); (case l => k_is); (case c => k_is); (case k => k_is))
    case d6 => (refine' K44.df_mk KX G ?a ?l ?c ?k; (case a => k_is); (case l => k_is); (case c => k_is); (case k => k_is))
    case d7 => (refine' K44.df_mk KX G ?a ?l ?c ?k; (case a => k_is); (case l => k_is); (case c => k_is); (case k => k_is))
    case d8 => (refine' K44.df_mk KX G ?a ?l ?c ?k; (case a => k_is); (case l => k_is); (case c => k_is); (case k => k_is))
    case d9 => (refine' K44.df_mk KX G ?a ?l ?c ?k; (case a => k_is); (case l => k_is); (case c => k_is); (case k => k_is))
    case d10 => (refine' K44.df_mk KX G ?a ?l ?c ?k; (case a => k_is); (case l => k_is); (case c => k_is); (case k => k_is))
    case d11 => (refine' K44.df_mk KX G ?a ?l ?c ?k; (case a => k_is); (case l => k_is); (case c => k_is); (case k => k_is))
    case d12 => (refine' K44.df_mk KX G ?a ?l ?c ?k; (case a => k_is); (case l => k_is); (case c => k_is); (case k => k_is))
    case d13 => (refine' K44.df_mk KX G ?a ?l ?c ?k; (case a => k_is); (case l => k_is); (case c => k_is); (case k => k_is))
    case d14 => (refine' K44.df_mk KX G ?a ?l ?c ?k; (case a => k_is); (case l => k_is); (case c => k_is); (case k => k_is))
    case d15 => (refine' K44.df_mk KX G ?a ?l ?c ?k; (case a => k_is); (case l => k_is); (case c => k_is); (case k => k_is))
    case d16 => (refine' K44.df_mk KX G ?a ?l ?c ?k; (case a => k_is); (case l => k_is); (case c => k_is); (case k => k_is))
    case d17 => (refine' K44.df_mk KX G ?a ?l ?c ?k; (case a => k_is); (case l => k_is); (case c => k_is); (case k => k_is))
    case d18 => (refine' K44.df_mk KX G ?a ?l ?c ?k; (case a => k_is); (case l => k_is); (case c => k_is); (case k => k_is))
    case d19 => (refine' K44.df_mk KX G ?a ?l ?c ?k; (case a => k_is); (case l => k_is); (case c => k_is); (case k => k_is))

