import PyProof.Rows.All
import Wide.All
import OpenK.AllK
import Wide.FinOn
import HandS.ForMost
import HandS.ForExc
import HandS.ExcInit
import HandS.ExcField
import HandS.ExcIs
import HandS.IsInst
import HandS.Style
import HandS.Wide
import HandS.Gcd
import KE.GoesEnum
import HandS.TupAny
import HandS.Walk
import HandS.Iter
import HandS.Codes
import HandS.More
import HandS.Text
import HandS.Sort
import PySem.Challenge.RW_roomlooks_k03_whole_texts_there_and_back
set_option Elab.async false
set_option linter.all false
set_option maxRecDepth 100000
set_option maxHeartbeats 2000000
/-! RKit: what several laws share. -/
namespace RK
open PySem PySem.Spec PyProof.Rows L2
/-! ### division of great ints by any divisor -/
def DivAny (_ j : Int) : Prop := j ≠ 0 ∧ j.natAbs.log2 < 9000
section
variable {X : Cx}
theorem op_fdivA : OpR X (binaryOp .FloorDiv) (rI DivAny fun i j => .int (Int.fdiv i j)) :=
  opI fun _ _ _ _ _ _ _ hc q => floordiv_int hc.1 q (.inl (PyProof.noPylong_of_log2 hc.2))
end
theorem divAny {i j : Int} {b : Nat} (h : j ≠ 0) (hb : j.natAbs < 2 ^ b) (h0 : 0 < b) (h9 : b ≤ 9000) : DivAny i j :=
  ⟨h, Nat.lt_of_lt_of_le (PySem.Flt.log2_lt_of h0 hb) h9⟩
/-! ### calls by keywords alone; the same where what is raised is wished for at the slots -/
section
variable {X : Cx} {CXt : CXT} {k : Nat} {f : Addr} {fd : FuncData} {ps ks : List Str} {sp : Sp} {x : Str} {p pos : Pos} {kws : List Keyword} {tk : TA}
  {g : List Value → List Value → List Value} {gV : List V → List V → List V}
theorem pe_kw0 {E : XK} (F : FnOk X.prog X.w X.K X.mg X.base CXt k f fd ps sp) (hr : Room k X.A) (hg : Gl X x) (hm : X.mg x = some (.ref f))
    (hk : PySem.W.keepIn X.K (.ref f) = true) (hb : KBinds X.K fd ps ks g gV) (hx : Passes CXt X E) (hkw : PK X kws tk)
    (hall : (backToKw pos (keywordEach kws X.env)).all (·.1.isSome) = true := by rfl)
    (hks : (backToKw pos (keywordEach kws X.env)).filterMap (·.1) = ks := by rfl)
    (hdb : (x == ("__debug__" : Str)) = false := by decide)
    (hpl : ((backTo pos (starEach [] X.env)).any (·.1) || (backToKw pos (keywordEach kws X.env)).any (·.1.isNone)) = false := by rfl) :
    PE X (.Call (.Name x p) [] kws pos) (tCallK sp gV E tNil tk) := ⟨fun pins s σ H Q I h => by
  refine wpAny_Call_Name_kw (ld_glob I hg hm ?_ hdb)
  refine PySem.W.callWith_KW0 (h₀ := X.base) I.ok.mod.kin hk hall ?_ hpl
  refine thn (hkw.run pos pins s σ H _ I h) fun ws s2 ⟨zs, H2, I2, rz, q2⟩ => ⟨I2.kIn, ?_⟩
  rw [hks]
  exact run_fnk F hr hb hx I2 .nil rz q2⟩
def tCallKS (sp : Sp) (gV : List V → List V → List V) (E : L2.St → XK) (t tk : TA) : TE := fun σ H Q => t σ H fun vs H1 => tk σ H1 fun zs H2 => sp (gV vs zs) H2 Q (E σ)
theorem run_kwS {E : L2.St → XK} {pins : List (Addr × Obj)} {σ : L2.St} {H : Hp} {s : Shared} {Q : VK} {us ws : List Value} {vs zs : List V}
    (F : FnOk X.prog X.w X.K X.mg X.base CXt k f fd ps sp) (hr : Room k X.A) (hb : KBinds X.K fd ps ks g gV) (hx : PassesAt CXt X σ (E σ))
    (I : Inv X pins σ H s) (r : Vals vs us) (rz : Vals zs ws) (h : sp (gV vs zs) H Q (E σ)) : wpAny (model X.prog X.w) X.A (call (.ref f) us (ks.zip ws)) (EP X pins σ Q) X.xe s := by
  have r2 := hb.rel r rz
  have hl : (g us ws).length = ps.length := r2.length.symm.trans (F.len _ _ _ _ h)
  have b := hb.to s us ws I.kIn hl
  refine wpAny_call (codeAny_mono (F.run X.A X.stack s H ⟨us, ks.zip ws⟩ (g us ws) (gV vs zs) Q (E σ) hr I.env0 b r2 h) ?_)
  intro r s' hq
  match r, hq with
  | .error e, hq => exact hx pins H s e s' I hq
  | .ok (.ret u), hq => exact I.after hq
theorem pe_kw0S {E : L2.St → XK} (F : FnOk X.prog X.w X.K X.mg X.base CXt k f fd ps sp) (hr : Room k X.A) (hg : Gl X x) (hm : X.mg x = some (.ref f))
    (hk : PySem.W.keepIn X.K (.ref f) = true) (hb : KBinds X.K fd ps ks g gV) (hx : ∀ σ, PassesAt CXt X σ (E σ)) (hkw : PK X kws tk)
    (hall : (backToKw pos (keywordEach kws X.env)).all (·.1.isSome) = true := by rfl)
    (hks : (backToKw pos (keywordEach kws X.env)).filterMap (·.1) = ks := by rfl)
    (hdb : (x == ("__debug__" : Str)) = false := by decide)
    (hpl : ((backTo pos (starEach [] X.env)).any (·.1) || (backToKw pos (keywordEach kws X.env)).any (·.1.isNone)) = false := by rfl) :
    PE X (.Call (.Name x p) [] kws pos) (tCallKS sp gV E tNil tk) := ⟨fun pins s σ H Q I h => by
  refine wpAny_Call_Name_kw (ld_glob I hg hm ?_ hdb)
  refine PySem.W.callWith_KW0 (h₀ := X.base) I.ok.mod.kin hk hall ?_ hpl
  refine thn (hkw.run pos pins s σ H _ I h) fun ws s2 ⟨zs, H2, I2, rz, q2⟩ => ⟨I2.kIn, ?_⟩
  rw [hks]
  exact run_kwS F hr hb (hx σ) I2 .nil rz q2⟩
end
/-! ### own errors of one field -/
/-- what is known of the class at C of errors with the one field f, whose __init__ stands at fI -/
structure ErrC (K : PySem.W.Frag) (mg : Str → Option Value) (x f : Str) (C fI : Addr) : Prop where
  gC : mg x = some (.ref C)
  oex : OexC K C
  xf : XfC K C
  exc : ExcC K C
  no : PySem.W.findIn K (.ref C) f = some none
  ini : PySem.W.findIn K (.ref C) "__init__" = some (some (.ref fI))
  tyI : PySem.W.typeIn K (.ref fI) = some (.type "function")
/-- __init__'s promise -/
def spIni (K : PySem.W.Frag) (f : Str) : Sp := fun vs H Q _ => ∃ (a C : Addr) (w : V), vs = [.ref a, w] ∧ OexC K C ∧ PySem.W.findIn K (.ref C) f = some none ∧ H a = some (exo a C none) ∧
  ∀ dx, H dx = none → dx ≠ a → Q .non (upd (upd H dx (exd dx [(f, w)])) a (exo a C (some dx)))
theorem upd_back {H : Hp} {a d : Addr} {o u w z : HO} (ha : H a = none) (hd : d ≠ a) : upd (del (upd (upd (upd H a o) d u) a w) a) d z = upd H d z := by
  funext b
  by_cases e : b = d
  · rw [e, upd_same, upd_same]
  · rw [upd_ne e, upd_ne e]
    by_cases e2 : b = a
    · rw [e2, del_same, ha]
    · rw [del_ne e2, upd_ne e2, upd_ne e, upd_ne e2]
/-- raise X(e): what stands behind e's reading, from what the error's new dict d leaves -/
theorem raise1 {K : PySem.W.Frag} {f : Str} {C : Addr} {H : Hp} {v : V} {Wd : XK} (T : OexC K C) (no : PySem.W.findIn K (.ref C) f = some none)
    (h : ∀ d, H d = none → Wd (.ref C) (some d) (upd H d (.xd [(f, v)]))) :
    ([v] : List V).length ≤ 1000 ∧ ∀ a, H a = none → spIni K f (.ref a :: ([v] ++ [])) (upd H a (exo a C none))
      (fun u H2 => u = .non ∧ ∃ (d : Addr) (fs : List (Str × V)), H2 a = some (exo a C (some d)) ∧ H2 d = some (exd d fs) ∧ H d = none ∧ Wd (.ref C) (some d) (upd (del H2 a) d (.xd fs))) (fun _ _ _ => False) := by
  refine ⟨by show 1 ≤ 1000; decide, fun a ha => ⟨a, C, v, rfl, T, no, upd_same, fun dx hdx hne => ⟨rfl, dx, [(f, v)], upd_same, ?_, ?_, ?_⟩⟩⟩
  · rw [upd_ne hne, upd_same]
  · rw [upd_ne hne] at hdx
    exact hdx
  · rw [upd_ne hne] at hdx
    rw [upd_back ha hne]
    exact h dx hdx
section
variable {X : Cx} {CXt : CXT} {C fI : Addr} {fd : FuncData} {f x : Str} {p pos pos' : Pos} {k : Nat} {e : Expr} {te : TE} {W : WX}
theorem ps_raise1 (T : ErrC X.K X.mg x f C fI) (F1 : FnOk X.prog X.w X.K X.mg X.base CXt k fI fd ["self", f] (spIni X.K f)) (hr : Room (k + 1) X.A)
    (hb : L2.Binds X.K fd ["self", f] []) (hx : Passes CXt X (fun _ _ _ => False)) (hc : X.calm = true) (tk : Takes X W) (he : PE X e te) (hg : Gl X x := by rfl)
    (hdb : (x == ("__debug__" : Str)) = false := by decide)
    (hst : starEach [e] X.env = (false, eval e X.env) :: starEach [] X.env := by rfl) (hpl : (backTo pos (starEach [] X.env)).any (·.1) = false := by rfl) :
    PS X (.Raise (some (.Call (.Name x p) [e] [] pos)) none pos') (fun _ σ H => tMkO C (spIni X.K f) [] (tCons te tNil) σ H fun cls d H' => W cls d σ H') :=
  ps_raise (pos := pos') hc tk (pmk_oex (p := p) T.oex T.ini T.tyI F1 hr hb .nil hx hg T.gC (pa_cons he (pa_nil) (hs := hst)) hdb hst hpl)
end
/-! ### isinstance of a caught error that has its own dict -/
section
open PySem.W PySem.Calls
variable {prog : Program} {w : World} {A : Around} {E : Value → Shared → Prop} {s : Shared} {K : Frag} {x D : Addr} {ox : Obj} {od : Option Obj}
theorem find_data {C : Addr} {nm : Str} {at_ gt : Value} (hc : (clsIn K C).isSome = true) (ha : findIn K (.ref C) nm = some (some at_)) (hg : specialIn K at_ "__get__" = some (some gt))
    (ht : takesIn K at_ = some true) : findObj K C od nm = some (.bind gt at_) := by
  obtain ⟨cd, e⟩ := Option.isSome_iff_exists.mp hc; unfold findObj; rw [e, Option.bind_some, ha]
  simp only [Option.bind_some, hg, ht]
/-- err.__class__, err an error of the own class at D with its dict -/
theorem cls_of_err {Q : Option Value → Shared → Prop} (T : ExcC K D) (X : K.In s.heap) (I : InstAt s.heap x ox D od) (h : Q (some (.ref D)) { s with toks := s.toks + 1 }) :
    wpAny (model prog w) A (getAttr? (.ref x) "__class__") Q E s := by
  have ic : (clsIn K D).isSome = true := by obtain ⟨cd, hc, _⟩ := any_some T.hd; rw [hc]; rfl
  have hf : findObj K D od "__class__" = some (.bind (.builtin "getset_descriptor.__get__") (.builtin "object.__class__")) := find_data ic T.ha T.hn T.ht
  obtain ⟨hp, g, dr, t, os⟩ := s
  have l0 := I.type (M := model prog w); have l1 := looks_findIn (M := model prog w) X T.hg; have l2 := looks_findIn (M := model prog w) X T.hk
  have l3 := looks_find (M := model prog w) X I hf
  have sb : Looks (model prog w) hp (isInstance (.ref x) (.type "BaseException")) true := l0.andThen (looks_subIn X T.hs)
  have n0 : (false && onTheHeap (Value.builtin "BaseException.__getattribute__")) = false := rfl
  have n1 : (onTheHeap (Value.ref D) && Value.builtin "BaseException.__getattribute__" == Value.builtin "object.__getattribute__") = false := by
    have n2 : (Value.builtin "BaseException.__getattribute__" == Value.builtin "object.__getattribute__") = false := by decide +kernel
    rw [n2, Bool.and_false]
  unfold getAttr? getAttrBy? getAttrBy; refine wpAny_bind (wpAny_mkText ?_)
  refine wpAny_bind (wpAny_attempt (wpAny_holding (wpAny_bind (l0.at (wpAny_bind (l1.at ?_))))))
  change wpAny _ _ (if (onTheHeap (Value.ref D) && Value.builtin "BaseException.__getattribute__" == Value.builtin "object.__getattribute__") = true then _ else _) _ _ _
  rw [n1, if_neg Bool.false_ne_true]; unfold getAttrByItsOwn hookBefore; refine wpAny_bind ?_
  rw [if_pos (show onTheHeap (Value.ref D) = true from rfl)]; refine l2.at (wpAny_bind (wpAny_attempt (wpAny_holding ?_)))
  unfold callGetattribute; rw [n0, if_neg Bool.false_ne_true]; unfold boundAndCalled
  rw [PySem.F.excAttr_ValueError.ga.bind (.ref x)]; refine wpAny_bind (wpAny_pure ?_)
  change wpAny _ _ (call (.builtin "BaseException.__getattribute__") [.ref x, .str "__class__" t]) _ _ _
  refine wpAny_call (codeAny_call_builtin PySem.F.excAttr_ValueError.ga.plain PySem.F.entry_bexc_ga
    (@check_slot (model prog w) _ _ ⟨hp, g, dr, t + 1, os⟩ "BaseException.__getattribute__" "BaseException" "__getattribute__" (.ref x) [.str "__class__" t] [] _
      (by decide +kernel) (by decide +kernel) sb (PySem.F.args_bexc_ga (.ref x) (.str "__class__" t)) ?_))
  unfold Builtin.«object.__getattribute__»
  refine wpAny_bind (wpAny_of_eq (a := ((Value.ref x : Value), [Value.str "__class__" t])) (by first | rfl | (simp only [slotArgs]; rfl)) (wpAny_bind (wpAny_pure (wpAny_bind (l0.at (wpAny_bind (l3.at ?_)))))))
  change wpAny _ _ (holding [Value.builtin "object.__class__"] (call (.builtin "getset_descriptor.__get__") [.builtin "object.__class__", .ref x, .ref D]) >>= ret) _ _ _
  refine wpAny_bind (wpAny_holding (wpAny_call (class_get (s := ⟨hp, g, dr, t + 1, os⟩) (ox := ox) (od := od) X I T.hm (wpAny_pure ?_))))
  change wpAny _ _ (handedOut (.ref D)) _ _ _
  rw [handedOut_of (v := .ref D) rfl]
  first | exact wpAny_pure (wpAny_pure h) | exact wpAny_pure h | exact wpAny_pure (wpAny_bind (wpAny_pure (wpAny_pure h)))
theorem kit_err (T : ExcC K D) : KitX K (.ref x) (.ref D) (fun h => InstAt h x ox D od) where
  ty := fun _ _ _ I => I.type
  it := fun _ _ X _ => by
    obtain ⟨cd, hc, _⟩ := any_some T.hd
    unfold clsIn at hc; split at hc
    · rename_i c' d' cd' sl' ho
      intro A' Q' E' s' kk q; unfold isType loadHead; exact wpAny_bind (wpAny_loadPart (kk _ _ (X _ _ ho)) (wpAny_pure q))
    · cases hc
  ne := fun h tp dd its n sl X htp => by
    obtain ⟨cd, hc, _⟩ := any_some T.hd
    cases q : (Value.ref D == Value.ref tp) with
    | false => rfl
    | true =>
      cases (Value.ref.inj (beq_iff_eq.mp q) : D = tp)
      unfold clsIn at hc; split at hc
      · rename_i c' d' cd' sl' ho
        cases (X _ _ ho).symm.trans htp
      · cases hc
  ca := fun X I kk => cls_of_err T X I kk
end
/-- isinstance(e, c), e the error that the suite holds (its class cls, its own dict d) -/
def rIsErr (K : PySem.W.Frag) (D a : Addr) (cls : Value) (d : Option Addr) : List V → Hp → VK → Prop := fun xs H Q => ∃ (c : V) (cv : Value) (b : Bool) (dd : Addr) (fs : List (Str × V)),
  xs = [.ref a, c] ∧ cls = .ref D ∧ d = some dd ∧ ClsV c cv ∧ H dd = some (.xd fs) ∧ PySem.W.kitOne K (.ref D) cv = some b ∧ Q (.bl b) H
theorem call_isErr {X : Cx} {a D : Addr} {cls : Value} {d : Option Addr} {oe : Obj} {pn : List (Addr × Obj)} (C : ExcC X.K D) (hz : Zc cls d oe) (hf : ∃ vs, oe.data = .fields vs) :
    CallR (X.suite a ((a, oe) :: pn)) (.builtin "isinstance") (rIsErr X.K D a cls d) := by
  intro pins s σ H xs us Q I r h
  obtain ⟨c, cv, b, dd, fs, rfl, ec, ed, hcv, hx, e, q⟩ := h
  subst ec ed
  obtain ⟨u1, u2, rfl, r1, r2⟩ := vals2 r
  cases (show u1 = Value.ref a from r1)
  have e2 := hcv.eq r2
  subst e2
  obtain ⟨hget, _⟩ := I.pin (a, oe) (List.mem_append.mpr (.inl List.mem_cons_self))
  obtain ⟨vs, hv⟩ := hf
  obtain ⟨mA, hns, hr⟩ := (show ObjOk X.prog X.w H s.heap dd (.xd fs) from I.hok dd _ hx)
  obtain ⟨od, ho, _⟩ := lookIn_ns hns
  have J : PySem.W.InstAt s.heap a oe D (some od) := ⟨hget, hz.1, by unfold PySem.W.notCls; rw [hv] <;> rfl, by rw [hz.2]; exact ho⟩
  exact PySem.W.kia_one (kit_err C) I.kIn J e (fun z => nomatch z) fun tk => ⟨.bl b, H, I.kept (t' := tk) fun _ _ z => z, rfl, q⟩
/-! ### heaps -/
/-- all that was tracked is as it was, but at p -/
def Kp (p : Addr) (H H' : Hp) : Prop := ∀ b o, H b = some o → b ≠ p → H' b = some o
theorem Kp.refl (p : Addr) (H : Hp) : Kp p H H := fun _ _ h _ => h
theorem Kp.trans {p : Addr} {H H1 H2 : Hp} (a : Kp p H H1) (b : Kp p H1 H2) : Kp p H H2 := fun c o h n => b c o (a c o h n) n
theorem Kp.of {p : Addr} {H H1 : Hp} (a : Same H H1) : Kp p H H1 := fun c o h _ => a c o h
theorem Kp.seqL {K : PySem.W.Frag} {p a : Addr} {H H' : Hp} {xs : List V} (e : Kp p H H') (h : SqL K H a xs) (n : a ≠ p) : SqL K H' a xs := by
  rcases h with (h | ⟨o, h⟩) | h
  · exact .inl (.inl (e _ _ h n))
  · exact .inl (.inr ⟨o, e _ _ h n⟩)
  · exact .inr h
theorem Same.upd {H : Hp} {p : Addr} {o : HO} (h : H p = none) : Same H (L2.upd H p o) := fun b u e => by
  rw [upd_ne (ne_of_none e h)]
  exact e
theorem Same.updAt {H H1 : Hp} {p : Addr} {o : HO} (s : Same H H1) (h : H p = none) : Same H (L2.upd H1 p o) := fun b u e => by
  rw [upd_ne (ne_of_none e h)]
  exact s b u e
end RK
namespace RK
open PySem PySem.Spec PyProof.Rows L2
/-- what is known of a value's kind stays known -/
theorem TyX.mono {K : PySem.W.Frag} {H H' : Hp} (S : Same H H') {v : V} {t : Value} (h : TyX K H v t) : TyX K H' v t := by
  cases h with
  | base b =>
    refine .base ?_
    cases b with
    | non => exact .non
    | bl x => exact .bl x
    | int i => exact .int i
    | str x => exact .str x
    | flt x => exact .flt x
    | lst e => exact .lst (S _ _ e)
    | frz e => exact .frz (S _ _ e)
    | tup e => exact .tup (S _ _ e)
    | dK e => exact .dK (S _ _ e)
    | dT e => exact .dT (S _ _ e)
    | ins e cl ha hn ht hm => exact .ins (S _ _ e) cl ha hn ht hm
  | byt b => exact .byt b
  | set e => exact .set (S _ _ e)
  | kList e c => exact .kList e c
  | kTuple e c => exact .kTuple e c
  | kDict e c => exact .kDict e c
  | fTuple e => exact .fTuple (S _ _ e)
  | fDict e => exact .fDict (S _ _ e)
end RK
/-! ### a def that is called, in one piece: where it stands, its promise, how its arguments bind -/
namespace RK
open PySem PySem.Spec PyProof.Rows L2
structure Cl (P : Program) (w : World) (K : PySem.W.Frag) (mg : Str → Option Value) (base : Heap) (CXt : CXT) (k : Nat) (x : Str) (ps : List Str) (sp : Sp) : Prop where
  ex : ∃ (f : Addr) (fd : FuncData), FnOk P w K mg base CXt k f fd ps sp ∧ mg x = some (.ref f) ∧ PySem.W.keepIn K (.ref f) = true ∧ L2.Binds K fd ps []
/-- the same, called by keywords ks alone -/
structure Ck (P : Program) (w : World) (K : PySem.W.Frag) (mg : Str → Option Value) (base : Heap) (CXt : CXT) (k : Nat) (x : Str) (ps ks : List Str) (gV : List V → List V → List V) (sp : Sp) : Prop where
  ex : ∃ (f : Addr) (fd : FuncData) (g : List Value → List Value → List Value), FnOk P w K mg base CXt k f fd ps sp ∧ mg x = some (.ref f) ∧ PySem.W.keepIn K (.ref f) = true ∧ KBinds K fd ps ks g gV
section
variable {X : Cx} {CXt : CXT} {j k : Nat} {ps ks : List Str} {sp : Sp} {x : Str} {p pos : Pos} {e : Expr} {es : List Expr} {t tk : TA} {kws : List Keyword} {gV : List V → List V → List V}
theorem pe_f {E : XK} (c : Cl X.prog X.w X.K X.mg X.base CXt k x ps sp) (hr : Room j X.A) (hk : k ≤ j) (hx : Passes CXt X E) (ha : PA X (e :: es) t) (hg : Gl X x := by rfl)
    (hdb : (x == ("__debug__" : Str)) = false := by decide) (he : starEach (e :: es) X.env = (false, eval e X.env) :: starEach es X.env := by rfl) (hpl : (backTo pos (starEach es X.env)).any (·.1) = false := by rfl) :
    PE X (.Call (.Name x p) (e :: es) [] pos) (tCall sp [] E t) := by
  obtain ⟨f, fd, F, hm, kp, b⟩ := c.ex
  exact pe_call F (hr.mono hk) hg hm kp b .nil hx ha hdb he hpl
theorem pe_fS {E : L2.St → XK} (c : Cl X.prog X.w X.K X.mg X.base CXt k x ps sp) (hr : Room j X.A) (hk : k ≤ j) (hx : ∀ σ, PassesAt CXt X σ (E σ)) (ha : PA X (e :: es) t) (hg : Gl X x := by rfl)
    (hdb : (x == ("__debug__" : Str)) = false := by decide) (he : starEach (e :: es) X.env = (false, eval e X.env) :: starEach es X.env := by rfl) (hpl : (backTo pos (starEach es X.env)).any (·.1) = false := by rfl) :
    PE X (.Call (.Name x p) (e :: es) [] pos) (tCallS sp E t) := by
  obtain ⟨f, fd, F, hm, kp, b⟩ := c.ex
  exact pe_callS F (hr.mono hk) hg hm kp b hx ha hdb he hpl
theorem pe_k {E : XK} (c : Ck X.prog X.w X.K X.mg X.base CXt k x ps ks gV sp) (hr : Room j X.A) (hk : k ≤ j) (hx : Passes CXt X E) (hkw : PK X kws tk) (hg : Gl X x := by rfl)
    (hall : (backToKw pos (keywordEach kws X.env)).all (·.1.isSome) = true := by rfl)
    (hks : (backToKw pos (keywordEach kws X.env)).filterMap (·.1) = ks := by rfl)
    (hdb : (x == ("__debug__" : Str)) = false := by decide)
    (hpl : ((backTo pos (starEach [] X.env)).any (·.1) || (backToKw pos (keywordEach kws X.env)).any (·.1.isNone)) = false := by rfl) :
    PE X (.Call (.Name x p) [] kws pos) (tCallK sp gV E tNil tk) := by
  obtain ⟨f, fd, g, F, hm, kp, b⟩ := c.ex
  exact pe_kw0 F (hr.mono hk) hg hm kp b hx hkw hall hks hdb hpl
theorem pe_kS {E : L2.St → XK} (c : Ck X.prog X.w X.K X.mg X.base CXt k x ps ks gV sp) (hr : Room j X.A) (hk : k ≤ j) (hx : ∀ σ, PassesAt CXt X σ (E σ)) (hkw : PK X kws tk) (hg : Gl X x := by rfl)
    (hall : (backToKw pos (keywordEach kws X.env)).all (·.1.isSome) = true := by rfl)
    (hks : (backToKw pos (keywordEach kws X.env)).filterMap (·.1) = ks := by rfl)
    (hdb : (x == ("__debug__" : Str)) = false := by decide)
    (hpl : ((backTo pos (starEach [] X.env)).any (·.1) || (backToKw pos (keywordEach kws X.env)).any (·.1.isNone)) = false := by rfl) :
    PE X (.Call (.Name x p) [] kws pos) (tCallKS sp gV E tNil tk) := by
  obtain ⟨f, fd, g, F, hm, kp, b⟩ := c.ex
  exact pe_kw0S F (hr.mono hk) hg hm kp b hx hkw hall hks hdb hpl
end
/-- keywords in the parameters' own order, nothing else -/
def kwId {α : Type} : List α → List α → List α
  | [], ws => ws
  | _ :: _, _ => []
/-- two keywords, the second parameter's first -/
def kwSw {α : Type} : List α → List α → List α
  | [], [y, x] => [x, y]
  | _, _ => []
theorem kwId_rel {vs : List V} {us : List Value} {zs : List V} {ws : List Value} (r : Vals vs us) (rz : Vals zs ws) : Vals (kwId vs zs) (kwId us ws) := by
  cases r with
  | nil => exact rz
  | cons _ _ => exact .nil
theorem kwSw_rel {vs : List V} {us : List Value} {zs : List V} {ws : List Value} (r : Vals vs us) (rz : Vals zs ws) : Vals (kwSw vs zs) (kwSw us ws) := by
  cases r with
  | cons _ _ => exact .nil
  | nil =>
    cases rz with
    | nil => exact .nil
    | cons a rz =>
      cases rz with
      | nil => exact .nil
      | cons b rz =>
        cases rz with
        | nil => exact .cons b (.cons a .nil)
        | cons _ _ => exact .nil
theorem fun_kb {K : PySem.W.Frag} {x qual : Str} {st : Stmt} {f : Addr} {fd : FuncData} {ps ks : List Str} {g : List Value → List Value → List Value} {gV : List V → List V → List V} (F : Fun K x qual st f fd)
    (rel : ∀ {vs : List V} {us : List Value} {zs : List V} {ws : List Value}, Vals vs us → Vals zs ws → Vals (gV vs zs) (g us ws))
    (h : ∀ (kV doc pm : Value) (an : Option Addr) (cdv ct : Value) (us ws : List Value), (g us ws).length = ps.length →
      bindArgs (PySem.W.fnOf x qual (defArgs st) (defBody st) (defScope st) .none kV doc pm an cdv ct) ⟨us, ks.zip ws⟩ = pure (ps.zip (g us ws))) : KBinds K fd ps ks g gV := by
  obtain ⟨oc, od, kV, doc, pm, an, cdv, ct, osl, rfl, lk, hcd⟩ := F.ex
  exact ⟨fun s us ws _ hl => .of_eq (h kV doc pm an cdv ct us ws hl), rel⟩
theorem Cl.of {P : Program} {w : World} {K : PySem.W.Frag} {mg : Str → Option Value} {base : Heap} {CXt : CXT} {k : Nat} {x : Str} {ps : List Str} {sp : Sp} {f : Addr} {fd : FuncData} {qual : Str} {st : Stmt}
    (F : Fun K x qual st f fd) (hm : mg x = some (.ref f)) (G : FnOk P w K mg base CXt k f fd ps sp) (b : L2.Binds K fd ps []) : Cl P w K mg base CXt k x ps sp := ⟨f, fd, G, hm, F.kp, b⟩
theorem Ck.of {P : Program} {w : World} {K : PySem.W.Frag} {mg : Str → Option Value} {base : Heap} {CXt : CXT} {k : Nat} {x : Str} {ps ks : List Str} {gV : List V → List V → List V} {sp : Sp} {f : Addr} {fd : FuncData} {qual : Str} {st : Stmt} {g : List Value → List Value → List Value}
    (F : Fun K x qual st f fd) (hm : mg x = some (.ref f)) (G : FnOk P w K mg base CXt k f fd ps sp) (b : KBinds K fd ps ks g gV) : Ck P w K mg base CXt k x ps ks gV sp := ⟨f, fd, g, G, hm, F.kp, b⟩
end RK
/-! ### what is sure of an expression, a test, from a heap on: it only adds objects -/
namespace RK
open PySem PySem.Spec PyProof.Rows L2
/-- te gives from H on some v with R v, and what was tracked stays -/
def Go (σ : L2.St) (H : Hp) (te : TE) (R : V → Hp → Prop) : Prop := ∀ H1, L2.Same H H1 → ∀ Q : VK, (∀ v H2, L2.Same H1 H2 → R v H2 → Q v H2) → te σ H1 Q
/-- a test's answer is b -/
def GoT (σ : L2.St) (H : Hp) (t : TT) (b : Bool) : Prop := ∀ H1, L2.Same H H1 → ∀ Q : Bool → Hp → Prop, (∀ H2, L2.Same H1 H2 → Q b H2) → t σ H1 Q
def IsB (b : Bool) : V → Hp → Prop := fun v _ => v = .bl b
def IsZ (z : Int) : V → Hp → Prop := fun v _ => v = .int z
section
variable {σ : L2.St} {H H' : Hp} {te ta tb : TE} {t u : TT} {b c : Bool} {i : Nat} {v : V} {R : V → Hp → Prop} {x y z : Int}
theorem Go.mono (a : Go σ H te R) (S : L2.Same H H') : Go σ H' te R := fun H1 S1 => a H1 (S.trans S1)
theorem Go.imp {R' : V → Hp → Prop} (a : Go σ H te R) (h : ∀ v H, R v H → R' v H) : Go σ H te R' := fun H1 S Q q => a H1 S Q fun v H2 S2 r => q v H2 S2 (h v H2 r)
theorem GoT.mono (a : GoT σ H t b) (S : L2.Same H H') : GoT σ H' t b := fun H1 S1 => a H1 (S.trans S1)
theorem go_var (hs : σ[i]? = some (some v)) (h : ∀ H1, L2.Same H H1 → R v H1) : Go σ H (tVar i) R := fun H1 S _ q => ⟨v, hs, q v H1 (L2.Same.refl H1) (h H1 S)⟩
theorem go_c (h : ∀ H1, L2.Same H H1 → R v H1) : Go σ H (tC v) R := fun H1 S _ q => q v H1 (L2.Same.refl H1) (h H1 S)
theorem goz_var (hs : σ[i]? = some (some (.int z))) : Go σ H (tVar i) (IsZ z) := go_var hs fun _ _ => rfl
theorem goz_c : Go σ H (tC (.int z)) (IsZ z) := go_c fun _ _ => rfl
theorem gob_c : Go σ H (tC (.bl b)) (IsB b) := go_c fun _ _ => rfl
theorem goz_add (a : Go σ H ta (IsZ x)) (b : Go σ H tb (IsZ y)) : Go σ H (tOp (rI0 fun i j => .int (i + j)) ta tb) (IsZ (x + y)) := fun H1 S Q q =>
  a H1 S _ fun _ H2 S2 e => b H2 (S.trans S2) _ fun _ H3 S3 e2 => ⟨x, y, e, e2, q _ H3 (S2.trans S3) rfl⟩
theorem goz_sub (a : Go σ H ta (IsZ x)) (b : Go σ H tb (IsZ y)) : Go σ H (tOp (rI0 fun i j => .int (i - j)) ta tb) (IsZ (x - y)) := fun H1 S Q q =>
  a H1 S _ fun _ H2 S2 e => b H2 (S.trans S2) _ fun _ H3 S3 e2 => ⟨x, y, e, e2, q _ H3 (S2.trans S3) rfl⟩
theorem goz_mulW (a : Go σ H ta (IsZ x)) (b : Go σ H tb (IsZ y)) (h : CMulW x y) : Go σ H (tOp (rI CMulW fun i j => .int (i * j)) ta tb) (IsZ (x * y)) := fun H1 S Q q =>
  a H1 S _ fun _ H2 S2 e => b H2 (S.trans S2) _ fun _ H3 S3 e2 => ⟨x, y, e, e2, h, q _ H3 (S2.trans S3) rfl⟩
theorem gob_lt (a : Go σ H ta (IsZ x)) (b : Go σ H tb (IsZ y)) : Go σ H (tOp (rI0 fun i j => .bl (decide (i < j))) ta tb) (IsB (decide (x < y))) := fun H1 S Q q =>
  a H1 S _ fun _ H2 S2 e => b H2 (S.trans S2) _ fun _ H3 S3 e2 => ⟨x, y, e, e2, q _ H3 (S2.trans S3) rfl⟩
theorem got_B (a : Go σ H te (IsB b)) : GoT σ H (tB te) b := fun H1 S Q q => a H1 S _ fun v H2 S2 e => ⟨b, e, q H2 S2⟩
theorem got_test (a : Go σ H te (IsB b)) : GoT σ H (tTest te) b := fun H1 S Q q => a H1 S _ fun v H2 S2 e => ⟨b, e, q H2 S2⟩
theorem got_not (a : GoT σ H t b) : GoT σ H (tNot t) (!b) := fun H1 S Q q => a H1 S _ fun H2 S2 => q H2 S2
theorem got_or (a : GoT σ H t b) (h : b = false → GoT σ H u c) : GoT σ H (tOr t u) (b || c) := fun H1 S Q q => a H1 S _ fun H2 S2 => by
  cases b with
  | true => exact iteT (q H2 S2)
  | false => exact iteF (h rfl H2 (S.trans S2) _ fun H3 S3 => q H3 (S2.trans S3))
theorem got_orF (a : GoT σ H t false) (h : GoT σ H u false) : GoT σ H (tOr t u) false := got_or a fun _ => h
theorem got_and (a : GoT σ H t b) (h : b = true → GoT σ H u c) : GoT σ H (tAnd t u) (b && c) := fun H1 S Q q => a H1 S _ fun H2 S2 => by
  cases b with
  | true => exact iteT (h rfl H2 (S.trans S2) _ fun H3 S3 => q H3 (S2.trans S3))
  | false => exact iteF (q H2 S2)
theorem got_notT (a : GoT σ H t true) : GoT σ H (tNot t) false := got_not a
theorem gob_notB (a : Go σ H ta (IsB b)) (c : Bool) : Go σ H (tOp rNotB ta (tC (.bl c))) (IsB (!decide (b = c))) := fun H1 S Q q => a H1 S _ fun v H2 S2 e => ⟨b, c, e, rfl, q _ H2 S2 rfl⟩
theorem gob_neB (a : Go σ H ta (IsB b)) (d : Go σ H tb (IsB c)) : Go σ H (tOp rNe ta tb) (IsB (!decide (V.bl b = V.bl c))) := fun H1 S Q q => a H1 S _ fun v H2 S2 e => d H2 (S.trans S2) _ fun w H3 S3 e2 => by
  cases (show v = .bl b from e)
  cases (show w = .bl c from e2)
  exact ⟨rfl, q _ H3 (S2.trans S3) rfl⟩
theorem gob_neZ (a : Go σ H ta (IsZ x)) (d : Go σ H tb (IsZ y)) : Go σ H (tOp rNe ta tb) (IsB (!decide (x = y))) := fun H1 S Q q => a H1 S _ fun v H2 S2 e => d H2 (S.trans S2) _ fun w H3 S3 e2 => by
  cases (show v = .int x from e)
  cases (show w = .int y from e2)
  refine ⟨rfl, q _ H3 (S2.trans S3) ?_⟩
  show V.bl _ = V.bl _
  rw [dec_int]
  rfl
/-- an if whose test is known -/
theorem if_no {tt uu : TS} {D : Ends} (a : GoT σ H t false) (h : ∀ H2, L2.Same H H2 → uu D σ H2) : tIfS t tt uu D σ H := a H (L2.Same.refl H) _ fun H2 S => iteF (h H2 S)
theorem if_yes {tt uu : TS} {D : Ends} (a : GoT σ H t true) (h : ∀ H2, L2.Same H H2 → tt D σ H2) : tIfS t tt uu D σ H := a H (L2.Same.refl H) _ fun H2 S => iteT (h H2 S)
theorem sif {tt rest : TS} {D : Ends} (a : GoT σ H t false) (h : ∀ H2, L2.Same H H2 → rest D σ H2) : tSeq (tIfS t tt tNext) rest D σ H := a H (L2.Same.refl H) _ fun H2 S => iteF (h H2 S)
theorem sset {rest : TS} {D : Ends} (a : Go σ H te R) (h : ∀ v H2, L2.Same H H2 → R v H2 → rest D (σ.set i (some v)) H2) : tSeq (tAsg te (gName i)) rest D σ H := a H (L2.Same.refl H) _ fun v H2 S r => h v H2 S r
theorem got_andF (a : GoT σ H t b) (h : b = true → GoT σ H u false) : GoT σ H (tAnd t u) false := fun H1 S Q q => a H1 S _ fun H2 S2 => by
  cases b with
  | true => exact iteT (h rfl H2 (S.trans S2) _ fun H3 S3 => q H3 (S2.trans S3))
  | false => exact iteF (q H2 S2)
theorem gob_eq (a : Go σ H te (IsB b)) (h : b = c) : Go σ H te (IsB c) := h ▸ a
theorem got_eq (a : GoT σ H t b) (h : b = c) : GoT σ H t c := h ▸ a
theorem spar {j : Nat} {R' : V → Hp → Prop} {rest : TS} {D : Ends} (a : Go σ H ta R) (b : ∀ v H2, L2.Same H H2 → R v H2 → Go σ H2 tb R')
    (h : ∀ v w H2 H3, L2.Same H H2 → R v H2 → L2.Same H2 H3 → R' w H3 → rest D ((σ.set i (some v)).set j (some w)) H3) : tSeq (tPar i j (tCons ta (tCons tb tNil))) rest D σ H :=
  a H (L2.Same.refl H) _ fun v H2 S2 r => b v H2 S2 r H2 (L2.Same.refl H2) _ fun w H3 S3 r3 => ⟨v, w, rfl, h v w H2 H3 S2 r S3 r3⟩
theorem stup4 {K : PySem.W.Frag} {i1 i2 i3 i4 : Nat} {tc td : TE} {z w : Int} {rest : TS} {D : Ends} (a : Go σ H ta (IsZ x)) (b : Go σ H tb (IsZ y)) (c : Go σ H tc (IsZ z)) (d : Go σ H td (IsZ w))
    (h : ∀ H2, L2.Same H H2 → rest D ((((σ.set i1 (some (.int x))).set i2 (some (.int y))).set i3 (some (.int z))).set i4 (some (.int w))) H2) :
    tSeq (tAsg (tTup (tCons ta (tCons tb (tCons tc (tCons td tNil))))) (gTup K 4 (gCons (gName i1) (gCons (gName i2) (gCons (gName i3) (gCons (gName i4) gNil)))))) rest D σ H :=
  a H (L2.Same.refl H) _ fun v1 H1 S1 e1 => b H1 S1 _ fun v2 H2 S2 e2 => c H2 (S1.trans S2) _ fun v3 H3 S3 e3 => d H3 (S1.trans (S2.trans S3)) _ fun v4 H4 S4 e4 =>
    ⟨(by show 4 ≤ sizeLine; decide), fun p hp => ⟨p, _, rfl, SqT.of upd_same, rfl, v1, _, rfl, v2, _, rfl, v3, _, rfl, v4, _, rfl, rfl, by
      cases (show v1 = .int x from e1)
      cases (show v2 = .int y from e2)
      cases (show v3 = .int z from e3)
      cases (show v4 = .int w from e4)
      exact h _ (S1.trans (S2.trans (S3.trans (S4.trans (RK.Same.upd hp)))))⟩⟩
end
theorem kit_self {K : PySem.W.Frag} {C : Addr} : PySem.W.kitOne K (.ref C) (.ref C) = some true := by
  unfold PySem.W.kitOne
  rw [if_pos (beq_iff_eq.mpr rfl)]
theorem kit_sub {K : PySem.W.Frag} {C S : Addr} {b : Bool} (ne : (Value.ref C == Value.ref S) = false) (hd : PySem.W.hasDictIn K S = true) (ht : PySem.W.typeIn K (.ref S) = some (.type "type"))
    (hs : PySem.W.subIn K (.ref C) (.ref S) = some b) : PySem.W.kitOne K (.ref C) (.ref S) = some b := by
  obtain ⟨cd, hc, _⟩ := PySem.W.any_some hd
  have e2 : ((PySem.W.clsIn K S).isSome && PySem.W.typeIn K (.ref S) == some (.type "type")) = true := by rw [hc, ht] <;> rfl
  unfold PySem.W.kitOne PySem.W.kitCls
  rw [ne, if_neg Bool.false_ne_true]
  dsimp only
  rw [if_pos e2]
  exact hs
end RK


set_option Elab.async false
set_option linter.all false
set_option maxRecDepth 100000
set_option maxHeartbeats 4000000
/-! enumerate over a tuple -/
namespace RK
open PySem PySem.Spec PyProof.Rows L2
section
open Builtin Builtin.ObjectAttr
theorem enum1_meets {v : Value} {o : Obj} {Hq : Heap → Prop} (B : Begins v o Hq) :
    Meets (Builtin.«enumerate.__new__» ⟨[.type "enumerate", v], []⟩) (fun _ R s => Hq s.heap ∧
      R (.ok (.ret (.ref (s.heap.push o).objs.size))) { s with heap := (s.heap.push o).push { cls := .type "enumerate", data := .fields #[.none, .bool false, .ref s.heap.objs.size, rawInt 0, .none, .none] } }) :=
  .of_wp fun prog w A R s hh => by
    obtain ⟨hp, g, d, tk, os⟩ := s; obtain ⟨hB, hR⟩ := hh; have sb := sub_enumerate
    have it1 : ∀ {A' : Around} {E : Value → Shared → Prop} {Q : Value → Shared → Prop}, Q (.ref hp.objs.size) ⟨hp.push o, g, d, tk, os⟩ → wpAny (model prog w) A' (pyIter v) Q E ⟨hp, g, d, tk, os⟩ := by
      intro A' E Q q; exact B.iter prog w _ _ ⟨hp, g, d, tk, os⟩ _ hB q
    wp_walk using it1
    refine wpAny_stack_any fun st => ?_; refine wpAny_pure ?_
    split
    · rename_i c _ _ _ _ _
      by_cases hc : (c == Value.type "enumerate") = true
      · rw [hc]; wp_walk using it1; exact ⟨_, rfl, hR⟩
      · rw [Bool.eq_false_iff.mpr hc]; wp_walk using it1; exact ⟨_, rfl, hR⟩
    · wp_walk using it1; exact ⟨_, rfl, hR⟩
theorem enum1_call {prog : Program} {w : World} {A : Around} {E : Value → Shared → Prop} {s : Shared} {v : Value} {o : Obj} {Hq : Heap → Prop} {Q : Value → Shared → Prop} (B : Begins v o Hq) (h1 : Hq s.heap)
    (h : ∀ h', IsEnum h' (s.heap.objs.size + 1) s.heap.objs.size 0 .none → h'.get? s.heap.objs.size = some o → (∀ b ob, s.heap.get? b = some ob → h'.get? b = some ob) →
      Q (.ref (s.heap.objs.size + 1)) { s with heap := h' }) : wpAny (model prog w) A (call (.type "enumerate") [v]) Q E s := by
  refine callType_new F.called_enumerate (by decide) (F.typeCall_enumerate_1 _) (F.newCall_enumerate_1 _) (fun obj => F.args_object_init_2 obj _) F.entry_enumerate_new (enum1_meets B) ⟨h1, ?_⟩
  have sz : (s.heap.push o).objs.size = s.heap.objs.size + 1 := Heap.size_push ..
  show _ ∧ _; rw [sz]
  have ie : IsEnum ((s.heap.push o).push { cls := .type "enumerate", data := .fields #[.none, .bool false, .ref s.heap.objs.size, rawInt 0, .none, .none] }) (s.heap.objs.size + 1) s.heap.objs.size 0 .none := by
    have q := Heap.get?_push_size (s.heap.push o) (o := { cls := .type "enumerate", data := .fields #[.none, .bool false, .ref s.heap.objs.size, rawInt 0, .none, .none] }) rfl
    rw [sz] at q; exact q
  refine ⟨⟨_, ie, rfl⟩, h _ ie (Heap.get?_push_of_some _ (Heap.get?_push_size _ B.free)) fun b ob x => ?_⟩
  exact Heap.get?_push_of_some _ (Heap.get?_push_of_some _ x)
end
/-- the tuple at a as it stands at each turn, each item in a new pair -/
def IteT (K : PySem.W.Frag) (a : Addr) : It :=
  ⟨fun i H => ∃ (xs : List V) (x : V), SqT K H a xs ∧ xs[i]? = some x, fun i H v H' => ∃ (T : Addr) (x : V), v = .ref T ∧ H T = none ∧ H' = L2.upd H T (.tup [.int (i : Nat), x]) ∧ ∀ xs, SqT K H a xs → xs[i]? = some x,
   fun i H => ∃ xs : List V, SqT K H a xs ∧ xs.length = i⟩
theorem isTup_at {h : Heap} {a : Addr} {items : Array Value} (x : IsTup h a items) : h.IsTuple a items := by
  obtain ⟨o, e, c, n, d⟩ := x
  exact ⟨o, e, c, n, d⟩
theorem turnE {P : Program} {w : World} {K : PySem.W.Frag} {elts : List Expr} {kk : Nat} {tpos : Pos} (a e it : Addr) (hai : a ≠ it) :
    Turn P w K (.Tuple elts kk tpos) (IteT K a) [e, it] e (fun i h => (∃ old, IsEnum h e it ((i : Nat) : Int) old) ∧ h.IsTupleIter it a i ∧ e ≠ it ∧ e ≠ a) where
  mem := List.mem_cons_self
  obj := fun i h st b hb => by
    obtain ⟨⟨old, he⟩, ⟨o, ho, _, hd⟩, _⟩ := st
    rcases List.mem_cons.mp hb with rfl | hb
    · exact ⟨_, he, fun v q => nomatch q⟩
    · obtain rfl := List.mem_singleton.mp hb
      exact ⟨o, ho, fun v q => by rw [hd] at q; cases q⟩
  keep := fun i h h' st k => ⟨⟨st.1.choose, k e (by simp) _ st.1.choose_spec⟩, st.2.1.at fun o q => k it (by simp) o q, st.2.2⟩
  item := by
    intro X hP hw hK hc i pins s σ H E I hf st hg
    subst hP hw hK
    obtain ⟨⟨old, he⟩, hit, hne, hea⟩ := st
    obtain ⟨xs, x, hq, hx⟩ := hg
    obtain ⟨its, rv, p, hz⟩ := I.tuple hq
    obtain ⟨u, hu, ru⟩ := rv.get hx
    have he0 : e < s.heap.objs.size := Heap.lt_size he
    have hi0 : it < s.heap.objs.size := by obtain ⟨_, q, _⟩ := hit; exact Heap.lt_size q
    have hlt : i < its.toArray.size := by
      have := (List.getElem?_eq_some_iff.mp hu).1
      simpa using this
    have D := Draws.tuple (prog := X.prog) (w := X.w) (A := X.A.in1) (I.ok.hd hc) it a hai its.toArray
    refine wpAny_pyNext_enum_itemD D he ⟨hit, isTup_at p⟩ hlt hne (by simp [hne, hea]) fun x' h' tk hP ho st' hT hsz hk => ?_
    have ex : x' = u := by
      have q : its.toArray[i]? = some u := by simpa using hu
      exact Option.some.inj (hP.symm.trans q)
    subst ex
    refine ⟨_, rfl, wpAny_letOwnedTupleGo_enum (s := { s with heap := h', toks := tk + 1 }) ho fun h2 he2 sb => ?_⟩
    obtain ⟨old', hx2⟩ : ∃ y, y = s.heap.objs.size := ⟨_, rfl⟩
    have nT : s.heap.objs.size ≠ e := Nat.ne_of_gt he0
    have tT : h2.get? s.heap.objs.size = some { cls := .type "tuple", data := .seq #[.int i tk, x'] } := (sb.2 _ nT).trans hT
    have nw : ObjOk X.prog X.w (L2.upd H s.heap.objs.size (.tup [.int (i : Nat), x])) h2 s.heap.objs.size (.tup [.int (i : Nat), x]) :=
      ⟨by show 2 ≤ sizeLine; decide, [.int i tk, x'], .cons ⟨_, rfl⟩ (.cons ru .nil), ⟨_, tT, rfl, _, rfl⟩⟩
    have kp : ∀ b ob, b ∉ [e, it] → s.heap.get? b = some ob → h2.get? b = some ob := fun b ob hb q =>
      (sb.2 b fun z => hb (by simp [z])).trans (hk b ob (fun z => hb (by simp [z])) (fun z => hb (by simp [z])) q)
    have J : Inv X pins σ (L2.upd H s.heap.objs.size (.tup [.int (i : Nat), x])) { s with heap := h2, toks := tk + 1 } := I.turnedNew (ch := [e, it]) kp hf (Nat.le_refl _) nw
    refine ⟨.ref s.heap.objs.size, _, J, rfl, ⟨_, x, rfl, I.hok.fresh (Nat.le_refl _), rfl, fun ys hy => ?_⟩, ⟨⟨x', ?_⟩, st'.1.at fun o q => (sb.2 it (Ne.symm hne)).trans q, hne, hea⟩, fun b hb => ?_⟩
    · rw [I.tuple_inj hy hq]
      exact hx
    · rw [show ((i + 1 : Nat) : Int) = (i : Int) + 1 by omega]
      exact he2
    · have hb' : b < s.heap.objs.size := by
        rcases List.mem_cons.mp hb with rfl | hb
        · exact he0
        · rw [List.mem_singleton.mp hb]
          exact hi0
      rw [upd_ne (Nat.ne_of_lt hb')]
      exact (hf b hb).1
  done := by
    intro X hP hw hK hc i pins s σ H E I hf st hg
    subst hP hw hK
    obtain ⟨⟨old, he⟩, hit, hne, hea⟩ := st
    obtain ⟨xs, hq, hx⟩ := hg
    obtain ⟨its, rv, p, hz⟩ := I.tuple hq
    obtain ⟨f0, f1, f2, f3, f4, f5⟩ := hf it (by simp)
    have hl := rv.length
    have hs : i = its.toArray.size := by simp; omega
    subst hs
    have D := Draws.tuple (prog := X.prog) (w := X.w) (A := X.A.in1) (I.ok.hd hc) it a hai its.toArray
    exact wpAny_pyNext_enum_endD D he ⟨hit, isTup_at p⟩ fun h' eb => ⟨rfl, I.turned (t' := s.toks) (fun b o hb q => eb b o hb q) f0 f1 f3 f4 f5⟩
  self := fun A i s Q E st h => wpAny_pyIter_enum st.1.choose_spec h
def iEnumT (K : PySem.W.Frag) (ta : TA) : TI := fun σ H R => ta σ H fun vs H1 => ∃ (a : Addr) (xs : List V), vs = [.ref a] ∧ SqT K H1 a xs ∧ R (IteT K a) H1
theorem pi_enumT {X : Cx} {e : Expr} {ta : TA} {p pos tpos : Pos} {elts : List Expr} {kk : Nat} (hg : Gl X "enumerate") (hm : X.mg "enumerate" = none) (ha : PA X [e] ta)
    (hs : starEach [e] X.env = [(false, eval e X.env)] := by rfl) : PI X (.Tuple elts kk tpos) (.Call (.Name "enumerate" p) [e] [] pos) (iEnumT X.K ta) := ⟨fun pins s σ H R I h => by
  refine Call_ (ld_blt I hg hm boot_enumerate (PyProof.Rows.callWith_type1 (thn (ha.run pos pins s σ H _ I h) ?_) hs rfl))
  rintro us s1 ⟨vs, H1, I1, r1, a, xs, rfl, hq, q⟩
  obtain ⟨u, rfl, ru⟩ := vals1 r1
  cases (show u = Value.ref a from ru)
  obtain ⟨its, rv, p', hz⟩ := I1.tuple hq
  have ha1 : a < s1.heap.objs.size := by obtain ⟨o, e, _⟩ := p'; exact Heap.lt_size e
  refine enum1_call (begins_tuple a its.toArray) (isTup_at p') fun h' he hit hk => wpAny_pyIter_enum he ?_
  have I2 : Inv X pins σ H1 { s1 with heap := h' } := I1.kept (t' := s1.toks) hk
  refine ⟨s1.heap.objs.size + 1, [s1.heap.objs.size + 1, s1.heap.objs.size], _, _, H1, rfl, I2, turnE a (s1.heap.objs.size + 1) s1.heap.objs.size (Nat.ne_of_lt ha1),
    ⟨⟨.none, he⟩, ⟨_, hit, rfl, rfl⟩, Nat.succ_ne_self _, Ne.symm (Nat.ne_of_lt (Nat.lt_succ_of_lt ha1))⟩, fun b hb => ?_, q⟩
  have hle : s1.heap.objs.size ≤ b := by
    rcases List.mem_cons.mp hb with rfl | hb
    · exact Nat.le_succ _
    · rw [List.mem_singleton.mp hb]
      exact Nat.le_refl _
  exact I1.fpOk hle (I1.hok.fresh hle)⟩
theorem walk_enumT {K : PySem.W.Frag} {a : Addr} {xs : List V} : Walk (IteT K a) xs.length (fun H => SqT K H a xs) (YPair (fun i => some (.int (i : Nat))) (fun i => xs[i]?)) := by
  refine ⟨fun i _ hi q => ⟨xs, xs[i], q, by simp [hi]⟩, fun _ q => ⟨xs, q, rfl⟩, ?_⟩
  rintro i H v H' _ q ⟨T, x, h1, h2, h3, h4⟩
  exact ⟨T, .int (i : Nat), x, h1, h2, h3, rfl, h4 xs q⟩
end RK


set_option Elab.async false
set_option linter.all false
set_option maxRecDepth 100000
/-! methods of an own class, in one piece -/
namespace RK
open PySem PySem.Spec PyProof.Rows L2
structure Cm (P : Program) (w : World) (K : PySem.W.Frag) (mg : Str → Option Value) (base : Heap) (CXt : CXT) (k : Nat) (C : Addr) (m : Str) (ps : List Str) (sp : Sp) : Prop where
  ex : ∃ (f : Addr) (fd : FuncData), FnOk P w K mg base CXt k f fd ps sp ∧ Meth K C m f ∧ L2.Binds K fd ps []
section
variable {X : Cx} {CXt : CXT} {j k : Nat} {ps : List Str} {sp : Sp} {m : Str} {p pos apos : Pos} {o e : Expr} {es : List Expr} {ta : TE} {t : TA} {C : Addr}
theorem pe_m {E : XK} {pl : Sem Bool} (c : Cm X.prog X.w X.K X.mg X.base CXt k C m ps sp) (cl : Cls X.K C) (hr : Room j X.A) (hk : k ≤ j) (hx : Passes CXt X E) (he : PE X o ta) (ha : PA X (e :: es) t)
    (hst : starEach (e :: es) X.env = (false, eval e X.env) :: starEach es X.env := by rfl) (hpl : (backTo pos (starEach es X.env)).any (·.1) = false := by rfl)
    (ht : eval (.Call (.Attribute o m apos) (e :: es) [] pos) X.env = (do
      let ov ← eval o X.env
      standAt apos.atName
      let (f, first) ← holding [ov] (getMethod ov m pl)
      callWith pos f first (backTo pos (starEach (e :: es) X.env)) (backToKw pos (keywordEach [] X.env))) := by rfl) :
    PE X (.Call (.Attribute o m apos) (e :: es) [] pos) (tMeth C m sp [] E ta t) := by
  obtain ⟨f, fd, F, M, b⟩ := c.ex
  exact pe_meth he cl M F (hr.mono hk) b .nil hx ha hst hpl ht
theorem pe_m0 {E : XK} {pl : Sem Bool} (c : Cm X.prog X.w X.K X.mg X.base CXt k C m ps sp) (cl : Cls X.K C) (hr : Room j X.A) (hk : k ≤ j) (hx : Passes CXt X E) (he : PE X o ta)
    (ht : eval (.Call (.Attribute o m apos) [] [] pos) X.env = (do
      let ov ← eval o X.env
      standAt apos.atName
      let (f, first) ← holding [ov] (getMethod ov m pl)
      callWith pos f first (backTo pos (starEach [] X.env)) (backToKw pos (keywordEach [] X.env))) := by rfl) :
    PE X (.Call (.Attribute o m apos) [] [] pos) (tMeth C m sp [] E ta tNil) := by
  obtain ⟨f, fd, F, M, b⟩ := c.ex
  exact pe_meth0 he cl M F (hr.mono hk) b .nil hx ht
end
/-- a class that is made by its own __init__, in one piece -/
structure Cc (P : Program) (w : World) (K : PySem.W.Frag) (mg : Str → Option Value) (base : Heap) (CXt : CXT) (k : Nat) (x : Str) (C : Addr) (ps : List Str) (sp : Sp) : Prop where
  ex : ∃ (f : Addr) (fd : FuncData), FnOk P w K mg base CXt k f fd ps sp ∧ mg x = some (.ref C) ∧ Mk K C f ∧ L2.Binds K fd ps []
theorem pe_cls {X : Cx} {CXt : CXT} {j k : Nat} {ps : List Str} {sp : Sp} {x : Str} {p pos : Pos} {e : Expr} {es : List Expr} {t : TA} {C : Addr} {E : XK} (c : Cc X.prog X.w X.K X.mg X.base CXt k x C ps sp)
    (hr : Room j X.A) (hk : k + 1 ≤ j) (hx : Passes CXt X E) (ha : PA X (e :: es) t) (hg : Gl X x := by rfl) (hdb : (x == ("__debug__" : Str)) = false := by decide)
    (he : starEach (e :: es) X.env = (false, eval e X.env) :: starEach es X.env := by rfl) (hpl : (backTo pos (starEach es X.env)).any (·.1) = false := by rfl) :
    PE X (.Call (.Name x p) (e :: es) [] pos) (tMake C sp [] E t) := by
  obtain ⟨f, fd, F, hm, M, b⟩ := c.ex
  exact pe_make M F (hr.mono hk) hg hm b .nil hx ha hdb he hpl
/-- an attribute inside a comprehension: its K is the def's -/
theorem pe_fldK {X : Cx} (K : PySem.W.Frag) {e : Expr} {f : Str} {pos : Pos} {ta : TE} (h : PE X e ta) (ha : attributeBase e f X.env (eval e X.env) = eval e X.env) (hK : X.K = K := by rfl) : PE X (.Attribute e f pos) (tFld K ta f) := by
  subst hK
  exact pe_fld h ha
/-- len of a list or tuple -/
def rLenS (K : PySem.W.Frag) : List V → Hp → VK → Prop := fun xs H Q => ∃ (p : Addr) (ys : List V), xs = [.ref p] ∧ (SqL K H p ys ∨ SqT K H p ys) ∧ Q (.int ys.length) H
theorem call_lenS {X : Cx} : CallR X (.builtin "len") (rLenS X.K) := call_len_seq
end RK


set_option Elab.async false
set_option linter.all false
set_option maxRecDepth 100000
/-! texts in order; rooms, their outcomes and the rooms of an outcome -/
namespace RK
open PySem PySem.Spec PyProof.Rows L2
/-! ### texts in order -/
def ltS (a b : Str) : Prop := a.cps.toList < b.cps.toList
instance (a b : Str) : Decidable (ltS a b) := inferInstanceAs (Decidable (a.cps.toList < b.cps.toList))
theorem ltS_irrefl (a : Str) : ¬ ltS a a := List.lt_irrefl _
theorem ltS_trans {a b c : Str} (h : ltS a b) (k : ltS b c) : ltS a c := List.lt_trans h k
theorem str_ext {a b : Str} (h : a.cps.toList = b.cps.toList) : a = b := by
  cases a with
  | mk x =>
    cases b with
    | mk y =>
      congr 1
      exact Array.ext' h
theorem ltS_tri {a b : Str} (h : ¬ ltS a b) (k : ¬ ltS b a) : a = b := str_ext (List.le_antisymm (List.not_lt.mp k) (List.not_lt.mp h))
theorem ltS_asymm {a b : Str} (h : ltS a b) : ¬ ltS b a := fun k => ltS_irrefl a (ltS_trans h k)
theorem ltCps_iff : ∀ a b : List Nat, ltCps a b = true ↔ a < b
  | [], [] => by simp [ltCps]
  | [], _ :: _ => by simp [ltCps]
  | _ :: _, [] => by simp [ltCps]
  | a :: r, b :: t => by
    unfold ltCps
    rw [Bool.or_eq_true, Bool.and_eq_true, ltCps_iff r t, List.cons_lt_cons_iff]
    simp
/-- not falling -/
def LeS (a b : Str) : Prop := ¬ ltS b a
theorem LeS.trans {a b c : Str} (h : LeS a b) (k : LeS b c) : LeS a c := fun z => by
  by_cases e : ltS c b
  · exact k e
  · by_cases e2 : ltS b c
    · exact h (ltS_trans e2 z)
    · have := ltS_tri e e2
      subst this
      exact h z
theorem risingS_le : ∀ (p : Str) (l : List Str), risingS p l = true → (p :: l).Pairwise LeS
  | p, [], _ => by simp
  | p, x :: r, h => by
    have h : (!ltCps x.cps.toList p.cps.toList && risingS x r) = true := h
    rw [Bool.and_eq_true] at h
    have h1 : LeS p x := fun z => by
      have := (ltCps_iff _ _).mpr z
      rw [this] at h
      exact absurd h.1 (by decide)
    have ih := risingS_le x r h.2
    rw [List.pairwise_cons]
    refine ⟨fun y hy => ?_, ih⟩
    rcases List.mem_cons.mp hy with rfl | hy
    · exact h1
    · exact h1.trans ((List.pairwise_cons.mp ih).1 y hy)
theorem sortedS_le {l : List Str} (h : sortedS l = true) : l.Pairwise LeS := by
  cases l with
  | nil => exact List.Pairwise.nil
  | cons x r => exact risingS_le x r h
/-- rising without doubles -/
abbrev Asc (l : List Str) : Prop := l.Pairwise ltS
theorem asc_of {l : List Str} (h : sortedS l = true) (nd : l.Nodup) : Asc l := by
  have h1 := sortedS_le h
  clear h
  induction l with
  | nil => exact List.Pairwise.nil
  | cons x r ih =>
    rw [List.pairwise_cons] at h1
    rw [List.nodup_cons] at nd
    refine List.pairwise_cons.mpr ⟨fun y hy => ?_, ih nd.2 h1.2⟩
    by_cases e : ltS x y
    · exact e
    · exact absurd (ltS_tri e (h1.1 y hy)) (fun z => nd.1 (z ▸ hy))
theorem Asc.nodup {l : List Str} (h : Asc l) : l.Nodup := List.Pairwise.imp (S := fun a b : Str => a ≠ b) (fun {a b} hab e => ltS_irrefl b (by rw [e] at hab; exact hab)) h
theorem snoc_ind {α : Type} {P : List α → Prop} (h0 : P []) (h1 : ∀ l x, P l → P (l ++ [x])) (l : List α) : P l := by
  have key : ∀ m : List α, P m.reverse := by
    intro m
    induction m with
    | nil => exact h0
    | cons x m ih =>
      rw [List.reverse_cons]
      exact h1 _ _ ih
  have := key l.reverse
  rwa [List.reverse_reverse] at this
theorem asc_eq : ∀ {l m : List Str}, Asc l → Asc m → (∀ x, x ∈ l ↔ x ∈ m) → l = m
  | [], [], _, _, _ => rfl
  | [], y :: m, _, _, h => absurd ((h y).mpr List.mem_cons_self) List.not_mem_nil
  | x :: l, [], _, _, h => absurd ((h x).mp List.mem_cons_self) List.not_mem_nil
  | x :: l, y :: m, a, b, h => by
    replace a := List.pairwise_cons.mp a
    replace b := List.pairwise_cons.mp b
    have e : x = y := by
      rcases List.mem_cons.mp ((h x).mp List.mem_cons_self) with e | hx
      · exact e
      · rcases List.mem_cons.mp ((h y).mpr List.mem_cons_self) with e | hy
        · exact e.symm
        · exact absurd (a.1 y hy) (ltS_asymm (b.1 x hx))
    subst e
    congr 1
    refine asc_eq a.2 b.2 fun z => ⟨fun hz => ?_, fun hz => ?_⟩
    · rcases List.mem_cons.mp ((h z).mp (List.mem_cons_of_mem _ hz)) with e | hz'
      · exact absurd (e ▸ a.1 z hz) (ltS_irrefl x)
      · exact hz'
    · rcases List.mem_cons.mp ((h z).mpr (List.mem_cons_of_mem _ hz)) with e | hz'
      · exact absurd (e ▸ b.1 z hz) (ltS_irrefl x)
      · exact hz'
theorem perm_asc_eq {l m k : List Str} (a : l.Perm k) (sa : sortedS l = true) (b : m.Perm k) (sb : sortedS m = true) (nd : k.Nodup) : l = m :=
  asc_eq (asc_of sa (a.nodup_iff.mpr nd)) (asc_of sb (b.nodup_iff.mpr nd)) fun x => (a.mem_iff).trans b.mem_iff.symm
/-! ### texts in a list, as == finds them -/
theorem inV_str (x : Str) (ys : List Str) : inV (.str x) (ys.map V.str) = decide (x ∈ ys) := by
  unfold inV
  rw [List.any_map, Bool.eq_iff_iff, List.any_eq_true, decide_eq_true_eq]
  constructor
  · rintro ⟨y, hy, e⟩
    have e : (y == x) = true := e
    exact (beq_iff_eq.mp e) ▸ hy
  · intro h
    exact ⟨x, h, show (x == x) = true from beq_self_eq_true x⟩
theorem flat_strs (ys : List Str) : (ys.map V.str).all flatV = true := by rw [List.all_map]; simp [Function.comp_def, flatV]
theorem inV_int (x : Int) (ys : List Int) : inV (.int x) (ys.map V.int) = decide (x ∈ ys) := by
  unfold inV
  rw [List.any_map, Bool.eq_iff_iff, List.any_eq_true, decide_eq_true_eq]
  constructor
  · rintro ⟨y, hy, e⟩
    have e : (y == x) = true := e
    exact (beq_iff_eq.mp e) ▸ hy
  · intro h
    exact ⟨x, h, show (x == x) = true from beq_self_eq_true x⟩
theorem flat_ints (ys : List Int) : (ys.map V.int).all flatV = true := by rw [List.all_map]; simp [Function.comp_def, flatV]
/-! ### rooms -/
abbrev Rm := List Str
/-- a..z -/
def lowB (c : Nat) : Bool := decide (97 ≤ c) && decide (c ≤ 122)
def NameOk (x : Str) : Prop := 1 ≤ x.length ∧ x.length ≤ 5 ∧ ∀ c ∈ x.cps.toList, lowB c = true
def RoomOk (r : Rm) : Prop := 3 ≤ r.length ∧ r.length ≤ 5 ∧ (∀ x ∈ r, NameOk x) ∧ Asc r
/-- what two rooms share -/
def common (r s : Rm) : Rm := r.filter fun x => decide (x ∈ s)
/-- the outcomes with the numbers of their rooms, as they are met -/
def occs : Nat → List Rm → List (Str × Nat)
  | _, [] => []
  | n, r :: rs => r.map (fun x => (x, n)) ++ occs (n + 1) rs
/-- the outcomes in the order in which they are first met -/
def firsts (o : List (Str × Nat)) : List Str := o.foldl (fun acc p => if p.1 ∈ acc then acc else acc ++ [p.1]) []
def numsOf (o : List (Str × Nat)) (x : Str) : List Nat := (o.filter fun p => decide (p.1 = x)).map (·.2)
theorem firsts_snoc (o : List (Str × Nat)) (p : Str × Nat) : firsts (o ++ [p]) = if p.1 ∈ firsts o then firsts o else firsts o ++ [p.1] := by
  unfold firsts
  rw [List.foldl_append]
  rfl
theorem mem_firsts (o : List (Str × Nat)) (x : Str) : x ∈ firsts o ↔ x ∈ o.map (·.1) := by
  refine snoc_ind (P := fun o => x ∈ firsts o ↔ x ∈ o.map (·.1)) Iff.rfl (fun o p ih => ?_) o
  · rw [firsts_snoc, List.map_append, List.mem_append]
    split
    · rename_i h
      rw [ih]
      constructor
      · exact .inl
      · rintro (h1 | h1)
        · exact h1
        · have e : x = p.1 := by simpa using h1
          subst e
          exact ih.mp h
    · rw [List.mem_append, ih]
      simp
theorem nodup_firsts (o : List (Str × Nat)) : (firsts o).Nodup := by
  refine snoc_ind (P := fun o => (firsts o).Nodup) List.nodup_nil (fun o p ih => ?_) o
  · rw [firsts_snoc]
    split
    · exact ih
    · rename_i h
      rw [List.nodup_append]
      refine ⟨ih, by simp, fun a ha b hb => ?_⟩
      have e : b = p.1 := by simpa using hb
      rintro rfl
      exact h (e ▸ ha)
theorem numsOf_snoc (o : List (Str × Nat)) (p : Str × Nat) (x : Str) : numsOf (o ++ [p]) x = if p.1 = x then numsOf o x ++ [p.2] else numsOf o x := by
  unfold numsOf
  rw [List.filter_append, List.map_append]
  by_cases h : p.1 = x
  · rw [if_pos h]
    simp [h]
  · rw [if_neg h]
    simp [h]
theorem numsOf_none {o : List (Str × Nat)} {x : Str} (h : x ∉ o.map (·.1)) : numsOf o x = [] := by
  unfold numsOf
  rw [List.filter_eq_nil_iff.mpr fun p hp e => h (by rw [← of_decide_eq_true e]; exact List.mem_map_of_mem hp)]
  rfl
theorem numsOf_ne {o : List (Str × Nat)} {x : Str} (h : x ∈ o.map (·.1)) : numsOf o x ≠ [] := by
  obtain ⟨p, hp, rfl⟩ := List.mem_map.mp h
  unfold numsOf
  intro e
  rw [List.map_eq_nil_iff, List.filter_eq_nil_iff] at e
  exact e p hp (by simp)
theorem occs_snoc : ∀ (n : Nat) (rs : List Rm) (r : Rm), occs n (rs ++ [r]) = occs n rs ++ r.map (fun x => (x, n + rs.length))
  | n, [], r => by simp [occs]
  | n, s :: rs, r => by
    show s.map _ ++ occs (n + 1) (rs ++ [r]) = (s.map _ ++ occs (n + 1) rs) ++ _
    rw [occs_snoc (n + 1) rs r, List.append_assoc, List.length_cons]
    congr 3
    funext x
    congr 1
    omega
theorem occs_mem {n : Nat} {rs : List Rm} {x : Str} : x ∈ (occs n rs).map (·.1) ↔ ∃ r ∈ rs, x ∈ r := by
  induction rs generalizing n with
  | nil => simp [occs]
  | cons s rs ih =>
    show x ∈ (s.map (fun y => (y, n)) ++ occs (n + 1) rs).map (fun p : Str × Nat => p.1) ↔ _
    rw [List.map_append, List.mem_append, ih, List.map_map]
    simp
/-- the outcomes of rooms -/
def outsOf (rs : List Rm) : List Str := firsts (occs 0 rs)
/-- the numbers of the rooms of x -/
def placesOf (rs : List Rm) (x : Str) : List Nat := numsOf (occs 0 rs) x
theorem mem_outsOf {rs : List Rm} {x : Str} : x ∈ outsOf rs ↔ ∃ r ∈ rs, x ∈ r := (mem_firsts _ _).trans occs_mem
/-- the rooms of a book -/
structure RoomsOk (rs : List Rm) : Prop where
  few : 1 ≤ rs.length ∧ rs.length ≤ 10
  ok : ∀ r ∈ rs, RoomOk r
  one : rs.Pairwise (fun r s => (common s r).length ≤ 1)
  most : (outsOf rs).length ≤ 24
end RK


set_option Elab.async false
set_option linter.all false
set_option maxRecDepth 100000
/-! a text some times -/
namespace RK
open PySem PySem.Spec PyProof.Rows L2
theorem wpi (P : Program) (w : World) : True := trivial
def repS (z : Str) (k : Int) : Str := { cps := List.foldl (fun x1 x2 => x1 ++ x2) #[] (List.replicate k.toNat z.cps) }
theorem rep_size (z : Array Nat) : ∀ (n : Nat) (a : Array Nat), ((List.replicate n z).foldl (fun x1 x2 => x1 ++ x2) a).size = a.size + n * z.size
  | 0, a => by simp
  | n + 1, a => by
    rw [List.replicate_succ, List.foldl_cons, rep_size z n, Array.size_append, Nat.add_mul, Nat.one_mul]
    omega
theorem rep_list (z : Array Nat) : ∀ (n : Nat) (a : Array Nat), ((List.replicate n z).foldl (fun x1 x2 => x1 ++ x2) a).toList = a.toList ++ (List.replicate n z.toList).flatten
  | 0, a => by simp
  | n + 1, a => by
    rw [List.replicate_succ, List.foldl_cons, rep_list z n, Array.toList_append, List.replicate_succ, List.flatten_cons, List.append_assoc]
theorem rep_len {z : Str} {k : Int} (h : k ≤ 100) (hz : z.length ≤ 1000) : (repS z k).length ≤ 100000 := by
  show ((List.replicate k.toNat z.cps).foldl (fun x1 x2 => x1 ++ x2) #[]).size ≤ 100000
  rw [rep_size]
  have : k.toNat * z.cps.size ≤ 100 * 1000 := Nat.mul_le_mul (by omega) hz
  simp only [List.size_toArray, List.length_nil]
  omega
theorem op_repS {X : Cx} : OpR X (binaryOp .Mult) (fun x y H Q => ∃ z k, x = .str z ∧ y = .int k ∧ 2 ≤ k ∧ k ≤ 100 ∧ 1 ≤ z.length ∧ z.length ≤ 1000 ∧ Q (.str (repS z k)) H) := by
  intro pins s σ H x y v u Q I rx ry h
  obtain ⟨z, k, rfl, rfl, k2, k9, z1, z9, q⟩ := h
  obtain ⟨t, rfl⟩ : ∃ t, v = .str z t := rx
  obtain ⟨tu, rfl⟩ : ∃ t, u = .int k t := ry
  refine wpAny_binaryOp_repeat (T := "str") (U := "int") (id := "str.__mul__") (idr := "int.__rmul__") (by decide) ?_ ?_ noFill_str_mul F.fills_int_mul F.slot_int_rmul repeat_str int_index ?_
  · exact fun s' => rfl
  · exact fun s' => rfl
  · refine call_gives F.slot_int_rmul rfl F.entry_int_rmul (F.args_int_rmul_2 _ _) (AutoIntG1.int___rmul___int_str_0 k tu z t) ⟨rfl, ?_⟩
    have kk : ¬ k < 1 := by omega
    have k1 : (k == 1 || z.length == 0) = false := by
      rw [Bool.or_eq_false_iff]
      exact ⟨beq_eq_false_iff_ne.mpr (by omega), beq_eq_false_iff_ne.mpr (by omega)⟩
    have g := gives_str_mul z k t tu (by rw [Bool.or_eq_false_iff]; exact ⟨decide_eq_false (by omega), decide_eq_false (by omega)⟩)
      (fun _ _ h => by
        have h2 : (2 ^ 63 - 1 : Int) / k ≥ 1001 := (Int.le_ediv_iff_mul_le (by omega)).mpr (by omega)
        omega) (fun _ _ => by
        have : z.length * k.toNat ≤ 1000 * 100 := Nat.mul_le_mul z9 (by omega)
        exact decide_eq_false (Nat.not_lt.mpr (Nat.le_trans this (by decide))))
    rw [if_neg kk, if_neg (by rw [k1]; exact Bool.false_ne_true)] at g
    refine call_gives F.slot_str_mul rfl F.entry_str_mul (F.args_str_mul_2 _ _) g ?_
    refine ⟨?_, .str (repS z k), H, I.kept fun _ _ z => z, ⟨_, rfl⟩, q⟩
    exact Nat.le_trans (rep_len (by omega) z9) (by decide)
end RK


set_option Elab.async false
set_option linter.all false
set_option maxRecDepth 100000
/-! names that are made letter by letter -/
namespace RK
open PySem PySem.Spec PyProof.Rows L2
def LowS (x : Str) : Prop := ∀ c ∈ x.cps.toList, lowB c = true
abbrev lettersS : Str := "abcdefghijklmnopqrstuvwxyz"
theorem lets_list : lettersS.cps.toList = [97, 98, 99, 100, 101, 102, 103, 104, 105, 106, 107, 108, 109, 110, 111, 112, 113, 114, 115, 116, 117, 118, 119, 120, 121, 122] := by decide +kernel
theorem let_at : ∀ d < 26, lettersS.cps.toList[d]? = some (97 + d) := by rw [lets_list]; decide
theorem lets_len : lettersS.cps.size = 26 := by decide +kernel
theorem ix_letter {d : Nat} {H : Hp} {Q : VK} (h : d < 26) (q : Q (.str ⟨#[97 + d]⟩) H) : rIxS (.str lettersS) (.int (d : Int)) H Q :=
  ⟨lettersS, _, 97 + d, rfl, rfl, (by rw [show lettersS.length = 26 from lets_len]; decide), atI_nat (let_at d h), q⟩
theorem low_one {d : Nat} (h : d < 26) : LowS ⟨#[97 + d]⟩ := fun c hc => by
  have e : c = 97 + d := by simpa using hc
  rw [e]
  unfold lowB
  rw [Bool.and_eq_true, decide_eq_true_eq, decide_eq_true_eq]
  omega
theorem low_empty : LowS ("" : Str) := fun c hc => by
  rw [show ("" : Str).cps.toList = [] from by decide +kernel] at hc
  exact absurd hc List.not_mem_nil
theorem app_list (x y : Str) : (x ++ y).cps.toList = x.cps.toList ++ y.cps.toList := by
  show (x.cps ++ y.cps).toList = _
  simp
theorem app_len (x y : Str) : (x ++ y).length = x.length + y.length := by
  show (x.cps ++ y.cps).size = _
  simp [Str.length]
theorem low_app {x y : Str} (h : LowS x) (k : LowS y) : LowS (x ++ y) := fun c hc => by
  rw [app_list] at hc
  exact (List.mem_append.mp hc).elim (h c) (k c)
theorem cut_list (x : Str) : (cutS x none (some 4)).cps.toList = x.cps.toList.take 4 := by
  unfold cutS
  rw [HT.sIx_none, show (4 : Int) = ((4 : Nat) : Int) from rfl, HT.sIx_nat, List.drop_zero, Nat.sub_zero]
  show List.take (min 4 x.length) x.cps.toList = _
  by_cases h : 4 ≤ x.length
  · rw [Nat.min_eq_left h]
  · rw [Nat.min_eq_right (by omega), List.take_of_length_le (by show x.cps.toList.length ≤ x.length; exact Nat.le_of_eq (Array.length_toList)), List.take_of_length_le]
    have : x.cps.toList.length = x.length := Array.length_toList
    omega
theorem nodup_sub_len : ∀ {S L : List Str}, S.Nodup → (∀ x ∈ S, x ∈ L) → S.length ≤ L.length
  | [], L, _, _ => Nat.zero_le _
  | x :: S, L, nd, h => by
    rw [List.nodup_cons] at nd
    have hx := h x List.mem_cons_self
    have := nodup_sub_len (S := S) (L := L.erase x) nd.2 fun y hy => (List.mem_erase_of_ne (fun e => nd.1 (by rw [← e]; exact hy))).mpr (h y (List.mem_cons_of_mem _ hy))
    rw [List.length_erase_of_mem hx] at this
    have hl : 0 < L.length := List.length_pos_of_mem hx
    rw [List.length_cons]
    omega
def Fresh (found : List Str) (i : Nat) (w : Str) : Prop := w ∉ found ∨ ∃ S : List Str, S.Nodup ∧ S.length = i ∧ (∀ x ∈ S, x ∈ found) ∧ ∀ x ∈ S, ∃ j, j < i ∧ x.cps.toList.getLast? = some (97 + j)
def nextW (found : List Str) (i : Nat) (w : Str) : Str := if w ∈ found then cutS w none (some 4) ++ ⟨#[97 + i]⟩ else w
theorem fresh_step {found : List Str} {i : Nat} {w : Str} (h : Fresh found i w) : Fresh found (i + 1) (nextW found i w) := by
  unfold nextW
  split
  · rename_i hw
    rcases h with h | ⟨S, nd, sl, sf, sj⟩
    · exact absurd hw h
    · by_cases hn : cutS w none (some 4) ++ ⟨#[97 + i]⟩ ∈ found
      · have hlast : (cutS w none (some 4) ++ (⟨#[97 + i]⟩ : Str)).cps.toList.getLast? = some (97 + i) := by
          rw [app_list]
          simp
        refine .inr ⟨S ++ [cutS w none (some 4) ++ ⟨#[97 + i]⟩], ?_, ?_, ?_, ?_⟩
        · rw [List.nodup_append]
          refine ⟨nd, by simp, fun a ha b hb => ?_⟩
          obtain rfl := List.mem_singleton.mp hb
          obtain ⟨j, hj, ej⟩ := sj a ha
          intro e
          rw [e, hlast] at ej
          have := Option.some.inj ej
          omega
        · rw [List.length_append, sl]
          rfl
        · intro x hx
          rcases List.mem_append.mp hx with hx | hx
          · exact sf x hx
          · rw [List.mem_singleton.mp hx]
            exact hn
        · intro x hx
          rcases List.mem_append.mp hx with hx | hx
          · obtain ⟨j, hj, ej⟩ := sj x hx
            exact ⟨j, by omega, ej⟩
          · rw [List.mem_singleton.mp hx]
            exact ⟨i, by omega, hlast⟩
      · exact .inl hn
  · rename_i hw
    exact .inl hw
theorem fresh_zero (found : List Str) (w : Str) : Fresh found 0 w := .inr ⟨[], List.nodup_nil, rfl, fun _ h => absurd h List.not_mem_nil, fun _ h => absurd h List.not_mem_nil⟩
theorem fresh_end {found : List Str} {w : Str} (h : Fresh found 26 w) (hl : found.length < 26) : w ∉ found := by
  rcases h with h | ⟨S, nd, sl, sf, _⟩
  · exact h
  · have := nodup_sub_len nd sf
    omega
/-- a name in the making -/
def Word (w : Str) : Prop := 1 ≤ w.length ∧ w.length ≤ 5 ∧ LowS w
theorem Word.name {w : Str} (h : Word w) : NameOk w := h
theorem len_list (x : Str) : x.length = x.cps.toList.length := Array.length_toList.symm
theorem word_next {found : List Str} {i : Nat} {w : Str} (hi : i < 26) (h : Word w) : Word (nextW found i w) := by
  unfold nextW
  split
  · refine ⟨?_, ?_, low_app (fun c hc => ?_) (low_one hi)⟩
    · rw [app_len]
      show 1 ≤ _ + 1
      omega
    · rw [app_len, len_list (cutS _ _ _), cut_list, List.length_take]
      show min 4 _ + 1 ≤ 5
      omega
    · rw [cut_list] at hc
      exact h.2.2 c (List.mem_of_mem_take hc)
  · exact h
theorem low_rep {z : Str} (h : LowS z) : LowS (repS z 2) ∧ (repS z 2).length = 2 * z.length := by
  have e : (repS z 2).cps.toList = z.cps.toList ++ z.cps.toList := by
    show ((List.replicate 2 z.cps).foldl (fun x1 x2 => x1 ++ x2) #[]).toList = _
    rw [rep_list]
    simp
  refine ⟨fun c hc => ?_, ?_⟩
  · rw [e] at hc
    exact (List.mem_append.mp hc).elim (h c) (h c)
  · rw [len_list, e, List.length_append, len_list]
    omega
theorem glue_list (rest : List Str) : ∀ a : Array Nat, (rest.foldl (fun acc (p : Str) => acc ++ (Str.empty).cps ++ p.cps) a).toList = a.toList ++ (rest.map fun p => p.cps.toList).flatten := by
  induction rest with
  | nil => intro a; simp
  | cons p r ih =>
    intro a
    rw [List.foldl_cons, ih]
    simp [Str.empty]
theorem join_list (ys : List Str) : (Txt.join ("" : Str) ys).cps.toList = (ys.map fun p => p.cps.toList).flatten := by
  cases ys with
  | nil => rfl
  | cons y r =>
    show (r.foldl (fun acc (p : Str) => acc ++ (Str.empty).cps ++ p.cps) y.cps).toList = _
    rw [glue_list]
    rfl
theorem join_word {ys : List Str} (h : ∀ y ∈ ys, LowS y ∧ y.length = 1) : LowS (Txt.join ("" : Str) ys) ∧ (Txt.join ("" : Str) ys).length = ys.length := by
  rw [len_list]
  unfold LowS
  rw [join_list]
  induction ys with
  | nil => exact ⟨fun c hc => absurd hc (by simp), rfl⟩
  | cons y r ih =>
    obtain ⟨i1, i2⟩ := ih fun z hz => h z (List.mem_cons_of_mem _ hz)
    obtain ⟨y1, y2⟩ := h y List.mem_cons_self
    rw [List.map_cons, List.flatten_cons]
    refine ⟨fun c hc => (List.mem_append.mp hc).elim (y1 c) (i1 c), ?_⟩
    rw [List.length_append, i2, ← len_list, y2, List.length_cons]
    omega
theorem ones_sum {ys : List Str} (h : ∀ y ∈ ys, LowS y ∧ y.length = 1) : (ys.map fun y => y.length).sum = ys.length := by
  induction ys with
  | nil => rfl
  | cons y r ih =>
    rw [List.map_cons, List.sum_cons, ih fun z hz => h z (List.mem_cons_of_mem _ hz), (h y List.mem_cons_self).2, List.length_cons]
    omega
end RK


set_option Elab.async false
set_option linter.all false
set_option maxRecDepth 100000
/-! rooms that are made outcome by outcome -/
namespace RK
open PySem PySem.Spec PyProof.Rows L2
def apartB (rms : List Rm) (taken : List Str) (x : Str) : Bool := (rms.all fun r => !(decide (x ∈ r) && taken.any fun y => decide (y ∈ r))) && decide (x ∉ taken)
theorem apart_of {rms : List Rm} {taken : List Str} {x : Str} (h : apartB rms taken x = true) : x ∉ taken ∧ ∀ r ∈ rms, x ∈ r → ∀ y ∈ taken, y ∉ r := by
  unfold apartB at h
  rw [Bool.and_eq_true, decide_eq_true_eq, List.all_eq_true] at h
  refine ⟨h.2, fun r hr hx y hy z => ?_⟩
  have := h.1 r hr
  rw [decide_eq_true hx, Bool.true_and, Bool.not_eq_true', List.any_eq_false] at this
  exact this y hy (decide_eq_true z)
/-- rooms so far and what they have -/
structure Mk (names : List Str) (rms : List Rm) (us : List Str) : Prop where
  ok : ∀ r ∈ rms, RoomOk r
  one : rms.Pairwise (fun r s => (common s r).length ≤ 1)
  uif : ∀ x, x ∈ us ↔ ∃ r ∈ rms, x ∈ r
  nd : us.Nodup
  sub : ∀ x ∈ us, x ∈ names
/-- a room in the making, after j turns -/
structure Mkr (names : List Str) (rms : List Rm) (us rm : List Str) (j : Nat) : Prop where
  nd : rm.Nodup
  sub : ∀ x ∈ rm, x ∈ names
  len : rm.length ≤ j
  ap : ∀ r ∈ rms, ∀ x ∈ rm, ∀ y ∈ rm, x ∈ r → y ∈ r → x = y
  first : us = [] → rm.length = j
theorem mkr_nil (names : List Str) (rms : List Rm) (us : List Str) : Mkr names rms us [] 0 :=
  ⟨List.nodup_nil, fun _ h => absurd h List.not_mem_nil, Nat.le_refl 0, fun _ _ _ h => absurd h List.not_mem_nil, fun _ => rfl⟩
theorem nodup_snoc {l : List Str} {x : Str} (h : l.Nodup) (n : x ∉ l) : (l ++ [x]).Nodup := by
  rw [List.nodup_append]
  refine ⟨h, by simp, fun a ha b hb e => ?_⟩
  rw [List.mem_singleton.mp hb] at e
  exact n (e ▸ ha)
theorem mkr_add {names : List Str} {rms : List Rm} {us rm : List Str} {j : Nat} {x : Str} (m : Mkr names rms us rm j) (hx : x ∈ names) (hn : x ∉ rm) (ha : ∀ r ∈ rms, x ∈ r → ∀ y ∈ rm, y ∉ r) : Mkr names rms us (rm ++ [x]) (j + 1) := by
  refine ⟨nodup_snoc m.nd hn, fun y hy => ?_, ?_, fun r hr y hy z hz yr zr => ?_, fun e => ?_⟩
  · rcases List.mem_append.mp hy with hy | hy
    · exact m.sub y hy
    · rw [List.mem_singleton.mp hy]; exact hx
  · rw [List.length_append]
    have := m.len
    simp
    omega
  · rcases List.mem_append.mp hy with hy | hy
    · rcases List.mem_append.mp hz with hz | hz
      · exact m.ap r hr y hy z hz yr zr
      · rw [List.mem_singleton.mp hz] at zr
        exact absurd yr (ha r hr zr y hy)
    · rw [List.mem_singleton.mp hy] at yr ⊢
      rcases List.mem_append.mp hz with hz | hz
      · exact absurd zr (ha r hr yr z hz)
      · rw [List.mem_singleton.mp hz]
  · rw [List.length_append, m.first e]
    rfl
theorem mkr_stay {names : List Str} {rms : List Rm} {us rm : List Str} {j : Nat} (m : Mkr names rms us rm j) (h : us ≠ []) : Mkr names rms us rm (j + 1) :=
  ⟨m.nd, m.sub, Nat.le_succ_of_le m.len, m.ap, fun e => absurd e h⟩
theorem len_one {l : List Str} (nd : l.Nodup) (h : ∀ x ∈ l, ∀ y ∈ l, x = y) : l.length ≤ 1 := by
  match l, nd, h with
  | [], _, _ => exact Nat.zero_le 1
  | [_], _, _ => exact Nat.le_refl 1
  | x :: y :: r, nd, h =>
    rw [List.nodup_cons] at nd
    exact absurd (List.mem_cons.mpr (.inl (h x (by simp) y (by simp)))) nd.1
/-- a room is done -/
theorem mk_add {names : List Str} {rms : List Rm} {us rm s : List Str} {j : Nat} (M : Mk names rms us) (m : Mkr names rms us rm j) (hj : j ≤ 5) (h3 : 3 ≤ rm.length) (hn : ∀ x ∈ names, NameOk x) (hp : s.Perm rm) (hs : sortedS s = true) :
    Mk names (rms ++ [s]) (us ++ rm.filter fun x => decide (x ∉ us)) := by
  have hsl := hp.length_eq
  have hml := m.len
  have hnd : s.Nodup := hp.nodup_iff.mpr m.nd
  refine ⟨fun r hr => ?_, ?_, fun x => ?_, ?_, fun x hx => ?_⟩
  · rcases List.mem_append.mp hr with hr | hr
    · exact M.ok r hr
    · rw [List.mem_singleton.mp hr]
      exact ⟨by omega, by omega, fun x hx => hn x (m.sub x (hp.mem_iff.mp hx)), asc_of hs hnd⟩
  · rw [List.pairwise_append]
    refine ⟨M.one, List.pairwise_singleton _ _, fun r hr t ht => ?_⟩
    rw [List.mem_singleton.mp ht]
    refine len_one (List.Nodup.sublist List.filter_sublist hnd) fun x hx y hy => ?_
    rw [common, List.mem_filter, decide_eq_true_eq] at hx hy
    exact m.ap r hr x (hp.mem_iff.mp hx.1) y (hp.mem_iff.mp hy.1) hx.2 hy.2
  · rw [List.mem_append, M.uif x, List.mem_filter, decide_eq_true_eq, M.uif x]
    constructor
    · rintro (⟨r, hr, hx⟩ | ⟨hx, _⟩)
      · exact ⟨r, List.mem_append.mpr (.inl hr), hx⟩
      · exact ⟨s, List.mem_append.mpr (.inr (List.mem_singleton.mpr rfl)), hp.mem_iff.mpr hx⟩
    · rintro ⟨r, hr, hx⟩
      rcases List.mem_append.mp hr with hr | hr
      · exact .inl ⟨r, hr, hx⟩
      · rw [List.mem_singleton.mp hr] at hx
        by_cases e : ∃ r ∈ rms, x ∈ r
        · exact .inl e
        · exact .inr ⟨hp.mem_iff.mp hx, e⟩
  · rw [List.nodup_append]
    refine ⟨M.nd, List.Nodup.sublist List.filter_sublist m.nd, fun a ha b hb e => ?_⟩
    rw [List.mem_filter, decide_eq_true_eq] at hb
    exact hb.2 (e ▸ ha)
  · rcases List.mem_append.mp hx with hx | hx
    · exact M.sub x hx
    · exact m.sub x (List.mem_filter.mp hx).1
theorem mk_nil (names : List Str) : Mk names [] [] :=
  ⟨fun _ h => absurd h List.not_mem_nil, List.Pairwise.nil, fun x => by simp, List.nodup_nil, fun _ h => absurd h List.not_mem_nil⟩
theorem mk_rooms {names : List Str} {rms : List Rm} {us : List Str} (M : Mk names rms us) (h1 : 1 ≤ rms.length) (h9 : rms.length ≤ 10) (hn : names.length ≤ 24) : RoomsOk rms := by
  refine ⟨⟨h1, h9⟩, M.ok, M.one, ?_⟩
  refine Nat.le_trans (nodup_sub_len (nodup_firsts _) fun x hx => ?_) hn
  exact M.sub x ((M.uif x).mpr (mem_outsOf.mp hx))
/-! ### lists of texts as data -/
theorem dp_strs {K : PySem.W.Frag} {H : Hp} : ∀ zs : List Str, DpAll K H (zs.map V.str) (zs.map PyData.str)
  | [] => .nil
  | z :: zs => .cons (.str z) (dp_strs zs)
theorem lay_strs : ∀ zs : List Str, (∀ x ∈ zs, PyData.strOk x = true) → PyData.canLayAll0 (zs.map PyData.str) = true
  | [], _ => rfl
  | z :: zs, h => by
    have e : PyData.canLayAll0 ((z :: zs).map PyData.str) = (PyData.strOk z && PyData.canLayAll0 (zs.map PyData.str)) := rfl
    rw [e, h z List.mem_cons_self, lay_strs zs fun x hx => h x (List.mem_cons_of_mem _ hx)]
    rfl
theorem depth_strs : ∀ zs : List Str, PyData.depthAll (zs.map PyData.str) ≤ 1
  | [] => by decide
  | z :: zs => by
    have h : PyData.depthAll ((z :: zs).map PyData.str) = max (PyData.str z).depth (PyData.depthAll (zs.map PyData.str)) := rfl
    rw [h]
    exact Nat.max_le.mpr ⟨Nat.le_of_ble_eq_true rfl, depth_strs zs⟩
theorem shaped_strs (zs : List Str) (hz : ∀ x ∈ zs, PyData.strOk x = true) : SeqAt.shaped (.list (zs.map PyData.str)) = true := by
  unfold SeqAt.shaped
  have h : (PyData.list (zs.map PyData.str)).canLay0 = PyData.canLayAll0 (zs.map PyData.str) := rfl
  have h2 : (PyData.list (zs.map PyData.str)).depth = PyData.depthAll (zs.map PyData.str) + 1 := rfl
  have := depth_strs zs
  rw [h, lay_strs zs hz, h2, Bool.true_and]
  exact decide_eq_true (by omega)
/-- xs != [], xs == [] for texts -/
theorem ne_nil_strs {K : PySem.W.Frag} {H : Hp} {l q : Addr} {zs : List Str} {Q : VK} (hz : ∀ x ∈ zs, PyData.strOk x = true) (hl : H l = some (.lst (zs.map V.str))) (hq : H q = some (.lst [])) (k : Q (.bl (!zs.isEmpty)) H) : rNeD K (.ref l) (.ref q) H Q := by
  refine ⟨.list (zs.map PyData.str), .list [], .lst (SqL.of hl) (dp_strs zs), .lst (SqL.of hq) .nil, shaped_strs zs hz, by decide, ?_⟩
  have e : (PyData.list (zs.map PyData.str)).eqv (.list []) = zs.isEmpty := by cases zs <;> rfl
  rw [e]
  exact k
theorem eq_nil_strs {K : PySem.W.Frag} {H : Hp} {l q : Addr} {zs : List Str} {Q : VK} (hz : ∀ x ∈ zs, PyData.strOk x = true) (hl : H l = some (.lst (zs.map V.str))) (hq : H q = some (.lst [])) (k : Q (.bl zs.isEmpty) H) : rEqD K (.ref l) (.ref q) H Q := by
  refine ⟨.list (zs.map PyData.str), .list [], .lst (SqL.of hl) (dp_strs zs), .lst (SqL.of hq) .nil, shaped_strs zs hz, by decide, ?_⟩
  have e : (PyData.list (zs.map PyData.str)).eqv (.list []) = zs.isEmpty := by cases zs <;> rfl
  rw [e]
  exact k
end RK


set_option Elab.async false
set_option linter.all false
set_option maxRecDepth 100000
/-! the rooms of an outcome, by their numbers -/
namespace RK
open PySem PySem.Spec PyProof.Rows L2
theorem numsOf_app (o o2 : List (Str × Nat)) (x : Str) : RK.numsOf (o ++ o2) x = RK.numsOf o x ++ RK.numsOf o2 x := by
  unfold RK.numsOf
  rw [List.filter_append, List.map_append]
theorem numsOf_room (n : Nat) (x : Str) : ∀ r : List Str, r.Nodup → RK.numsOf (r.map fun y => (y, n)) x = if x ∈ r then [n] else []
  | [], _ => rfl
  | y :: r, nd => by
    rw [List.nodup_cons] at nd
    have ih := numsOf_room n x r nd.2
    have e : RK.numsOf ((y :: r).map fun y => (y, n)) x = RK.numsOf [(y, n)] x ++ RK.numsOf (r.map fun y => (y, n)) x := numsOf_app [(y, n)] _ x
    rw [e, ih]
    by_cases h : y = x
    · subst h
      rw [if_neg nd.1, if_pos List.mem_cons_self, List.append_nil]
      unfold RK.numsOf
      simp
    · have e2 : RK.numsOf [(y, n)] x = [] := by
        unfold RK.numsOf
        simp [h]
      rw [e2, List.nil_append]
      by_cases hx : x ∈ r
      · rw [if_pos hx, if_pos (List.mem_cons_of_mem _ hx)]
      · rw [if_neg hx, if_neg (fun z => (List.mem_cons.mp z).elim (fun e => h e.symm) hx)]
def plc (rms : List Rm) (x : Str) (m : Nat) : List Nat := (List.range m).filter fun i => decide (x ∈ rms.getD i [])
theorem plc_succ (rms : List Rm) (x : Str) (m : Nat) : plc rms x (m + 1) = plc rms x m ++ if x ∈ rms.getD m [] then [m] else [] := by
  unfold plc
  rw [List.range_succ, List.filter_append]
  congr 1
  by_cases h : x ∈ rms.getD m []
  · rw [if_pos h, List.filter_cons, if_pos (decide_eq_true h)]
    rfl
  · rw [if_neg h, List.filter_cons, if_neg (by rw [decide_eq_false h]; exact Bool.false_ne_true)]
    rfl
theorem places_eq (x : Str) (rms : List Rm) : (∀ r ∈ rms, r.Nodup) → placesOf rms x = plc rms x rms.length := by
  refine snoc_ind (P := fun rms : List Rm => (∀ r ∈ rms, r.Nodup) → placesOf rms x = plc rms x rms.length) (fun _ => rfl) (fun l r ih hn => ?_) rms
  have ih := ih fun s hs => hn s (List.mem_append.mpr (.inl hs))
  unfold placesOf at ih ⊢
  rw [occs_snoc, numsOf_app, ih, Nat.zero_add, numsOf_room _ _ _ (hn r (by simp)), List.length_append, List.length_singleton, plc_succ]
  have e1 : plc (l ++ [r]) x l.length = plc l x l.length := by
    unfold plc
    refine List.filter_congr fun i hi => ?_
    have hi := List.mem_range.mp hi
    rw [List.getD_eq_getElem?_getD, List.getD_eq_getElem?_getD, List.getElem?_append_left hi]
  have e2 : (l ++ [r]).getD l.length [] = r := by
    rw [List.getD_eq_getElem?_getD, List.getElem?_append_right (Nat.le_refl _), Nat.sub_self]
    rfl
  rw [e1, e2]
theorem isort_asc {rms : List Rm} {ys : List Str} (hp : ys.Perm (outsOf rms)) (hs : sortedS ys = true) : Asc ys ∧ ∀ x, x ∈ ys ↔ ∃ r ∈ rms, x ∈ r :=
  ⟨asc_of hs (hp.nodup_iff.mpr (nodup_firsts _)), fun x => hp.mem_iff.trans mem_outsOf⟩
/-! ### data that equal themselves -/
theorem eqv_str (x : Str) : (PyData.str x).eqv (.str x) = true := by
  show (x == x) = true
  exact beq_self_eq_true x
theorem eqvAll_refl {l : List PyData} (h : ∀ d ∈ l, d.eqv d = true) : PyData.eqvAll l l = true := by
  induction l with
  | nil => rfl
  | cons d r ih =>
    have e : PyData.eqvAll (d :: r) (d :: r) = (d.eqv d && PyData.eqvAll r r) := rfl
    rw [e, h d List.mem_cons_self, ih fun z hz => h z (List.mem_cons_of_mem _ hz)]
    rfl
end RK


set_option Elab.async false
set_option linter.all false
set_option maxRecDepth 100000
/-! the heap that a law draws from: a list of a list of ints and an int -/
namespace RK
open PySem PySem.Spec PyProof.Rows L2
structure HeapAt (H : Hp) (h l : Addr) : Prop where
  ne : h ≠ l
  ex : ∃ (zs : List Int) (s : Int), H h = some (.lst [.ref l, .int s]) ∧ H l = some (.lst (zs.map V.int)) ∧ 0 ≤ s ∧ s < 2147483647 ∧ zs.length ≤ 100
/-- all that was tracked is as it was, but at h and l -/
def Kh (h l : Addr) (H H' : Hp) : Prop := ∀ b o, H b = some o → b ≠ h → b ≠ l → H' b = some o
theorem Kh.refl (h l : Addr) (H : Hp) : Kh h l H H := fun _ _ e _ _ => e
theorem Kh.trans {h l : Addr} {H H1 H2 : Hp} (a : Kh h l H H1) (b : Kh h l H1 H2) : Kh h l H H2 := fun c o e n m => b c o (a c o e n m) n m
theorem Kh.of {h l : Addr} {H H1 : Hp} (a : L2.Same H H1) : Kh h l H H1 := fun c o e _ _ => a c o e
theorem Kh.upd1 {h l : Addr} {H : Hp} {o : HO} : Kh h l H (upd H h o) := fun c o e n m => by rw [upd_ne n]; exact e
theorem Kh.upd2 {h l : Addr} {H : Hp} {o : HO} : Kh h l H (upd H l o) := fun c o e n m => by rw [upd_ne m]; exact e
theorem HeapAt.same {h l : Addr} {H H1 : Hp} (S : L2.Same H H1) (a : HeapAt H h l) : HeapAt H1 h l := by
  obtain ⟨ne, zs, s, e1, e2, e3⟩ := a
  exact ⟨ne, zs, s, S _ _ e1, S _ _ e2, e3⟩
/-- ints as data -/
theorem dp_ints {K : PySem.W.Frag} {H : Hp} : ∀ zs : List Int, DpAll K H (zs.map V.int) (zs.map PyData.int)
  | [] => .nil
  | z :: zs => .cons (.int z) (dp_ints zs)
theorem lay_ints : ∀ zs : List Int, PyData.canLayAll0 (zs.map PyData.int) = true
  | [] => rfl
  | z :: zs => lay_ints zs
theorem depth_ints : ∀ zs : List Int, PyData.depthAll (zs.map PyData.int) ≤ 1
  | [] => by decide
  | z :: zs => by
    have h : PyData.depthAll ((z :: zs).map PyData.int) = max (PyData.int z).depth (PyData.depthAll (zs.map PyData.int)) := rfl
    rw [h]
    exact Nat.max_le.mpr ⟨Nat.le_of_ble_eq_true rfl, depth_ints zs⟩
theorem shaped_ints (zs : List Int) : SeqAt.shaped (.list (zs.map PyData.int)) = true := by
  unfold SeqAt.shaped
  have h : (PyData.list (zs.map PyData.int)).canLay0 = PyData.canLayAll0 (zs.map PyData.int) := rfl
  have h2 : (PyData.list (zs.map PyData.int)).depth = PyData.depthAll (zs.map PyData.int) + 1 := rfl
  have := depth_ints zs
  rw [h, lay_ints, h2, Bool.true_and]
  exact decide_eq_true (by omega)
/-- xs != [] for ints -/
theorem ne_nil_ints {K : PySem.W.Frag} {H : Hp} {l q : Addr} {zs : List Int} {Q : VK} (hl : H l = some (.lst (zs.map V.int))) (hq : H q = some (.lst [])) (k : Q (.bl (!zs.isEmpty)) H) : rNeD K (.ref l) (.ref q) H Q := by
  refine ⟨.list (zs.map PyData.int), .list [], .lst (SqL.of hl) (dp_ints zs), .lst (SqL.of hq) .nil, shaped_ints zs, shaped_ints [], ?_⟩
  have e : (PyData.list (zs.map PyData.int)).eqv (.list []) = zs.isEmpty := by cases zs <;> rfl
  rw [e]
  exact k
theorem atI_last {xs : List V} {x : V} : atI (xs ++ [x]) (-1) = some x := by
  unfold atI ixN
  have h1 : ¬ (0 : Int) ≤ -1 := by decide
  have h2 : -(((xs ++ [x]).length : Nat) : Int) ≤ -1 := by rw [List.length_append]; simp; omega
  rw [if_neg h1, if_pos h2]
  have h3 : (-1 + (((xs ++ [x]).length : Nat) : Int)).toNat = xs.length := by rw [List.length_append, List.length_singleton]; omega
  rw [h3]
  simp
theorem fmod_lt {a m : Int} (h : 0 < m) : 0 ≤ a.fmod m ∧ a.fmod m < m := by
  rw [Int.fmod_eq_emod_of_nonneg a (Int.le_of_lt h)]
  exact ⟨Int.emod_nonneg _ (by omega), Int.emod_lt_of_pos _ h⟩
theorem abs_if (i : Int) : (if i < 0 then -i else i) = (i.natAbs : Int) := by split <;> omega
section
variable {K : PySem.W.Frag} {σ : L2.St} {H : Hp} {i : Nat} {t : Addr} {xs : List V} {z : Int} {v : V} {Q : VK}
theorem ixl (hs : σ[i]? = some (some (.ref t))) (h : H t = some (.lst xs)) (e : atI xs z = some v) (q : Q v H) : tOp (rIxL K) (tVar i) (tC (.int z)) σ H Q := ⟨_, hs, t, _, z, _, rfl, rfl, SqL.of h, e, q⟩
end
/-! ### weaker wishes of an expression, a test -/
def MoE (t : TE) : Prop := ∀ (σ : L2.St) (H : Hp) (Q Q' : VK), (∀ v H1, Q v H1 → Q' v H1) → t σ H Q → t σ H Q'
def MoR (r : R2) : Prop := ∀ (x y : V) (H : Hp) (Q Q' : VK), (∀ v H1, Q v H1 → Q' v H1) → r x y H Q → r x y H Q'
def MoT (t : TT) : Prop := ∀ (σ : L2.St) (H : Hp) (Q Q' : Bool → Hp → Prop), (∀ b H1, Q b H1 → Q' b H1) → t σ H Q → t σ H Q'
theorem moE_var {i : Nat} : MoE (tVar i) := fun _ _ _ _ h ⟨v, e, q⟩ => ⟨v, e, h _ _ q⟩
theorem moE_c {v : V} : MoE (tC v) := fun _ _ _ _ h q => h _ _ q
theorem moE_op {r : R2} {ta tb : TE} (hr : MoR r) (ha : MoE ta) (hb : MoE tb) : MoE (tOp r ta tb) := fun σ H Q Q' h q => ha _ _ _ _ (fun x H1 q1 => hb _ _ _ _ (fun y H2 q2 => hr _ _ _ _ _ h q2) q1) q
theorem moE_lst0 : MoE (tLst tNil) := fun _ _ _ _ h q => ⟨q.1, fun p hp => h _ _ (q.2 p hp)⟩
theorem moE_un {f : Int → V} {t : TE} (ha : MoE t) : MoE (tUn (rU f) t) := fun σ H Q Q' h q => ha _ _ _ _ (fun x H1 ⟨i, e, q1⟩ => ⟨i, e, h _ _ q1⟩) q
theorem moR_ixL {K : PySem.W.Frag} : MoR (rIxL K) := fun _ _ _ _ _ h ⟨p, xs, i, v, a, b, c, d, q⟩ => ⟨p, xs, i, v, a, b, c, d, h _ _ q⟩
theorem moR_neD {K : PySem.W.Frag} : MoR (rNeD K) := fun _ _ _ _ _ h ⟨d, e, a, b, c, f, q⟩ => ⟨d, e, a, b, c, f, h _ _ q⟩
theorem moR_eq : MoR rEq := fun _ _ _ _ _ h ⟨s, q⟩ => ⟨s, h _ _ q⟩
theorem moT_test {t : TE} (ha : MoE t) : MoT (tTest t) := fun σ H Q Q' h q => ha _ _ _ _ (fun x H1 ⟨k, e, q1⟩ => ⟨k, e, h _ _ q1⟩) q
theorem moT_and {t u : TT} (ha : MoT t) (hb : MoT u) : MoT (tAnd t u) := fun σ H Q Q' h q => ha _ _ _ _ (fun c H1 q1 => by
  cases c with
  | true => exact iteT (hb _ _ _ _ h (by simpa using q1))
  | false => exact iteF (h _ _ (by simpa using q1))) q
/-- a while whose locals stand still, then the rest from what it leaves -/
theorem seq_while {c : TT} {tb rest : TS} {D : Ends} {σ : L2.St} {H : Hp} (Pv : Hp → Prop) (μ : Hp → Nat) (I : Hp → Prop) (mo : MoT c) (h0 : Pv H) (fin : ∀ H1, I H1 → rest D σ H1)
    (step : ∀ H', Pv H' → c σ H' fun b H1 => if b = true then tb { nx := fun σ' H2 => (σ' = σ ∧ Pv H2) ∧ μ H2 < μ H', rt := D.rt, bk := fun σ' H2 => rest D σ' H2, ct := fun σ' H2 => (σ' = σ ∧ Pv H2) ∧ μ H2 < μ H' } σ H1 else I H1) :
    tSeq (tWhile c tb) rest D σ H := by
  unfold tSeq
  refine while_by (fun σ' H' => σ' = σ ∧ Pv H') (fun _ H' => μ H') ⟨rfl, h0⟩ ?_ mo
  rintro σ' H' ⟨rfl, p⟩
  refine mo _ _ _ _ ?_ (step H' p)
  intro b H1 hb
  cases b with
  | true => exact hb
  | false => exact fin H1 hb
/-- what comes behind, from several ends of what stands before it -/
theorem seq_fin {A rest : TS} {D : Ends} {σ : L2.St} {H : Hp} (J : L2.St → Hp → Prop) (fin : ∀ σ' H', J σ' H' → rest D σ' H') (h : (∀ σ' H', J σ' H' → rest D σ' H') → tSeq A rest D σ H) : tSeq A rest D σ H := h fin
theorem cut_ints {ns : List Int} {k : Nat} : cutV (ns.map V.int) none (some (k : Int)) = (ns.take k).map V.int := by
  unfold cutV
  rw [HT.sIx_nat, HT.sIx_none, List.drop_zero, Nat.sub_zero, List.map_take, List.length_map]
  by_cases h : k ≤ ns.length
  · rw [Nat.min_eq_left h]
  · rw [Nat.min_eq_right (by omega), List.take_of_length_le (by rw [List.length_map]; omega), List.take_of_length_le (by rw [List.length_map]; omega)]
end RK


set_option Elab.async false
set_option linter.all false
set_option maxRecDepth 100000
/-! rooms as data, and when they equal -/
namespace RK
open PySem PySem.Spec PyProof.Rows L2
def dRoom (r : Rm) : PyData := .tuple (r.map PyData.str)
theorem eqvAll_strs : ∀ r s : List Str, PyData.eqvAll (r.map PyData.str) (s.map PyData.str) = decide (r = s)
  | [], [] => rfl
  | [], _ :: _ => rfl
  | _ :: _, [] => rfl
  | x :: r, y :: s => by
    have e : PyData.eqvAll ((x :: r).map PyData.str) ((y :: s).map PyData.str) = ((x == y) && PyData.eqvAll (r.map PyData.str) (s.map PyData.str)) := rfl
    rw [e, eqvAll_strs r s, Bool.eq_iff_iff, Bool.and_eq_true, beq_iff_eq, decide_eq_true_eq, decide_eq_true_eq, List.cons.injEq]
theorem eqvAll_rooms : ∀ r s : List Rm, PyData.eqvAll (r.map dRoom) (s.map dRoom) = decide (r = s)
  | [], [] => rfl
  | [], _ :: _ => rfl
  | _ :: _, [] => rfl
  | x :: r, y :: s => by
    have e : PyData.eqvAll ((x :: r).map dRoom) ((y :: s).map dRoom) = (PyData.eqvAll (x.map PyData.str) (y.map PyData.str) && PyData.eqvAll (r.map dRoom) (s.map dRoom)) := rfl
    rw [e, eqvAll_strs x y, eqvAll_rooms r s, Bool.eq_iff_iff, Bool.and_eq_true, decide_eq_true_eq, decide_eq_true_eq, decide_eq_true_eq, List.cons.injEq]
theorem eqv_tups (r s : List PyData) : (PyData.tuple r).eqv (.tuple s) = PyData.eqvAll r s := rfl
theorem eqv_lsts (r s : List PyData) : (PyData.list r).eqv (.list s) = PyData.eqvAll r s := rfl
theorem lay_rooms : ∀ rs : List Rm, (∀ r ∈ rs, ∀ x ∈ r, PyData.strOk x = true) → PyData.canLayAll0 (rs.map dRoom) = true
  | [], _ => rfl
  | r :: rs, h => by
    have e : PyData.canLayAll0 ((r :: rs).map dRoom) = (PyData.canLayAll0 (r.map PyData.str) && PyData.canLayAll0 (rs.map dRoom)) := rfl
    rw [e, lay_strs r (h r List.mem_cons_self), lay_rooms rs fun s hs => h s (List.mem_cons_of_mem _ hs)]
    rfl
theorem depth_rooms : ∀ rs : List Rm, PyData.depthAll (rs.map dRoom) ≤ 2
  | [] => by decide
  | r :: rs => by
    have h : PyData.depthAll ((r :: rs).map dRoom) = max (PyData.depthAll (r.map PyData.str) + 1) (PyData.depthAll (rs.map dRoom)) := rfl
    rw [h]
    have := depth_strs r
    exact Nat.max_le.mpr ⟨by omega, depth_rooms rs⟩
theorem shapedT {l : List PyData} (h1 : PyData.canLayAll0 l = true) (h2 : PyData.depthAll l ≤ 50) : SeqAt.shaped (.tuple l) = true := by
  unfold SeqAt.shaped
  have h : (PyData.tuple l).canLay0 = PyData.canLayAll0 l := rfl
  have h3 : (PyData.tuple l).depth = PyData.depthAll l + 1 := rfl
  rw [h, h1, h3, Bool.true_and]
  exact decide_eq_true (by omega)
theorem shapedL {l : List PyData} (h1 : PyData.canLayAll0 l = true) (h2 : PyData.depthAll l ≤ 50) : SeqAt.shaped (.list l) = true := by
  unfold SeqAt.shaped
  have h : (PyData.list l).canLay0 = PyData.canLayAll0 l := rfl
  have h3 : (PyData.list l).depth = PyData.depthAll l + 1 := rfl
  rw [h, h1, h3, Bool.true_and]
  exact decide_eq_true (by omega)
theorem shaped_roomsT {rs : List Rm} (h : ∀ r ∈ rs, ∀ x ∈ r, PyData.strOk x = true) : SeqAt.shaped (.tuple (rs.map dRoom)) = true := shapedT (lay_rooms rs h) (by have := depth_rooms rs; omega)
theorem shaped_roomsL {rs : List Rm} (h : ∀ r ∈ rs, ∀ x ∈ r, PyData.strOk x = true) : SeqAt.shaped (.list (rs.map dRoom)) = true := shapedL (lay_rooms rs h) (by have := depth_rooms rs; omega)
theorem dp_rooms {K : PySem.W.Frag} {H : Hp} : ∀ rs : List (Addr × Rm), (∀ r ∈ rs, H r.1 = some (.tup (r.2.map V.str))) → DpAll K H (rs.map fun r => V.ref r.1) ((rs.map (·.2)).map dRoom)
  | [], _ => .nil
  | r :: rs, h => .cons (.tup (SqT.of (h r List.mem_cons_self)) (dp_strs r.2)) (dp_rooms rs fun s hs => h s (List.mem_cons_of_mem _ hs))
/-- tuples of texts, != and == -/
theorem strsT_eq {K : PySem.W.Frag} {H : Hp} {a b : Addr} {xs ys : List Str} {Q : VK} (hx : ∀ x ∈ xs, PyData.strOk x = true) (hy : ∀ x ∈ ys, PyData.strOk x = true) (ha : H a = some (.tup (xs.map V.str))) (hb : H b = some (.tup (ys.map V.str))) (k : Q (.bl (!decide (xs = ys))) H) : rNeD K (.ref a) (.ref b) H Q := by
  refine ⟨.tuple (xs.map PyData.str), .tuple (ys.map PyData.str), .tup (SqT.of ha) (dp_strs xs), .tup (SqT.of hb) (dp_strs ys), shapedT (lay_strs xs hx) (by have := depth_strs xs; omega), shapedT (lay_strs ys hy) (by have := depth_strs ys; omega), ?_⟩
  rw [eqv_tups, eqvAll_strs]
  exact k
/-- tuples of ints that are the same -/
theorem eqvAll_self_ints : ∀ r : List Int, PyData.eqvAll (r.map PyData.int) (r.map PyData.int) = true
  | [] => rfl
  | x :: r => by
    have e : PyData.eqvAll ((x :: r).map PyData.int) ((x :: r).map PyData.int) = ((x == x) && PyData.eqvAll (r.map PyData.int) (r.map PyData.int)) := rfl
    rw [e, eqvAll_self_ints r, beq_self_eq_true]
    rfl
theorem intsT_self {K : PySem.W.Frag} {H : Hp} {a b : Addr} {xs : List Int} {Q : VK} (ha : H a = some (.tup (xs.map V.int))) (hb : H b = some (.tup (xs.map V.int))) (k : Q (.bl true) H) : rEqD K (.ref a) (.ref b) H Q := by
  refine ⟨.tuple (xs.map PyData.int), .tuple (xs.map PyData.int), .tup (SqT.of ha) (dp_ints xs), .tup (SqT.of hb) (dp_ints xs), shapedT (lay_ints xs) (by have := depth_ints xs; omega), shapedT (lay_ints xs) (by have := depth_ints xs; omega), ?_⟩
  rw [eqv_tups, eqvAll_self_ints]
  exact k
/-! ### triples -/
def dTrip (c : Nat × Nat × Str) : PyData := .tuple [.int (c.1 : Int), .int (c.2.1 : Int), .str c.2.2]
theorem dp_trips {K : PySem.W.Frag} {H : Hp} : ∀ cs : List (Addr × (Nat × Nat × Str)), (∀ c ∈ cs, H c.1 = some (.tup [.int (c.2.1 : Int), .int (c.2.2.1 : Int), .str c.2.2.2])) → DpAll K H (cs.map fun c => V.ref c.1) ((cs.map (·.2)).map dTrip)
  | [], _ => .nil
  | c :: cs, h => .cons (.tup (SqT.of (h c List.mem_cons_self)) (.cons (.int _) (.cons (.int _) (.cons (.str _) .nil)))) (dp_trips cs fun s hs => h s (List.mem_cons_of_mem _ hs))
theorem lay_trips : ∀ cs : List (Nat × Nat × Str), (∀ c ∈ cs, PyData.strOk c.2.2 = true) → PyData.canLayAll0 (cs.map dTrip) = true
  | [], _ => rfl
  | c :: cs, h => by
    have e : PyData.canLayAll0 ((c :: cs).map dTrip) = ((PyData.strOk c.2.2 && true) && PyData.canLayAll0 (cs.map dTrip)) := rfl
    rw [e, h c List.mem_cons_self, lay_trips cs fun s hs => h s (List.mem_cons_of_mem _ hs)]
    rfl
theorem depth_trips : ∀ cs : List (Nat × Nat × Str), PyData.depthAll (cs.map dTrip) ≤ 2
  | [] => by decide
  | c :: cs => by
    have h : PyData.depthAll ((c :: cs).map dTrip) = max (dTrip c).depth (PyData.depthAll (cs.map dTrip)) := rfl
    rw [h]
    exact Nat.max_le.mpr ⟨Nat.le_of_ble_eq_true rfl, depth_trips cs⟩
theorem eqvAll_trips : ∀ cs : List (Nat × Nat × Str), PyData.eqvAll (cs.map dTrip) (cs.map dTrip) = true
  | [] => rfl
  | c :: cs => by
    have e : PyData.eqvAll ((c :: cs).map dTrip) ((c :: cs).map dTrip) = ((((c.1 : Int) == (c.1 : Int)) && (((c.2.1 : Int) == (c.2.1 : Int)) && ((c.2.2 == c.2.2) && true))) && PyData.eqvAll (cs.map dTrip) (cs.map dTrip)) := rfl
    rw [e, eqvAll_trips cs, beq_self_eq_true, beq_self_eq_true, beq_self_eq_true]
    rfl
theorem tripsT_ne {K : PySem.W.Frag} {H : Hp} {a b : Addr} {cs ds : List (Addr × (Nat × Nat × Str))} {Q : VK} (hs : ∀ c ∈ cs.map (·.2), PyData.strOk c.2.2 = true) (e : cs.map (·.2) = ds.map (·.2))
    (ha : H a = some (.tup (cs.map fun c => V.ref c.1))) (hb : H b = some (.tup (ds.map fun c => V.ref c.1)))
    (h1 : ∀ c ∈ cs, H c.1 = some (.tup [.int (c.2.1 : Int), .int (c.2.2.1 : Int), .str c.2.2.2])) (h2 : ∀ c ∈ ds, H c.1 = some (.tup [.int (c.2.1 : Int), .int (c.2.2.1 : Int), .str c.2.2.2])) (k : Q (.bl false) H) : rNeD K (.ref a) (.ref b) H Q := by
  have sh := shapedT (lay_trips _ hs) (by have := depth_trips (cs.map (·.2)); omega)
  refine ⟨.tuple ((cs.map (·.2)).map dTrip), .tuple ((ds.map (·.2)).map dTrip), .tup (SqT.of ha) (dp_trips cs h1), .tup (SqT.of hb) (dp_trips ds h2), sh, by rw [← e]; exact sh, ?_⟩
  rw [← e, eqv_tups, eqvAll_trips]
  exact k
/-- tuples of rooms -/
theorem roomsT_ne {K : PySem.W.Frag} {H : Hp} {a b : Addr} {rs qs : List (Addr × Rm)} {Q : VK} (o1 : ∀ r ∈ rs.map (·.2), ∀ x ∈ r, PyData.strOk x = true) (o2 : ∀ r ∈ qs.map (·.2), ∀ x ∈ r, PyData.strOk x = true)
    (ha : H a = some (.tup (rs.map fun r => V.ref r.1))) (hb : H b = some (.tup (qs.map fun r => V.ref r.1))) (h1 : ∀ r ∈ rs, H r.1 = some (.tup (r.2.map V.str))) (h2 : ∀ r ∈ qs, H r.1 = some (.tup (r.2.map V.str)))
    (k : Q (.bl (!decide (rs.map (·.2) = qs.map (·.2)))) H) : rNeD K (.ref a) (.ref b) H Q := by
  refine ⟨.tuple ((rs.map (·.2)).map dRoom), .tuple ((qs.map (·.2)).map dRoom), .tup (SqT.of ha) (dp_rooms rs h1), .tup (SqT.of hb) (dp_rooms qs h2), shaped_roomsT o1, shaped_roomsT o2, ?_⟩
  rw [eqv_tups, eqvAll_rooms]
  exact k
theorem roomsT_eq {K : PySem.W.Frag} {H : Hp} {a b : Addr} {rs qs : List (Addr × Rm)} {Q : VK} (o1 : ∀ r ∈ rs.map (·.2), ∀ x ∈ r, PyData.strOk x = true) (o2 : ∀ r ∈ qs.map (·.2), ∀ x ∈ r, PyData.strOk x = true)
    (ha : H a = some (.tup (rs.map fun r => V.ref r.1))) (hb : H b = some (.tup (qs.map fun r => V.ref r.1))) (h1 : ∀ r ∈ rs, H r.1 = some (.tup (r.2.map V.str))) (h2 : ∀ r ∈ qs, H r.1 = some (.tup (r.2.map V.str)))
    (k : Q (.bl (decide (rs.map (·.2) = qs.map (·.2)))) H) : rEqD K (.ref a) (.ref b) H Q := by
  refine ⟨.tuple ((rs.map (·.2)).map dRoom), .tuple ((qs.map (·.2)).map dRoom), .tup (SqT.of ha) (dp_rooms rs h1), .tup (SqT.of hb) (dp_rooms qs h2), shaped_roomsT o1, shaped_roomsT o2, ?_⟩
  rw [eqv_tups, eqvAll_rooms]
  exact k
end RK


set_option Elab.async false
set_option linter.all false
set_option maxRecDepth 100000
/-! methods by keywords; an own == -/
namespace RK
open PySem PySem.Spec PyProof.Rows L2
/-- an instance as the heap has it -/
theorem ins_look {P : Program} {w : World} {H : Hp} {h : Heap} {a C dx : Addr} {fs : List (Str × V)} (o : ObjOk P w H h a (.ins C dx fs)) : ∃ od, PySem.W.InstAt h a (PySem.W.instObj C dx) C (some od) ∧ ∀ m, fs.lookup m = none → PySem.W.lookIn m od = some none := by
  obtain ⟨-, -, hne, hget, mA, hns, hrel, -⟩ := o
  obtain ⟨od, hi, hl⟩ := (ObjM.mk hget hns hne).look
  refine ⟨od, hi, fun m hm => ?_⟩
  have := hrel m
  rw [hm] at this
  rw [hl m]
  cases e : mA m with
  | none => rfl
  | some v =>
    rw [e] at this
    exact this.elim
def tMethK (C : Addr) (m : Str) (sp : Sp) (gV : List V → List V → List V) (E : XK) (ta : TE) (tk : TA) : TE := fun σ H Q => ta σ H fun x H1 => ∃ a dx fs, x = .ref a ∧ H1 a = some (.ins C dx fs) ∧ fs.lookup m = none ∧ tk σ H1 fun zs H2 => sp (gV [x] zs) H2 Q E
section
variable {X : Cx} {CXt : CXT} {k : Nat} {f C : Addr} {fd : FuncData} {ps ks : List Str} {sp : Sp} {m : Str} {pos apos : Pos} {o : Expr} {ta : TE} {kws : List Keyword} {tk : TA}
  {g : List Value → List Value → List Value} {gV : List V → List V → List V}
theorem pe_methK {E : XK} {pl : Sem Bool} (he : PE X o ta) (c : Cls X.K C) (hm : Meth X.K C m f) (F : FnOk X.prog X.w X.K X.mg X.base CXt k f fd ps sp) (hr : Room k X.A) (hb : KBinds X.K fd ps ks g gV) (hx : Passes CXt X E) (hkw : PK X kws tk)
    (ht : eval (.Call (.Attribute o m apos) [] kws pos) X.env = (do
      let ov ← eval o X.env
      standAt apos.atName
      let (f, first) ← holding [ov] (getMethod ov m pl)
      callWith pos f first (backTo pos (starEach [] X.env)) (backToKw pos (keywordEach kws X.env))) := by rfl)
    (hall : (backToKw pos (keywordEach kws X.env)).all (·.1.isSome) = true := by rfl)
    (hks : (backToKw pos (keywordEach kws X.env)).filterMap (·.1) = ks := by rfl)
    (hpl : ((backTo pos (starEach [] X.env)).any (·.1) || (backToKw pos (keywordEach kws X.env)).any (·.1.isNone)) = false := by rfl) :
    PE X (.Call (.Attribute o m apos) [] kws pos) (tMethK C m sp gV E ta tk) := ⟨fun pins s σ H Q I h => by
  rw [ht]
  refine wpAny_bind (thn (he.run pins s σ H _ I h) fun u s1 ⟨x, H1, I1, rx, a, dx, fs, ex, ha, hl, h2⟩ => ?_)
  subst ex
  cases (show u = Value.ref a from rx)
  obtain ⟨od, hi, hlk⟩ := ins_look (I1.hok a _ ha)
  have pg := c.pg
  unfold PySem.W.plainGet at pg
  rw [Bool.and_eq_true, beq_iff_eq, beq_iff_eq] at pg
  refine wpAny_bind (wpAny_standAt (wpAny_bind (wpAny_holding (PySem.W.method_fn I1.kIn hi pg.1 pg.2 hm.at_ ?_ ?_ ?_))))
  · exact beq_iff_eq.mp hm.fn
  · show Option.map (fun x => x.isSome) (PySem.W.lookIn m od) = some false
    rw [hlk m hl]
    rfl
  · refine PySem.W.callWith_KW0 (h₀ := X.base) I1.ok.mod.kin hm.kp hall ?_ hpl
    refine thn (hkw.run pos pins s1 σ H1 _ I1 h2) fun ws s2 ⟨zs, H2, I2, rz, q2⟩ => ⟨I2.kIn, ?_⟩
    rw [hks]
    exact run_fnk F hr hb hx I2 (.cons (show RelV (.ref a) (Value.ref a) from rfl) .nil) rz q2⟩
end
/-- a method called by keywords alone, in one piece -/
structure Cmk (P : Program) (w : World) (K : PySem.W.Frag) (mg : Str → Option Value) (base : Heap) (CXt : CXT) (k : Nat) (C : Addr) (m : Str) (ps ks : List Str) (gV : List V → List V → List V) (sp : Sp) : Prop where
  ex : ∃ (f : Addr) (fd : FuncData) (g : List Value → List Value → List Value), FnOk P w K mg base CXt k f fd ps sp ∧ Meth K C m f ∧ KBinds K fd ps ks g gV
def kwApp {α : Type} : List α → List α → List α
  | [a], ws => a :: ws
  | _, _ => []
theorem kwApp_rel {vs : List V} {us : List Value} {zs : List V} {ws : List Value} (r : Vals vs us) (rz : Vals zs ws) : Vals (kwApp vs zs) (kwApp us ws) := by
  cases r with
  | nil => exact .nil
  | cons a r => cases r with
    | nil => exact .cons a rz
    | cons _ _ => exact .nil
theorem pe_mk {X : Cx} {CXt : CXT} {j k : Nat} {C : Addr} {ps ks : List Str} {sp : Sp} {m : Str} {pos apos : Pos} {o : Expr} {ta : TE} {kws : List Keyword} {tk : TA} {gV : List V → List V → List V} {E : XK} {pl : Sem Bool}
    (c : Cmk X.prog X.w X.K X.mg X.base CXt k C m ps ks gV sp) (cl : Cls X.K C) (hr : Room j X.A) (hk : k ≤ j) (hx : Passes CXt X E) (he : PE X o ta) (hkw : PK X kws tk)
    (ht : eval (.Call (.Attribute o m apos) [] kws pos) X.env = (do
      let ov ← eval o X.env
      standAt apos.atName
      let (f, first) ← holding [ov] (getMethod ov m pl)
      callWith pos f first (backTo pos (starEach [] X.env)) (backToKw pos (keywordEach kws X.env))) := by rfl)
    (hall : (backToKw pos (keywordEach kws X.env)).all (·.1.isSome) = true := by rfl)
    (hks : (backToKw pos (keywordEach kws X.env)).filterMap (·.1) = ks := by rfl)
    (hpl : ((backTo pos (starEach [] X.env)).any (·.1) || (backToKw pos (keywordEach kws X.env)).any (·.1.isNone)) = false := by rfl) :
    PE X (.Call (.Attribute o m apos) [] kws pos) (tMethK C m sp gV E ta tk) := by
  obtain ⟨f, fd, g, F, M, b⟩ := c.ex
  exact pe_methK he cl M F (hr.mono hk) b hx hkw ht hall hks hpl
end RK


set_option Elab.async false
set_option linter.all false
set_option maxRecDepth 100000
/-! an own == and what != makes of it -/
namespace RK
open PySem PySem.Spec PyProof.Rows L2
/-- what a value's type is, of the kinds that are met -/
inductive TyO (H : Hp) : V → Value → Prop
  | non : TyO H .non (.type "NoneType")
  | int (i : Int) : TyO H (.int i) (.type "int")
  | str (x : Str) : TyO H (.str x) (.type "str")
  | tup {a : Addr} {xs : List V} (h : H a = some (.tup xs)) : TyO H (.ref a) (.type "tuple")
  | lst {a : Addr} {xs : List V} (h : H a = some (.lst xs)) : TyO H (.ref a) (.type "list")
  | ins {a C dx : Addr} {fs : List (Str × V)} (h : H a = some (.ins C dx fs)) : TyO H (.ref a) (.ref C)
theorem TyO.looks {P : Program} {w : World} {H : Hp} {h : Heap} {v : V} {T u : Value} {M : Model} (ok : HOk P w H h) (t : TyO H v T) (r : RelV v u) : PySem.W.Looks M h (typeOf u) T := by
  cases t with
  | non =>
    cases (show u = .none from r)
    exact fun A Q E s _ q => wpAny_of_eq (a := Value.type "NoneType") (by rfl) q
  | int i =>
    obtain ⟨t, rfl⟩ : ∃ t, u = .int i t := r
    exact fun A Q E s _ q => wpAny_of_eq (a := Value.type "int") (by rfl) q
  | str x =>
    obtain ⟨t, rfl⟩ : ∃ t, u = .str x t := r
    exact fun A Q E s _ q => wpAny_of_eq (a := Value.type "str") (by rfl) q
  | @tup a xs e =>
    cases (show u = .ref a from r)
    have o := ok a _ e
    obtain ⟨_, items, _, hg⟩ := o
    obtain ⟨o, e, c, _⟩ := isTup_at hg
    exact PySem.W.kitAt_ty M h ⟨o, e, c⟩
  | @lst a xs e =>
    cases (show u = .ref a from r)
    have o := ok a _ e
    obtain ⟨_, items, n, _, hg⟩ := o
    exact PySem.W.kitAt_ty M h ⟨_, hg, rfl⟩
  | @ins a C dx fs e =>
    cases (show u = .ref a from r)
    obtain ⟨od, hi, _⟩ := ins_look (ok a _ e)
    exact hi.type
/-- x == y by x's own __eq__ -/
def rOwnEq (K : PySem.W.Frag) (C : Addr) (sp : Sp) (E : XK) (neg : Bool) : R2 := fun x y H Q => ∃ (a dx : Addr) (fs : List (Str × V)) (T : Value), x = .ref a ∧ H a = some (.ins C dx fs) ∧ TyO H y T ∧ PySem.W.notFirst K C T = true ∧
  sp [.ref a, y] H (fun v H' => ∃ b, v = .bl b ∧ Q (.bl (if neg = true then !b else b)) H') E
section
variable {X : Cx} {CXt : CXT} {k : Nat} {f C : Addr} {fd : FuncData} {ps : List Str} {sp : Sp}
theorem op_eqOwn {E : XK} (F : FnOk X.prog X.w X.K X.mg X.base CXt k f fd ps sp) (hr : Room k X.A) (hb : L2.Binds X.K fd ps []) (hx : Passes CXt X E) (hu : X.A.units < cLine)
    (hs : PySem.W.findIn X.K (.ref C) "__eq__" = some (some (.ref f))) (hf : PySem.W.isFn X.K (.ref f) = true) : OpR X (compareOp .Eq) (rOwnEq X.K C sp E false) := by
  intro pins s σ H x y v u Q I rx ry ⟨a, dx, fs, T, ex, ha, hT, hn, q⟩
  subst ex
  cases (show v = Value.ref a from rx)
  obtain ⟨od, hi, _⟩ := ins_look (I.hok a _ ha)
  obtain ⟨m, fr⟩ := I.fr
  refine PySem.W.cmp_ofEq (PySem.W.cmp_K hu fr I.ok.mod.kin hi (hT.looks I.hok ry) hn hs hf ?_)
  refine thn (run_fn (vs := [.ref a, y]) (Q := fun v H' => ∃ b, v = .bl b ∧ Q (.bl (if false = true then !b else b)) H') F hr hb .nil hx I (.cons rx (.cons ry .nil)) (by simpa using q)) fun z s2 ⟨vz, H2, I2, rz, b, ez, q2⟩ => ?_
  subst ez
  cases (show z = Value.bool b from rz)
  exact ⟨.bl b, H2, I2, rfl, q2⟩
end
end RK


set_option Elab.async false
set_option linter.all false
set_option maxRecDepth 100000
/-! what != makes of an own == -/
namespace RK
open PySem PySem.Spec PyProof.Rows L2
open PySem.W PySem.Calls in
theorem cmp_neOwn {prog : Program} {w : World} {A : Around} {E : Value → Shared → Prop} {Q : Value → Shared → Prop} {s : Shared} {K : Frag} {x C f : Addr} {ox : Obj} {od : Option Obj} {b tb : Value} (hu : A.units + 1 < cLine) (X : K.In s.heap) (I : InstAt s.heap x ox C od)
    (lt : Looks (model prog w) s.heap (typeOf b) tb) (hn : notFirst K C tb = true) (hne : findIn K (.ref C) "__ne__" = some (some (.builtin "object.__ne__"))) (heq : findIn K (.ref C) "__eq__" = some (some (.ref f)))
    (hf : typeIn K (.ref f) = some (.type "function")) (so : subIn K (.ref C) (.type "object") = some true)
    (h : wpAny (model prog w) A.in1 (call (.ref f) [.ref x, b]) (fun v s' => ∃ k, v = .bool k ∧ Q (.bool !k) s') E s) : wpAny (model prog w) A (richCompare .NotEq (.ref x) b) Q E s := by
  unfold richCompare
  refine wpAny_holding (wpAny_bind (wpAny_cRoomFor (by omega) ?_))
  rw [oneThing_ref]
  dsimp only
  have e : cmpInfo CmpOp.NotEq = ("!=", (Str.ofString "__ne__" : Str), (Str.ofString "__ne__" : Str)) := rfl
  rw [e]
  dsimp only
  obtain ⟨hp, g, dr, t, os⟩ := s
  have core : wpAny (model prog w) A (tryCompare (.ref x) "__ne__" b) (fun r s' => ∃ k, r = some (Value.bool k) ∧ Q (.bool k) s') E ⟨hp, g, dr, t, os⟩ := by
    unfold tryCompare callSpecialIfBound?
    refine wpAny_bind (wpAny_holding ?_)
    unfold bindSpecialIfBound? specialOf
    refine wpAny_bind (wpAny_bind (wpAny_bind (I.type.at ((looks_findIn (M := model prog w) X hne).at ?_))))
    have bd : bindSpecial (.builtin "object.__ne__") (.ref x) = pure (.builtin "object.__ne__", [.ref x]) := PySem.F.slot_object_ne.bind (.ref x)
    have inner : wpAny (model prog w) A (call (.builtin "object.__ne__") [.ref x, b]) (fun v s' => ∃ k, v = .bool k ∧ Q (.bool k) s') E ⟨hp, g, dr, t, os⟩ := by
      have sb : Looks (model prog w) hp (isInstance (.ref x) (.type "object")) true := (I.type (M := model prog w)).andThen (looks_subIn X so)
      refine wpAny_call (codeAny_call_builtin (by decide +kernel) PySem.F.entry_object_ne
        (@check_slot (model prog w) _ _ ⟨hp, g, dr, t, os⟩ "object.__ne__" "object" "__ne__" (.ref x) [b] [] _ (by decide +kernel) (by decide +kernel) sb (PySem.F.args_object_ne_2 (.ref x) b) ?_))
      unfold Builtin.«object.__ne__»
      refine wpAny_bind (wpAny_of_eq (a := ((Value.ref x : Value), [b])) (by first | rfl | (simp only [slotArgs]; rfl)) ?_)
      dsimp only
      refine wpAny_bind (wpAny_cRoomFor hu (wpAny_bind (ifBound_K X I heq (beq_iff_eq.mpr hf) (thn h fun v s' ⟨k, hv, hq⟩ => ?_))))
      subst hv
      dsimp only
      refine wpAny_bind (wpAny_of_eq (a := k) (by rfl) ?_)
      exact wpAny_pure ⟨!k, rfl, hq⟩
    dsimp only
    rw [bd]
    refine wpAny_bind (wpAny_askSetting (wpAny_ite_split (fun _ => ?_) (fun _ => ?_)))
    · refine wpAny_of_eq (a := some (Value.builtin "object.__ne__", [Value.ref x])) (by rfl) ?_
      refine wpAny_bind (thn inner fun v s' ⟨k, hv, hq⟩ => ?_)
      subst hv
      exact wpAny_pure (wpAny_pure ⟨k, rfl, hq⟩)
    · refine wpAny_of_eq (a := some (Value.builtin "object.__ne__", [Value.ref x])) (by rfl) ?_
      refine wpAny_bind (thn inner fun v s' ⟨k, hv, hq⟩ => ?_)
      subst hv
      exact wpAny_pure (wpAny_pure ⟨k, rfl, hq⟩)
  have fin : ∀ {R : Option Value → Sem Value}, (∀ v, R (some v) = pure v) → wpAny (model prog w) A (tryCompare (.ref x) "__ne__" b >>= R) Q E ⟨hp, g, dr, t, os⟩ := fun {R} hR => by
    refine wpAny_bind (thn core fun r s' ⟨k, hr, hq⟩ => ?_)
    subst hr
    rw [hR]
    exact wpAny_pure hq
  refine wpAny_bind (I.type.at (wpAny_bind (lt.at ?_)))
  unfold notFirst at hn
  by_cases ht : tb = .ref C
  · subst ht
    rw [if_neg (by simp)]
    refine wpAny_bind (wpAny_pure ?_)
    rw [if_neg Bool.false_ne_true]
    exact fin fun _ => rfl
  · have hs : subIn K tb (.ref C) = some false := by
      rw [Bool.or_eq_true, beq_iff_eq, beq_iff_eq] at hn
      exact hn.resolve_left ht
    rw [if_pos (by simp; exact fun z => ht z.symm)]
    refine wpAny_bind ((looks_subIn (M := model prog w) X hs).at ?_)
    rw [if_neg Bool.false_ne_true]
    exact fin fun _ => rfl
section
variable {X : Cx} {CXt : CXT} {k : Nat} {f C : Addr} {fd : FuncData} {ps : List Str} {sp : Sp}
theorem op_neOwn {E : XK} (F : FnOk X.prog X.w X.K X.mg X.base CXt k f fd ps sp) (hr : Room (k + 1) X.A) (hb : L2.Binds X.K fd ps []) (hx : Passes CXt X E)
    (hne : PySem.W.findIn X.K (.ref C) "__ne__" = some (some (.builtin "object.__ne__"))) (hs : PySem.W.findIn X.K (.ref C) "__eq__" = some (some (.ref f))) (hf : PySem.W.isFn X.K (.ref f) = true)
    (so : PySem.W.subIn X.K (.ref C) (.type "object") = some true) : OpR X (compareOp .NotEq) (rOwnEq X.K C sp E true) := by
  intro pins s σ H x y v u Q I rx ry ⟨a, dx, fs, T, ex, ha, hT, hn, q⟩
  subst ex
  cases (show v = Value.ref a from rx)
  obtain ⟨od, hi, _⟩ := ins_look (I.hok a _ ha)
  obtain ⟨m, fr⟩ := I.fr
  have r1 : Room k X.A.in1 := ⟨hr.hd, by have := hr.dp; show X.A.depth + 3 * k + 5 < _; omega, by have := hr.un; show X.A.units + 1 + 16 * k + 200 < _; omega⟩
  have hu1 : X.A.units + 1 < cLine := by have := hr.un; omega
  refine PySem.W.cmp_ofNotEq (cmp_neOwn hu1 I.kIn hi (hT.looks I.hok ry) hn hne hs (beq_iff_eq.mp hf) so ?_)
  have e0 : Env0 X.prog X.w X.K X.mg X.base X.A.in1 X.stack s H := by
    have := I.env0
    exact ⟨this.frames, this.mod, this.bs, this.bsz, this.funs, this.frf, this.hok, this.bare⟩
  have hv : Vals [.ref a, y] [Value.ref a, u] := .cons rx (.cons ry .nil)
  have hl : ([Value.ref a, u] ++ []).length = ps.length := F.len _ _ _ _ q
  have b := hb s [Value.ref a, u] I.kIn hl
  refine wpAny_call (codeAny_mono (F.run X.A.in1 X.stack s H ⟨[Value.ref a, u], []⟩ ([Value.ref a, u] ++ []) [.ref a, y] _ E r1 e0 b hv q) ?_)
  intro r s' hq
  match r, hq with
  | .error e, hq => exact hx pins σ H s e s' I hq
  | .ok (.ret z), hq =>
    obtain ⟨vz, H2, I2, rz, k, ez, q2⟩ := I.after hq
    subst ez
    cases (show z = Value.bool k from rz)
    exact ⟨k, rfl, .bl (!k), H2, I2, rfl, q2⟩
end
end RK
namespace RK
open PySem PySem.Spec PyProof.Rows L2
/-- a class's own == (and no !=), in one piece -/
structure Ce (P : Program) (w : World) (K : PySem.W.Frag) (mg : Str → Option Value) (base : Heap) (CXt : CXT) (k : Nat) (C : Addr) (ps : List Str) (sp : Sp) : Prop where
  ex : ∃ (f : Addr) (fd : FuncData), FnOk P w K mg base CXt k f fd ps sp ∧ L2.Binds K fd ps [] ∧ PySem.W.findIn K (.ref C) "__eq__" = some (some (.ref f)) ∧ PySem.W.isFn K (.ref f) = true ∧
    PySem.W.findIn K (.ref C) "__ne__" = some (some (.builtin "object.__ne__")) ∧ PySem.W.subIn K (.ref C) (.type "object") = some true
section
variable {X : Cx} {CXt : CXT} {j k : Nat} {C : Addr} {ps : List Str} {sp : Sp} {E : XK}
theorem op_eqO (c : Ce X.prog X.w X.K X.mg X.base CXt k C ps sp) (hr : Room j X.A) (hk : k + 1 ≤ j) (hx : Passes CXt X E) : OpR X (compareOp .Eq) (rOwnEq X.K C sp E false) := by
  obtain ⟨f, fd, F, b, h1, h2, _, _⟩ := c.ex
  exact op_eqOwn F (hr.mono (by omega)) b hx (by have := hr.un; omega) h1 h2
theorem op_neO (c : Ce X.prog X.w X.K X.mg X.base CXt k C ps sp) (hr : Room j X.A) (hk : k + 1 ≤ j) (hx : Passes CXt X E) : OpR X (compareOp .NotEq) (rOwnEq X.K C sp E true) := by
  obtain ⟨f, fd, F, b, h1, h2, h3, h4⟩ := c.ex
  exact op_neOwn F (hr.mono hk) b hx h3 h1 h2 h4
end
end RK


set_option Elab.async false
set_option linter.all false
set_option maxRecDepth 100000
/-! rooms in another sequence, fewer rooms, a room with another outcome -/
namespace RK
open PySem PySem.Spec PyProof.Rows L2
/-- no two outcomes in common -/
def Sh (r s : Rm) : Prop := ∀ x ∈ r, ∀ y ∈ r, x ∈ s → y ∈ s → x = y
theorem Sh.symm {r s : Rm} (h : Sh r s) : Sh s r := fun x hx y hy xr yr => h x xr y yr hx hy
theorem sh_of {r s : Rm} (h : (common s r).length ≤ 1) : Sh r s := fun x hx y hy xs ys => by
  have h1 : x ∈ common s r := List.mem_filter.mpr ⟨xs, decide_eq_true hx⟩
  have h2 : y ∈ common s r := List.mem_filter.mpr ⟨ys, decide_eq_true hy⟩
  match e : common s r, h, h1, h2 with
  | [], _, h1, _ => exact absurd h1 List.not_mem_nil
  | [z], _, h1, h2 => rw [List.mem_singleton.mp h1, List.mem_singleton.mp h2]
  | _ :: _ :: _, h, _, _ => simp at h
theorem of_sh {r s : Rm} (nd : s.Nodup) (h : Sh r s) : (common s r).length ≤ 1 :=
  len_one (List.Nodup.sublist List.filter_sublist nd) fun x hx y hy => by
    rw [common, List.mem_filter, decide_eq_true_eq] at hx hy
    exact h x hx.2 y hy.2 hx.1 hy.1
/-- rooms, but for the number of their outcomes -/
structure Rms (rs : List Rm) : Prop where
  ok : ∀ r ∈ rs, RoomOk r
  one : rs.Pairwise Sh
theorem RoomsOk.rms {rs : List Rm} (h : RoomsOk rs) : Rms rs := ⟨h.ok, h.one.imp sh_of⟩
theorem Rms.ok' {rs : List Rm} {names : List Str} (h : Rms rs) (h1 : 1 ≤ rs.length) (h2 : rs.length ≤ 10) (hn : names.length ≤ 24) (hs : ∀ r ∈ rs, ∀ x ∈ r, x ∈ names) : RoomsOk rs := by
  refine ⟨⟨h1, h2⟩, h.ok, ?_, ?_⟩
  · refine List.Pairwise.imp_of_mem (fun {a b} _ hb hab => of_sh (h.ok b hb).2.2.2.nodup hab) h.one
  · refine Nat.le_trans (nodup_sub_len (nodup_firsts _) fun x hx => ?_) hn
    obtain ⟨r, hr, hxr⟩ := mem_outsOf.mp hx
    exact hs r hr x hxr
theorem Rms.perm {rs qs : List Rm} (h : Rms rs) (p : qs.Perm rs) : Rms qs :=
  ⟨fun r hr => h.ok r (p.mem_iff.mp hr), (p.pairwise_iff fun {a b} => Sh.symm).mpr h.one⟩
theorem Rms.sub {rs qs : List Rm} (h : Rms rs) (p : qs.Sublist rs) : Rms qs := ⟨fun r hr => h.ok r (p.mem hr), h.one.sublist p⟩
/-- one room exchanged for one that has the new outcome, and else only what it had -/
theorem Rms.put {a b : List Rm} {r s : Rm} {f : Str} (h : Rms (a ++ r :: b)) (hs : RoomOk s) (hf : ∀ q ∈ a ++ b, f ∉ q) (hsub : ∀ x ∈ s, x = f ∨ x ∈ r) : Rms (a ++ s :: b) := by
  have hsh : ∀ q ∈ a ++ b, Sh q r → Sh q s := fun q hq hqr x hx y hy xs ys => by
    rcases hsub x xs with e | xr
    · exact absurd (e ▸ hx) (hf q hq)
    · rcases hsub y ys with e | yr
      · exact absurd (e ▸ hy) (hf q hq)
      · exact hqr x hx y hy xr yr
  have h1 := List.pairwise_append.mp h.one
  have h2 := List.pairwise_cons.mp h1.2.1
  refine ⟨fun q hq => ?_, List.pairwise_append.mpr ⟨h1.1, List.pairwise_cons.mpr ⟨fun q hq => ?_, h2.2⟩, fun p hp q hq => ?_⟩⟩
  · rcases List.mem_append.mp hq with hq | hq
    · exact h.ok q (List.mem_append.mpr (.inl hq))
    · rcases List.mem_cons.mp hq with e | hq
      · rw [e]; exact hs
      · exact h.ok q (List.mem_append.mpr (.inr (List.mem_cons_of_mem _ hq)))
  · exact (hsh q (List.mem_append.mpr (.inr hq)) (h2.1 q hq).symm).symm
  · rcases List.mem_cons.mp hq with e | hq
    · rw [e]
      exact hsh p (List.mem_append.mpr (.inl hp)) (h1.2.2 p hp r List.mem_cons_self)
    · exact h1.2.2 p hp q (List.mem_cons_of_mem _ hq)
/-- a room with another outcome, sorted -/
theorem room_put {a b r : List Str} {f : Str} {s : Rm} (hr : RoomOk r) (hab : ∀ x ∈ a ++ b, x ∈ r) (nd : (a ++ b).Nodup) (hf : f ∉ r) (hn : NameOk f) (h3 : 2 ≤ (a ++ b).length) (h5 : (a ++ b).length ≤ 4) (hp : s.Perm (a ++ [f] ++ b)) (hs : sortedS s = true) : RoomOk s := by
  have hpp : (a ++ [f] ++ b).Perm (f :: (a ++ b)) := by
    rw [List.append_assoc]
    exact List.perm_middle
  have hp2 := hp.trans hpp
  have hl := hp2.length_eq
  rw [List.length_cons] at hl
  refine ⟨by omega, by omega, fun x hx => ?_, asc_of hs (hp2.nodup_iff.mpr (List.nodup_cons.mpr ⟨fun z => hf (hab f z), nd⟩))⟩
  rcases List.mem_cons.mp (hp2.mem_iff.mp hx) with e | hx
  · rw [e]; exact hn
  · exact hr.2.2.1 x (hab x hx)
end RK


set_option Elab.async false
set_option linter.all false
set_option maxRecDepth 100000
/-! sorted of a tuple of texts -/
namespace RK
open PySem PySem.Spec PyProof.Rows L2
/-- the same, one builtin deeper -/
def Cx.dn (X : Cx) : Cx := { X with A := X.A.in1 }
theorem ok_dn {X : Cx} (o : X.Ok) : (Cx.dn X).Ok :=
  ⟨o.mod, o.kind, o.glob, o.blt, o.above, o.inj, o.has, o.cab, o.hd, o.frames, o.stk, o.exf, o.bs, o.bsz, o.noex, o.exfs, o.funs, o.frf⟩
theorem inv_dn {X : Cx} {pins : List (Addr × Obj)} {σ : L2.St} {H : Hp} {s : Shared} (I : L2.Inv X pins σ H s) : L2.Inv (Cx.dn X) pins σ H s :=
  ⟨ok_dn I.ok, I.os, I.bare, I.base, I.loc, I.cell, I.free, I.freeC, I.pin, I.hok, I.len⟩
theorem inv_up {X : Cx} {pins : List (Addr × Obj)} {σ : L2.St} {H : Hp} {s : Shared} (o : X.Ok) (I : L2.Inv (Cx.dn X) pins σ H s) : L2.Inv X pins σ H s :=
  ⟨o, I.os, I.bare, I.base, I.loc, I.cell, I.free, I.freeC, I.pin, I.hok, I.len⟩
def rSortedTS (K : PySem.W.Frag) : List V → Hp → VK → Prop := fun vs H Q => ∃ (a : Addr) (xs : List Str), vs = [V.ref a] ∧ SqT K H a (xs.map V.str) ∧ xs.length < 64 ∧ ∀ (ys : List Str) (p : Addr), ys.Perm xs → sortedS ys = true → H p = none → Q (.ref p) (upd H p (.lst (ys.map V.str)))
theorem cr_sortedTS {X : Cx} : CallR X (.builtin "sorted") (rSortedTS X.K) := by
  intro pins s σ H xs us Q I r h
  obtain ⟨a, ys, rfl, ha, hl, k⟩ := h
  cases r with
  | @cons _ u1 _ us1 r1 r2 =>
  cases r2
  cases (show u1 = Value.ref a from r1)
  obtain ⟨its, hv, ⟨o, e, c, n, d⟩, hsz⟩ := I.tuple ha
  have hil : its.toArray.size ≤ sizeLine := by
    have := hv.length
    simp only [List.size_toArray]
    omega
  refine wpAny_call (codeAny_call_builtin (by decide +kernel) PyProof.Rows.entry_sorted (wpAny_of_eq (a := ()) (by rfl) ?_))
  unfold Builtin.sorted
  refine wpAny_bind (wpAny_of_eq (a := ()) (by rfl) (wpAny_bind (wpAny_collect_seq a (T := "tuple") (.inr rfl) e c d (fun h' hk => ?_) hil)))
  have I1 : L2.Inv X pins σ H ⟨h', s.gens, s.drawn, s.toks, s.os⟩ := I.kept hk
  have hp0 := I1.fresh
  have I2 := inv_dn (I1.lnew (t' := s.toks) hv hsz)
  unfold newList
  refine wpAny_bind (wpAny_newObj_type (T := "list") ?_ hil)
  refine wpAny_bind (wpAny_holding ?_)
  have hm := mt_sortS (X := Cx.dn X) pins _ σ _ (.ref h'.objs.size) [] (.ref h'.objs.size) []
    (fun v H2 => v = .non ∧ ∃ zs : List Str, zs.Perm ys ∧ sortedS zs = true ∧ H2 = upd (upd H h'.objs.size (.lst (ys.map V.str))) h'.objs.size (.lst (zs.map V.str))) I2 rfl .nil
    ⟨h'.objs.size, ys, rfl, rfl, upd_same, hl, fun zs hp hs => ⟨rfl, zs, hp, hs, rfl⟩⟩
  refine thn hm fun u s3 ⟨v, H3, I3, rv, _, zs, hp, hs, e3⟩ => ?_
  subst e3
  have e4 : upd (upd H h'.objs.size (.lst (ys.map V.str))) h'.objs.size (.lst (zs.map V.str)) = upd H h'.objs.size (.lst (zs.map V.str)) := by
    funext b
    by_cases eb : b = h'.objs.size
    · rw [eb, upd_same, upd_same]
    · rw [upd_ne eb, upd_ne eb, upd_ne eb]
  rw [e4] at I3
  exact wpAny_pure ⟨.ref h'.objs.size, _, inv_up I.ok I3, rfl, k zs h'.objs.size hp hs hp0⟩
end RK


set_option Elab.async false
set_option linter.all false
set_option maxRecDepth 100000
/-! texts of rooms: lines, words, joined rooms -/
namespace RK
open PySem PySem.Spec PyProof.Rows L2 TL
/-! ### a list of signs, cut at one sign -/
theorem pre_hit {c : Nat} {b : List Nat} : pre [c] (c :: b) = true := by
  show ([c] == [c]) = true
  exact beq_self_eq_true _
theorem pre_miss {c x : Nat} {b : List Nat} (h : ¬ x = c) : pre [c] (x :: b) = false := by
  show ([x] == [c]) = false
  exact beq_eq_false_iff_ne.mpr fun z => h (List.cons.inj z).1
theorem spl_app {c : Nat} {b : List Nat} : ∀ (a acc : List Nat), spl [c] 0 acc (a ++ c :: b) = spl [c] 0 acc a ++ spl [c] 0 [] b
  | [], acc => by
    rw [List.nil_append, spl_hit pre_hit, spl_nil]
    rfl
  | x :: a, acc => by
    by_cases h : x = c
    · subst h
      rw [List.cons_append, spl_hit pre_hit, spl_hit pre_hit, List.cons_append]
      exact congrArg (acc :: ·) (spl_app a [])
    · rw [List.cons_append, spl_miss (pre_miss h), spl_miss (pre_miss h)]
      exact spl_app a (acc ++ [x])
/-- the words between blanks -/
def wl (l : List Nat) : List (List Nat) := (spl [32] 0 [] l).filter fun p => !p.isEmpty
theorem wl_app (a b : List Nat) : wl (a ++ 32 :: b) = wl a ++ wl b := by
  unfold wl
  rw [spl_app, List.filter_append]
theorem wl_nil : wl [] = [] := rfl
theorem wl_cons (b : List Nat) : wl (32 :: b) = wl b := wl_app [] b
theorem wl_word {w : List Nat} (h : w ≠ []) (n : 32 ∉ w) : wl w = [w] := by
  unfold wl
  rw [spl_last1 n, List.nil_append]
  cases w with
  | nil => exact absurd rfl h
  | cons x w => rfl
theorem wl_last (a : List Nat) : wl (a ++ [32]) = wl a := by rw [wl_app, wl_nil, List.append_nil]
/-- what stands behind it is words of its own -/
def Closed (a : List Nat) : Prop := ∀ b, wl (a ++ b) = wl a ++ wl b
theorem closed_nil : Closed [] := fun b => rfl
theorem closed_bl (a : List Nat) : Closed (a ++ [32]) := fun b => by
  rw [List.append_assoc, wl_last]
  exact wl_app a b
theorem wl_rep (b : List Nat) : ∀ k : Nat, wl (List.replicate k 32 ++ b) = wl b
  | 0 => rfl
  | k + 1 => by
    rw [List.replicate_succ, List.cons_append, wl_cons]
    exact wl_rep b k
theorem closed_rep (k : Nat) : Closed (List.replicate k 32) := fun b => by
  have := wl_rep [] k
  rw [List.append_nil] at this
  rw [wl_rep, this]
  rfl
/-- a word and one blank or more behind what is closed -/
theorem closed_add {a w : List Nat} {m : Nat} (ha : Closed a) (h : w ≠ []) (n : 32 ∉ w) (hm : 1 ≤ m) : Closed (a ++ w ++ List.replicate m 32) ∧ wl (a ++ w ++ List.replicate m 32) = wl a ++ [w] ∧ ∃ l, a ++ w ++ List.replicate m 32 = l ++ [32] := by
  obtain ⟨m, rfl⟩ : ∃ k, m = k + 1 := ⟨m - 1, by omega⟩
  have e : a ++ w ++ List.replicate (m + 1) 32 = (a ++ w ++ List.replicate m 32) ++ [32] := by rw [List.replicate_succ', List.append_assoc, List.append_assoc, List.append_assoc]
  refine ⟨by rw [e]; exact closed_bl _, ?_, _, e⟩
  rw [List.append_assoc, ha, List.replicate_succ, wl_app, wl_word h n]
  have := wl_rep [] m
  rw [List.append_nil] at this
  rw [this, wl_nil]
  rfl
/-! ### the same of texts -/
def blS : Str := Str.ofString " "
def nlS : Str := Str.ofString "\n"
theorem tl_bl : tl blS = [32] := by decide +kernel
theorem tl_nl : tl nlS = [10] := by decide +kernel
theorem k_bl : blS.cps.all (· < 256) = true := by decide +kernel
theorem k_nl : nlS.cps.all (· < 256) = true := by decide +kernel
def wdsOf (x : Str) : List Str := (Txt.split x blS).filter fun y => ((y.length : Int) != 0)
theorem words_tl (x : Str) : (wdsOf x).map tl = wl (tl x) := by
  unfold wdsOf wl
  have e := split_spl x blS (by rw [tl_bl]; simp) (kind_ok k_bl)
  rw [tl_bl] at e
  rw [← e, List.filter_map]
  congr 1
  refine List.filter_congr fun y _ => ?_
  have hl := len_tl y
  rw [Bool.eq_iff_iff]
  constructor
  · intro h
    show (!(tl y).isEmpty) = true
    rw [Bool.not_eq_true', List.isEmpty_eq_false_iff]
    intro z
    rw [z] at hl
    rw [hl] at h
    exact absurd h (by decide)
  · intro h
    have h : (!(tl y).isEmpty) = true := h
    rw [Bool.not_eq_true', List.isEmpty_eq_false_iff] at h
    rw [bne_iff_ne]
    intro z
    have : (tl y).length = 0 := by omega
    exact h (List.length_eq_zero_iff.mp this)
theorem spl_len {c : Nat} {p : List Nat} : ∀ (l acc : List Nat), p ∈ spl [c] 0 acc l → p.length ≤ acc.length + l.length
  | [], acc, h => by
    rw [spl_nil, List.mem_singleton] at h
    rw [h]
    omega
  | x :: l, acc, h => by
    by_cases e : x = c
    · subst e
      rw [spl_hit pre_hit] at h
      rcases List.mem_cons.mp h with h | h
      · rw [h]; omega
      · have := spl_len l [] h
        simp only [List.length_nil, List.length_cons] at this ⊢
        omega
    · rw [spl_miss (pre_miss e)] at h
      have := spl_len l (acc ++ [x]) h
      simp only [List.length_append, List.length_cons, List.length_nil] at this ⊢
      omega
theorem part_len {x y : Str} (h : y ∈ Txt.split x blS) : y.length ≤ x.length := by
  have e := split_spl x blS (by rw [tl_bl]; simp) (kind_ok k_bl)
  rw [tl_bl] at e
  have := spl_len (c := 32) (p := tl y) (tl x) [] (by rw [← e]; exact List.mem_map_of_mem h)
  rw [len_tl, len_tl]
  simpa using this
/-- a line of a room -/
structure LineOf (x : Str) (r : Rm) : Prop where
  perm : (wdsOf x).Perm r
  one : 10 ∉ tl x
  len : x.length ≤ 100
theorem name_facts {x : Str} (h : NameOk x) : tl x ≠ [] ∧ 32 ∉ tl x ∧ 10 ∉ tl x := by
  have hl := len_tl x
  refine ⟨fun z => ?_, fun z => ?_, fun z => ?_⟩
  · rw [z] at hl
    have := h.1
    rw [hl] at this
    exact absurd this (by decide)
  · exact absurd (h.2.2 32 z) (by decide)
  · exact absurd (h.2.2 10 z) (by decide)
/-! ### joined rooms -/
theorem join_flat {c : Nat} : ∀ {L : List (List Nat)}, L ≠ [] → L.flatMap (fun p => p ++ [c]) = joinL [c] L ++ [c]
  | [], h => absurd rfl h
  | [p], _ => by
    rw [List.flatMap_cons, List.flatMap_nil, List.append_nil]
    rfl
  | p :: q :: r, _ => by
    rw [List.flatMap_cons, join_flat (L := q :: r) (by simp)]
    show p ++ [c] ++ (joinL [c] (q :: r) ++ [c]) = p ++ ([c] ++ joinL [c] (q :: r)) ++ [c]
    simp
def roomS (r : Rm) : Str := Txt.join blS r
def shownS (rms : List Rm) : Str := Txt.join nlS (rms.map roomS)
theorem tl_roomS (r : Rm) : tl (roomS r) = joinL [32] (r.map tl) := by
  unfold roomS
  rw [join_eq, tl_join, tl_bl]
theorem tl_shownS (rms : List Rm) : tl (shownS rms) = joinL [10] (rms.map fun r => joinL [32] (r.map tl)) := by
  unfold shownS
  rw [join_eq, tl_join, tl_nl, List.map_map]
  congr 1
  exact List.map_congr_left fun r _ => tl_roomS r
theorem mem_joinL {c x : Nat} : ∀ {L : List (List Nat)}, x ∈ joinL [c] L → x = c ∨ ∃ p ∈ L, x ∈ p
  | [], h => absurd h List.not_mem_nil
  | [p], h => .inr ⟨p, List.mem_cons_self, h⟩
  | p :: q :: r, h => by
    have h : x ∈ p ++ ([c] ++ joinL [c] (q :: r)) := h
    rcases List.mem_append.mp h with h | h
    · exact .inr ⟨p, List.mem_cons_self, h⟩
    rcases List.mem_append.mp h with h | h
    · exact .inl (List.mem_singleton.mp h)
    · rcases mem_joinL h with h | ⟨z, hz, hx⟩
      · exact .inl h
      · exact .inr ⟨z, List.mem_cons_of_mem _ hz, hx⟩
theorem wl_join : ∀ {L : List (List Nat)}, (∀ p ∈ L, p ≠ [] ∧ 32 ∉ p) → wl (joinL [32] L) = L
  | [], _ => rfl
  | [p], h => wl_word (h p List.mem_cons_self).1 (h p List.mem_cons_self).2
  | p :: q :: r, h => by
    have e : joinL [32] (p :: q :: r) = p ++ 32 :: joinL [32] (q :: r) := rfl
    rw [e, wl_app, wl_join fun z hz => h z (List.mem_cons_of_mem _ hz), wl_word (h p List.mem_cons_self).1 (h p List.mem_cons_self).2]
    rfl
theorem len_joinL {c m : Nat} : ∀ {L : List (List Nat)}, (∀ p ∈ L, p.length ≤ m) → (joinL [c] L).length ≤ L.length * (m + 1)
  | [], _ => Nat.zero_le _
  | [p], h => by
    have := h p List.mem_cons_self
    show p.length ≤ 1 * (m + 1)
    omega
  | p :: q :: r, h => by
    have h1 := h p List.mem_cons_self
    have ih := len_joinL (c := c) (L := q :: r) fun z hz => h z (List.mem_cons_of_mem _ hz)
    show (p ++ ([c] ++ joinL [c] (q :: r))).length ≤ (r.length + 1 + 1) * (m + 1)
    rw [List.length_append, List.length_append, List.length_singleton]
    have e : (q :: r).length = r.length + 1 := rfl
    rw [e] at ih
    have : (r.length + 1 + 1) * (m + 1) = (r.length + 1) * (m + 1) + (m + 1) := Nat.succ_mul _ _
    omega
theorem roomS_len {r : Rm} (h : RoomOk r) : (roomS r).length ≤ 30 := by
  rw [len_tl, tl_roomS]
  have := len_joinL (c := 32) (m := 5) (L := r.map tl) fun p hp => by
    obtain ⟨x, hx, rfl⟩ := List.mem_map.mp hp
    rw [← len_tl]
    exact (h.2.2.1 x hx).2.1
  rw [List.length_map] at this
  have h5 := h.2.1
  omega
theorem line_roomS {r : Rm} (h : RoomOk r) : LineOf (roomS r) r := by
  have hf : ∀ p ∈ r.map tl, p ≠ [] ∧ 32 ∉ p := fun p hp => by
    obtain ⟨x, hx, rfl⟩ := List.mem_map.mp hp
    exact ⟨(name_facts (h.2.2.1 x hx)).1, (name_facts (h.2.2.1 x hx)).2.1⟩
  have e : wdsOf (roomS r) = r := map_tl_inj (by rw [words_tl, tl_roomS, wl_join hf])
  refine ⟨by rw [e], fun z => ?_, ?_⟩
  · rw [tl_roomS] at z
    rcases mem_joinL z with z | ⟨p, hp, z⟩
    · exact absurd z (by decide)
    · obtain ⟨x, hx, rfl⟩ := List.mem_map.mp hp
      exact (name_facts (h.2.2.1 x hx)).2.2 z
  · have := roomS_len h
    omega
/-- a text of lines -/
def TextOf (x : Str) (rms : List Rm) : Prop := ∃ ls : List Str, Txt.split x nlS = ls ∧ ls.length = rms.length ∧ (∀ (i : Nat) (y : Str) (r : Rm), ls[i]? = some y → rms[i]? = some r → LineOf y r) ∧ x.length ≤ 100000
theorem text_join {ls : List Str} {rms : List Rm} (h0 : ls ≠ []) (hl : ls.length = rms.length) (h10 : ls.length ≤ 10) (h : ∀ (i : Nat) (y : Str) (r : Rm), ls[i]? = some y → rms[i]? = some r → LineOf y r) : TextOf (Txt.join nlS ls) rms := by
  have lo : ∀ y ∈ ls, ∃ r, LineOf y r := fun y hy => by
    obtain ⟨i, hi, e⟩ := List.getElem_of_mem hy
    exact ⟨rms[i]'(by omega), h i y _ (by rw [List.getElem?_eq_getElem hi, e]) (List.getElem?_eq_getElem (by omega))⟩
  refine ⟨ls, split_join tl_nl k_nl h0 fun p hp => ?_, hl, h, ?_⟩
  · obtain ⟨r, hr⟩ := lo p hp
    exact hr.one
  · rw [len_tl, join_eq, tl_join, tl_nl]
    have := len_joinL (c := 10) (m := 100) (L := ls.map tl) fun p hp => by
      obtain ⟨x, hx, rfl⟩ := List.mem_map.mp hp
      obtain ⟨r, hr⟩ := lo x hx
      rw [← len_tl]
      exact hr.len
    rw [List.length_map] at this
    omega
theorem text_shown {rms : List Rm} (h0 : rms ≠ []) (h10 : rms.length ≤ 10) (h : ∀ r ∈ rms, RoomOk r) : TextOf (shownS rms) rms := by
  refine text_join (fun z => h0 (List.map_eq_nil_iff.mp z)) (by rw [List.length_map]) (by rw [List.length_map]; exact h10) fun i y r hy hr => ?_
  rw [List.getElem?_map, hr] at hy
  obtain rfl := Option.some.inj hy
  exact line_roomS (h r (List.mem_of_getElem? hr))
/-! ### a text so many times, none and once too -/
theorem repS_list (z : Str) (k : Nat) : tl (repS z (k : Int)) = (List.replicate k (tl z)).flatten := by
  show ((List.replicate ((k : Int)).toNat z.cps).foldl (fun x1 x2 => x1 ++ x2) #[]).toList = _
  rw [rep_list]
  rfl
theorem repS_bl (k : Nat) : tl (repS blS (k : Int)) = List.replicate k 32 := by
  rw [repS_list, tl_bl]
  induction k with
  | zero => rfl
  | succ k ih => rw [List.replicate_succ, List.flatten_cons, ih]; rfl
theorem op_rep0 {X : Cx} : OpR X (binaryOp .Mult) (fun x y H Q => ∃ (z : Str) (k : Nat), x = .str z ∧ y = .int (k : Int) ∧ k ≤ 100 ∧ 1 ≤ z.length ∧ z.length ≤ 1000 ∧ Q (.str (repS z (k : Int))) H) := by
  intro pins s σ H x y v u Q I rx ry h
  obtain ⟨z, k, rfl, rfl, k9, z1, z9, q⟩ := h
  by_cases k2 : 2 ≤ k
  · exact op_repS pins s σ H _ _ v u Q I rx ry ⟨z, k, rfl, rfl, by omega, by omega, z1, z9, q⟩
  · obtain ⟨t, rfl⟩ : ∃ t, v = .str z t := rx
    obtain ⟨tu, rfl⟩ : ∃ t, u = .int (k : Int) t := ry
    refine wpAny_binaryOp_repeat (T := "str") (U := "int") (id := "str.__mul__") (idr := "int.__rmul__") (by decide) ?_ ?_ noFill_str_mul F.fills_int_mul F.slot_int_rmul repeat_str int_index ?_
    · exact fun s' => rfl
    · exact fun s' => rfl
    · refine call_gives F.slot_int_rmul rfl F.entry_int_rmul (F.args_int_rmul_2 _ _) (AutoIntG1.int___rmul___int_str_0 (k : Int) tu z t) ⟨rfl, ?_⟩
      have g := gives_str_mul z (k : Int) t tu (by rw [Bool.or_eq_false_iff]; exact ⟨decide_eq_false (by omega), decide_eq_false (by omega)⟩)
        (fun h1 h2 => by
          rw [Bool.or_eq_false_iff, beq_eq_false_iff_ne] at h2
          omega) (fun h1 h2 => by
          rw [Bool.or_eq_false_iff, beq_eq_false_iff_ne] at h2
          omega)
      by_cases k0 : k = 0
      · subst k0
        rw [if_pos (by decide)] at g
        have e : repS z ((0 : Nat) : Int) = Str.empty := rfl
        rw [e] at q
        refine call_gives F.slot_str_mul rfl F.entry_str_mul (F.args_str_mul_2 _ _) g ?_
        exact ⟨by decide, .str Str.empty, H, I.kept fun _ _ z => z, ⟨_, rfl⟩, q⟩
      · have k1 : k = 1 := by omega
        subst k1
        rw [if_neg (by decide), if_pos (by rfl)] at g
        have e : repS z ((1 : Nat) : Int) = z := ext_tl (by rw [repS_list, List.replicate_one, List.flatten_singleton])
        rw [e] at q
        refine call_gives F.slot_str_mul rfl F.entry_str_mul (F.args_str_mul_2 _ _) g ?_
        exact ⟨.str z, H, I.kept fun _ _ z => z, ⟨_, rfl⟩, q⟩
/-! ### rules whose K is told -/
theorem pe_joinK {X : Cx} (K : PySem.W.Frag) {o e : Expr} {to te : TE} {apos pos : Pos} (ho : PE X o to) (he : PE X e te) (hs : starEach [e] X.env = [(false, eval e X.env)] := by rfl) (hbase : attributeBase o "join" X.env (eval o X.env) = eval o X.env := by rfl) (hline : (apos.endLine == pos.line) = true := by rfl)
    (hK : X.K = K := by rfl) : PE X (.Call (.Attribute o "join" apos) [e] [] pos) (tM1 (fun x xs H Q => ∃ a p, ∃ ys : List Str, x = .str a ∧ xs = [.ref p] ∧ (SqL K H p (ys.map V.str) ∨ SqT K H p (ys.map V.str)) ∧
      (ys.map (·.length)).sum + ys.length * a.length ≤ 16777216 ∧ Q (.str (Txt.join a ys)) H) to te) := by
  subst hK
  exact pe_join ho he hs hbase hline
def rTupOf (K : PySem.W.Frag) : List V → Hp → VK → Prop := fun xs H Q => ∃ p ys, xs = [.ref p] ∧ ((SqL K H p ys ∧ ∀ l, H l = none → Q (.ref l) (upd H l (.tup ys))) ∨ (SqT K H p ys ∧ Q (.ref p) H))
theorem call_tupK {X : Cx} : CallR X (.type "tuple") (rTupOf X.K) := call_tuple_of
def tTruK (K : PySem.W.Frag) (ta : TE) : TT := fun σ H Q => ta σ H fun x H' => ∃ k, TruV K x H' k ∧ Q k H'
theorem pt_truthK {X : Cx} (K : PySem.W.Frag) {a : Expr} {ta : TE} (ha : PE X a ta) (he : ∀ whole, isTrue a X.env whole = (do let v ← whole; standAt a.pos; holding [v] (truthy v)) := by intro _; rfl) (hK : X.K = K := by rfl) :
    PT X a (tTruK K ta) := by
  subst hK
  exact pt_truth ha he
end RK


set_option Elab.async false
set_option linter.all false
set_option maxRecDepth 100000
set_option maxHeartbeats 4000000
/-! a book's rooms: what the package's own checks say of right ones -/
namespace K03
open PySem PySem.Spec PyProof.Rows L2 RK
def top (i : Nat) : Stmt := PySem.Challenge.pw_roomlooks_k03_whole_texts_there_and_back.main.body.getD i (.Pass ⟨0, 0, 0, 0⟩)
abbrev sName : Stmt := top 7
abbrev sAsc : Stmt := top 8
abbrev sIsRoom : Stmt := top 18
abbrev sCross : Stmt := top 19
abbrev sCommon : Stmt := top 20
abbrev sHomes : Stmt := top 21
/-- what the top has left of the package's books -/
structure TB (K : PySem.W.Frag) (mg : Str → Option Value) (CB : Addr) : Prop where
  cl : Cls K CB
  nR : NoAttr K CB "rooms"
  nH : NoAttr K CB "_homes"
  g_LETTERS : ∃ u, mg "LETTERS" = some u ∧ RelV (.str "abcdefghijklmnopqrstuvwxyz") u
  g_MOST_ROOMS : ∃ u, mg "MOST_ROOMS" = some u ∧ RelV (.int 10) u
  g_MOST_OUTCOMES : ∃ u, mg "MOST_OUTCOMES" = some u ∧ RelV (.int 24) u
  isi : mg "isinstance" = none
  str : mg "str" = none
  tuple : mg "tuple" = none
  len : mg "len" = none
  all : mg "all" = none
  any : mg "any" = none
  range : mg "range" = none
  enumerate : mg "enumerate" = none
  sorted : mg "sorted" = none
def spName : Sp := fun vs H Q _ => ∃ x : Str, vs = [.str x] ∧ NameOk x ∧ ∀ H', L2.Same H H' → Q (.bl true) H'
def spAsc : Sp := fun vs H Q _ => ∃ (t : Addr) (xs : List Str), vs = [.ref t] ∧ H t = some (.tup (xs.map V.str)) ∧ xs.length ≤ 100 ∧ Asc xs ∧ ∀ H', L2.Same H H' → Q (.bl true) H'
def spIsRoom : Sp := fun vs H Q _ => ∃ (t : Addr) (xs : List Str), vs = [.ref t] ∧ H t = some (.tup (xs.map V.str)) ∧ RoomOk xs ∧ ∀ H', L2.Same H H' → Q (.bl true) H'
def spCommon : Sp := fun vs H Q _ => ∃ (t u : Addr) (xs ys : List Str), vs = [.ref t, .ref u] ∧ H t = some (.tup (xs.map V.str)) ∧ H u = some (.tup (ys.map V.str)) ∧ xs.length ≤ 100 ∧
  ∀ (p : Addr) (H' : Hp), L2.Same H H' → H p = none → H' p = some (.lst ((common xs ys).map V.str)) → Q (.ref p) H'
/-- the rooms at some addresses -/
def RoomsIn (H : Hp) (rs : List (Addr × Rm)) : Prop := ∀ r ∈ rs, H r.1 = some (.tup (r.2.map V.str))
theorem RoomsIn.same {H H' : Hp} {rs : List (Addr × Rm)} (S : L2.Same H H') (h : RoomsIn H rs) : RoomsIn H' rs := fun r hr => S _ _ (h r hr)
def refsOf (rs : List (Addr × Rm)) : List V := rs.map fun r => V.ref r.1
def rmsOf (rs : List (Addr × Rm)) : List Rm := rs.map (·.2)
def spCross : Sp := fun vs H Q _ => ∃ (t e : Addr) (xs : Rm) (rs : List (Addr × Rm)), vs = [.ref t, .ref e] ∧ H t = some (.tup (xs.map V.str)) ∧ H e = some (.tup (refsOf rs)) ∧ RoomsIn H rs ∧ xs.length ≤ 100 ∧ rs.length ≤ 100 ∧
  (∀ r ∈ rs, (common xs r.2).length ≤ 1) ∧ ∀ H', L2.Same H H' → Q (.bl false) H'
/-- the dict of the numbers of the rooms of what has been met -/
def HomesAt (H : Hp) (D : Addr) (o : List (Str × Nat)) : Prop := ∃ kvs : List (Key × V), H D = some (.dK kvs) ∧ kvs.map (·.1) = (firsts o).map Sum.inr ∧
  ∀ x, (x ∈ firsts o → ∃ t : Addr, valV kvs (Sum.inr x) = some (.ref t) ∧ H t = some (.tup ((numsOf o x).map fun (n : Nat) => V.int (n : Int)))) ∧ (x ∉ firsts o → valV kvs (Sum.inr x) = none)
theorem HomesAt.same {H H' : Hp} {D : Addr} {o : List (Str × Nat)} (S : L2.Same H H') (h : HomesAt H D o) : HomesAt H' D o := by
  obtain ⟨kvs, e, k, v⟩ := h
  refine ⟨kvs, S _ _ e, k, fun x => ⟨fun hx => ?_, (v x).2⟩⟩
  obtain ⟨t, h1, h2⟩ := (v x).1 hx
  exact ⟨t, h1, S _ _ h2⟩
def spHomes : Sp := fun vs H Q _ => ∃ (R : Addr) (rs : List (Addr × Rm)), vs = [.ref R] ∧ H R = some (.tup (refsOf rs)) ∧ RoomsIn H rs ∧ rs.length ≤ 100 ∧ (∀ r ∈ rs, r.2.length ≤ 100) ∧
  ∀ (D : Addr) (H' : Hp), L2.Same H H' → H D = none → HomesAt H' D (occs 0 (rmsOf rs)) → Q (.ref D) H'
section
variable {P : Program} {w : World} {K : PySem.W.Frag} {mg : Str → Option Value} {base : Heap} {CB : Addr}
abbrev nName : List Str := ["value", "sign"]
theorem scName : FnScope nName ["value"] (defScope sName) := ⟨rfl, rfl, rfl, by decide +kernel, rfl, by decide +kernel, by decide +kernel⟩
theorem low_in {c : Nat} (h : lowB c = true) : decide (c ∈ ("abcdefghijklmnopqrstuvwxyz" : Str).cps.toList) = true := by
  have e : ("abcdefghijklmnopqrstuvwxyz" : Str).cps.toList = [97, 98, 99, 100, 101, 102, 103, 104, 105, 106, 107, 108, 109, 110, 111, 112, 113, 114, 115, 116, 117, 118, 119, 120, 121, 122] := by decide +kernel
  rw [e]
  unfold lowB at h
  rw [Bool.and_eq_true, decide_eq_true_eq, decide_eq_true_eq] at h
  rw [decide_eq_true_eq]
  have : c = 97 ∨ c = 98 ∨ c = 99 ∨ c = 100 ∨ c = 101 ∨ c = 102 ∨ c = 103 ∨ c = 104 ∨ c = 105 ∨ c = 106 ∨ c = 107 ∨ c = 108 ∨ c = 109 ∨ c = 110 ∨ c = 111 ∨ c = 112 ∨ c = 113 ∨ c = 114 ∨ c = 115 ∨ c = 116 ∨ c = 117 ∨ c = 118 ∨ c = 119 ∨ c = 120 ∨ c = 121 ∨ c = 122 := by omega
  simp only [List.mem_cons, List.not_mem_nil, or_false]
  exact this
theorem ok_name {f : Addr} {fd : FuncData} (F : Fun K "is_name" "is_name" sName f fd) (T : TB K mg CB) : FnOk P w K mg base CX0 1 f fd ["value"] spName := by
  refine F.ok scName (fun vs H Q E h => ?_) (fun cdv A outer s H vs Q E hr h => ?_)
  · obtain ⟨x, rfl, _⟩ := h
    rfl
  · obtain ⟨x, rfl, ⟨h1, h5, hc⟩, k⟩ := h
    refine ⟨_, (pss_cons (ps_if (PW.pt (pw_or (pt_not (pt_val (pe_callB (r := rIsi K) call_isi (by rfl) T.isi boot_isinstance (pa_cons (pv 0) (pa_cons (pe_bltn (v := .ty "str") (by rfl) T.str (by decide +kernel) rfl) pa_nil))))) (pw_or1 (pt_not (pt_chain op_le op_le pe_int (pe_callB call_len_str (by rfl) T.len PySem.boot_len (pa_cons (pv 0) pa_nil)) pe_int))))) (pss_one (ps_ret pe_bl)) pss_nil)
        (pss_one (ps_ret (pe_callB (r := rAll K) (cr_all rfl) (by rfl) T.all boot_all (pa_cons (pe_lc (own := [("sign", 1)]) (g := gName 1) (tt := tYes) rfl scName.nd (pi_str (pv 0)) (blkOk_by (N := nName) (sc := defScope sName) (by decide +kernel)) (fun _ _ _ _ _ => pg_name (i := 1) scName.nd rfl (Or.inl rfl)) (fun _ _ _ _ _ => pts_nil) (fun _ _ _ _ _ => (pe_cmpR op_in_sign (pv 1) (C8.pe_gc (by rfl) T.g_LETTERS) (by rfl)))) pa_nil))))), ?_⟩
    have hz : x.length ≤ sizeLine := Nat.le_trans h5 (by decide)
    refine ⟨_, rfl, _, .ty "str", _, _, true, rfl, .ty _, .base (.str x), kit_ty (by decide +kernel), true, rfl, ?_⟩
    refine iteF ⟨_, rfl, x, rfl, hz, _, _, rfl, rfl, true, congrArg V.bl (decide_eq_true (show (1 : Int) ≤ (x.length : Int) by omega)), ?_⟩
    refine iteT ⟨_, _, rfl, rfl, true, congrArg V.bl (decide_eq_true (show (x.length : Int) ≤ 5 by omega)), iteF ?_⟩
    refine ⟨_, rfl, x, rfl, fun D hD => ?_⟩
    refine lc_it (walk_str (z := x)) (fun i H' => L2.Same H H' ∧ H' D = some (.lst ((List.replicate i true).map V.bl))) ⟨RK.Same.upd hD, upd_same⟩ (fun _ _ _ _ => trivial) ?_ ?_
    · rintro i v H1 H2 hi ⟨S, e⟩ ⟨rfl, c, hcz, rfl⟩
      refine ⟨rfl, ?_⟩
      unfold tYes
      refine iteT ⟨_, rfl, c, _, rfl, rfl, _, e, ?_, RK.Same.updAt S hD, ?_⟩
      · rw [List.length_map, List.length_replicate]
        have : x.cps.size ≤ 5 := h5
        exact Nat.lt_of_lt_of_le (by omega : i < 100) (by decide)
      · rw [upd_same]
        have hm : c ∈ x.cps.toList := by
          rw [Array.mem_toList_iff]
          exact Array.mem_of_getElem? hcz
        have e1 : V.bl (decide (c ∈ ("abcdefghijklmnopqrstuvwxyz" : Str).cps.toList)) = V.bl true := by rw [low_in (hc c hm)]
        rw [e1, List.replicate_succ']
        simp
    · rintro H' ⟨S, e⟩
      refine ⟨D, _, rfl, SqL.of e, ?_⟩
      have ea : (List.replicate x.cps.size true).all id = true := by simp
      rw [ea]
      exact k H' S
abbrev nAsc : List Str := ["values", "k"]
theorem scAsc : FnScope nAsc ["values"] (defScope sAsc) := ⟨rfl, rfl, rfl, by decide +kernel, rfl, by decide +kernel, by decide +kernel⟩
theorem ok_asc {f : Addr} {fd : FuncData} (F : Fun K "is_ascending" "is_ascending" sAsc f fd) (T : TB K mg CB) : FnOk P w K mg base CX0 1 f fd ["values"] spAsc := by
  refine F.ok scAsc (fun vs H Q E h => ?_) (fun cdv A outer s H vs Q E hr h => ?_)
  · obtain ⟨t, xs, rfl, _⟩ := h
    rfl
  · obtain ⟨t, xs, rfl, ht, hl, ha, k⟩ := h
    refine ⟨_, (pss_one (ps_ret (pe_callB (r := rAll K) (cr_all rfl) (by rfl) T.all boot_all (pa_cons (pe_lc (own := [("k", 1)]) (g := gName 1) (tt := tYes) rfl scAsc.nd (pi_range2 (by rfl) T.range (pa_cons pe_int (pa_cons (pe_callB (r := rLenS K) call_lenS (by rfl) T.len PySem.boot_len (pa_cons (pv 0) pa_nil)) pa_nil))) (blkOk_by (N := nAsc) (sc := defScope sAsc) (by decide +kernel)) (fun _ _ _ _ _ => pg_name (i := 1) scAsc.nd rfl (Or.inl rfl)) (fun _ _ _ _ _ => pts_nil) (fun _ _ _ _ _ => (pe_cmpR op_lt_str (pe_ix (r := rIxT K) ix_tup (pv 0) (pe_op op_sub (pv 1) pe_int) (fun _ _ => rfl)) (pe_ix (r := rIxT K) ix_tup (pv 0) (pv 1) (fun _ _ => rfl)) (nomark _)))) pa_nil)))), ?_⟩
    refine ⟨_, rfl, t, _, rfl, .inr (SqT.of ht), 1, _, rfl, ⟨by decide, by decide, by rw [List.length_map]; omega, by rw [List.length_map]; omega⟩, fun D hD => ?_⟩
    refine lc_range (lo := 1) (fun i H' => L2.Same H H' ∧ H' D = some (.lst ((List.replicate i true).map V.bl))) ⟨RK.Same.upd hD, upd_same⟩ ?_ ?_
    · rintro i H' hi ⟨S, e⟩
      have hi' : i + 1 < xs.length := by
        rw [List.length_map] at hi
        omega
      have ht' := S _ _ ht
      have g0 : (xs.map V.str)[i]? = some (V.str xs[i]) := by rw [List.getElem?_map, List.getElem?_eq_getElem (by omega)]; rfl
      have g1 : (xs.map V.str)[i + 1]? = some (V.str xs[i + 1]) := by rw [List.getElem?_map, List.getElem?_eq_getElem hi']; rfl
      refine ⟨rfl, ?_⟩
      unfold tYes
      refine iteT ⟨_, rfl, _, rfl, _, _, rfl, rfl, t, _, _, _, rfl, rfl, SqT.of ht', at_of (by omega : (1 + (i : Int) - 1 : Int) = ((i : Nat) : Int)) g0, _, rfl, _, rfl, t, _, _, _, rfl, rfl, SqT.of ht', at_of (by omega : (1 + (i : Int) : Int) = ((i + 1 : Nat) : Int)) g1, _, _, rfl, rfl, _, e, ?_, RK.Same.updAt S hD, ?_⟩
      · rw [List.length_map, List.length_replicate]
        exact Nat.lt_of_lt_of_le (by omega : i < 101) (by decide)
      · rw [upd_same]
        have hlt : xs[i].cps.toList < xs[i + 1].cps.toList := List.pairwise_iff_getElem.mp ha i (i + 1) (by omega) hi' (by omega)
        rw [decide_eq_true hlt, List.replicate_succ']
        simp
    · rintro H' ⟨S, e⟩
      refine ⟨D, _, rfl, SqL.of e, ?_⟩
      have ea : (List.replicate (((xs.map V.str).length : Int) - 1).toNat true).all id = true := by simp
      rw [ea]
      exact k H' S
abbrev nIsRoom : List Str := ["value", "item"]
theorem scIsRoom : FnScope nIsRoom ["value"] (defScope sIsRoom) := ⟨rfl, rfl, rfl, by decide +kernel, rfl, by decide +kernel, by decide +kernel⟩
theorem ok_isRoom {f : Addr} {fd : FuncData} (F : Fun K "_is_room" "_is_room" sIsRoom f fd) (T : TB K mg CB) (c_is_name : Cl P w K mg base CX0 1 "is_name" ["value"] spName) (c_is_ascending : Cl P w K mg base CX0 1 "is_ascending" ["values"] spAsc) :
    FnOk P w K mg base CX0 2 f fd ["value"] spIsRoom := by
  refine F.ok scIsRoom (fun vs H Q E h => ?_) (fun cdv A outer s H vs Q E hr h => ?_)
  · obtain ⟨t, xs, rfl, _⟩ := h
    rfl
  · obtain ⟨t, xs, rfl, ht, ⟨h3, h5, hn, ha⟩, k⟩ := h
    refine ⟨_, (pss_cons (ps_if (PW.pt (pw_or (pt_not (pt_val (pe_callB (r := rIsi K) call_isi (by rfl) T.isi boot_isinstance (pa_cons (pv 0) (pa_cons (pe_bltn (v := .ty "tuple") (by rfl) T.tuple boot_tuple rfl) pa_nil))))) (pw_or1 (pt_not (pt_chain op_le op_le pe_int (pe_callB (r := rLenS K) call_lenS (by rfl) T.len PySem.boot_len (pa_cons (pv 0) pa_nil)) pe_int))))) (pss_one (ps_ret pe_bl)) pss_nil)
        (pss_one (ps_ret (pe_and (pe_callB (r := rAll K) (cr_all rfl) (by rfl) T.all boot_all (pa_cons (pe_lc (own := [("item", 1)]) (g := gName 1) (tt := tYes) rfl scIsRoom.nd (pi_tup (pv 0)) (blkOk_by (N := nIsRoom) (sc := defScope sIsRoom) (by decide +kernel)) (fun _ _ _ _ _ => pg_name (i := 1) scIsRoom.nd rfl (Or.inl rfl)) (fun _ _ _ _ _ => pts_nil) (fun _ _ _ _ _ => (pe_f c_is_name hr (by decide) pass0 (pa_cons (pv 1) pa_nil)))) pa_nil)) (pe_one (pe_f c_is_ascending hr (by decide) pass0 (pa_cons (pv 0) pa_nil))))))), ?_⟩
    refine ⟨_, rfl, _, .ty "tuple", _, _, true, rfl, .ty _, .base (.tup ht), kit_ty (by decide +kernel), true, rfl, ?_⟩
    refine iteF ⟨_, rfl, t, _, rfl, .inr (SqT.of ht), _, _, rfl, rfl, true, congrArg V.bl (decide_eq_true (show (3 : Int) ≤ ((xs.map V.str).length : Int) by rw [List.length_map]; omega)), ?_⟩
    refine iteT ⟨_, _, rfl, rfl, true, congrArg V.bl (decide_eq_true (show ((xs.map V.str).length : Int) ≤ 5 by rw [List.length_map]; omega)), iteF ?_⟩
    refine ⟨_, rfl, t, rfl, ⟨_, SqT.of ht⟩, fun D hD => ?_⟩
    refine lc_tup (K := K) (a := t) (xs := xs.map V.str) (fun i H' => L2.Same H H' ∧ H' D = some (.lst ((List.replicate i true).map V.bl))) ⟨RK.Same.upd hD, upd_same⟩ (fun i H' _ p => SqT.of (p.1 _ _ ht)) ?_ ?_
    · rintro i v H' hi ⟨S, e⟩
      obtain ⟨x, hx, rfl⟩ : ∃ x, xs[i]? = some x ∧ v = V.str x := by
        rw [List.getElem?_map] at hi
        cases e : xs[i]? with
        | none => rw [e] at hi; cases hi
        | some z => rw [e] at hi; exact ⟨z, rfl, (Option.some.inj hi).symm⟩
      have hil := (List.getElem?_eq_some_iff.mp hx).1
      refine ⟨rfl, ?_⟩
      unfold tYes
      refine iteT ⟨_, rfl, x, rfl, hn x (List.mem_of_getElem? hx), fun H2 S2 => ⟨_, S2 _ _ e, ?_, RK.Same.updAt (S.trans S2) hD, ?_⟩⟩
      · rw [List.length_map, List.length_replicate]
        exact Nat.lt_of_lt_of_le (by omega : i < 101) (by decide)
      · rw [upd_same, List.replicate_succ']
        simp
    · rintro H' ⟨S, e⟩
      refine ⟨D, _, rfl, SqL.of e, true, ?_, iteT ?_⟩
      · have ea : (List.replicate (xs.map V.str).length true).all id = true := by simp
        rw [ea]
      · exact ⟨_, rfl, t, xs, rfl, S _ _ ht, by omega, ha, fun H2 S2 => k H2 (S.trans S2)⟩
abbrev nCommon : List Str := ["room", "other", "outcome"]
theorem scCommon : FnScope nCommon ["room", "other"] (defScope sCommon) := ⟨rfl, rfl, rfl, by decide +kernel, rfl, by decide +kernel, by decide +kernel⟩
theorem common_take {xs ys : List Str} {i : Nat} {x : Str} (h : xs[i]? = some x) : common (xs.take (i + 1)) ys = if x ∈ ys then common (xs.take i) ys ++ [x] else common (xs.take i) ys := by
  unfold common
  rw [List.take_add_one, h, List.filter_append]
  by_cases hx : x ∈ ys
  · rw [if_pos hx]
    simp [hx]
  · rw [if_neg hx]
    simp [hx]
theorem ok_common {f : Addr} {fd : FuncData} (F : Fun K "_common" "_common" sCommon f fd) (T : TB K mg CB) : FnOk P w K mg base CX0 1 f fd ["room", "other"] spCommon := by
  refine F.ok scCommon (fun vs H Q E h => ?_) (fun cdv A outer s H vs Q E hr h => ?_)
  · obtain ⟨t, u, xs, ys, rfl, _⟩ := h
    rfl
  · obtain ⟨t, u, xs, ys, rfl, ht, hu, hl, k⟩ := h
    refine ⟨_, (pss_one (ps_ret (pe_lc (own := [("outcome", 2)]) (g := gName 2) rfl scCommon.nd (pi_tup (pv 0)) (blkOk_by (N := nCommon) (sc := defScope sCommon) (by decide +kernel)) (fun _ _ _ _ _ => pg_name (i := 2) scCommon.nd rfl (Or.inl rfl)) (fun _ _ _ _ _ => (pts_one (pt_cmpR (r := rIn K false) op_in_seq (pv 2) (pv 1) (by rfl)))) (fun _ _ _ _ _ => (pv 2))))), ?_⟩
    refine ⟨_, rfl, t, rfl, ⟨_, SqT.of ht⟩, fun D hD => ?_⟩
    refine lc_tup (K := K) (a := t) (xs := xs.map V.str) (fun i H' => L2.Same H H' ∧ H' D = some (.lst ((common (xs.take i) ys).map V.str))) ⟨RK.Same.upd hD, upd_same⟩ (fun i H' _ p => SqT.of (p.1 _ _ ht)) ?_ ?_
    · rintro i v H' hi ⟨S, e⟩
      obtain ⟨x, hx, rfl⟩ : ∃ x, xs[i]? = some x ∧ v = V.str x := by
        rw [List.getElem?_map] at hi
        cases e : xs[i]? with
        | none => rw [e] at hi; cases hi
        | some z => rw [e] at hi; exact ⟨z, rfl, (Option.some.inj hi).symm⟩
      refine ⟨rfl, _, rfl, _, rfl, u, _, rfl, .inr (SqT.of (S _ _ hu)), rfl, flat_strs ys, _, rfl, ?_⟩
      show if (inV (.str x) (ys.map V.str)) = true then _ else _
      rw [inV_str]
      have hc := common_take (ys := ys) hx
      refine ite2 (fun hb => ?_) (fun hb => ?_)
      · rw [if_pos (of_decide_eq_true hb)] at hc
        refine ⟨_, rfl, _, e, ?_, RK.Same.updAt S hD, ?_⟩
        · rw [List.length_map]
          have h1 : (common (xs.take i) ys).length ≤ (xs.take i).length := List.length_filter_le _ _
          have h2 := List.length_take_le' i xs
          exact Nat.lt_of_lt_of_le (by omega : _ < 101) (by decide)
        · rw [upd_same, hc, List.map_append]
          rfl
      · rw [if_neg (fun z => hb (decide_eq_true z))] at hc
        exact ⟨S, by rw [hc]; exact e⟩
    · rintro H' ⟨S, e⟩
      rw [List.length_map, List.take_length] at e
      exact k D H' S hD e
abbrev nCross : List Str := ["room", "earlier", "other"]
theorem scCross : FnScope nCross ["room", "earlier"] (defScope sCross) := ⟨rfl, rfl, rfl, by decide +kernel, rfl, by decide +kernel, by decide +kernel⟩
theorem ok_cross {f : Addr} {fd : FuncData} (F : Fun K "_crosses_twice" "_crosses_twice" sCross f fd) (T : TB K mg CB) (c__common : Cl P w K mg base CX0 1 "_common" ["room", "other"] spCommon) :
    FnOk P w K mg base CX0 2 f fd ["room", "earlier"] spCross := by
  refine F.ok scCross (fun vs H Q E h => ?_) (fun cdv A outer s H vs Q E hr h => ?_)
  · obtain ⟨t, e, xs, rs, rfl, _⟩ := h
    rfl
  · obtain ⟨t, e, xs, rs, rfl, ht, he, hR, hl, hl2, hc, k⟩ := h
    refine ⟨_, (pss_one (ps_ret (pe_callB (r := rAny K) (cr_any rfl) (by rfl) T.any (by decide +kernel) (pa_cons (pe_lc (own := [("other", 2)]) (g := gName 2) (tt := tYes) rfl scCross.nd (pi_tup (pv 1)) (blkOk_by (N := nCross) (sc := defScope sCross) (by decide +kernel)) (fun _ _ _ _ _ => pg_name (i := 2) scCross.nd rfl (Or.inl rfl)) (fun _ _ _ _ _ => pts_nil) (fun _ _ _ _ _ => (pe_cmpR op_gt (pe_callB (r := rLenS K) call_lenS (by rfl) T.len PySem.boot_len (pa_cons (pe_f c__common hr (by decide) pass0 (pa_cons (pv 0) (pa_cons (pv 2) pa_nil))) pa_nil)) pe_int (nomark _)))) pa_nil)))), ?_⟩
    refine ⟨_, rfl, e, rfl, ⟨_, SqT.of he⟩, fun D hD => ?_⟩
    refine lc_tup (K := K) (a := e) (xs := refsOf rs) (fun i H' => L2.Same H H' ∧ H' D = some (.lst ((List.replicate i false).map V.bl))) ⟨RK.Same.upd hD, upd_same⟩ (fun i H' _ p => SqT.of (p.1 _ _ he)) ?_ ?_
    · rintro i v H' hi ⟨S, ed⟩
      obtain ⟨r, hr', rfl⟩ : ∃ r, rs[i]? = some r ∧ v = V.ref r.1 := by
        unfold refsOf at hi
        rw [List.getElem?_map] at hi
        cases e : rs[i]? with
        | none => rw [e] at hi; cases hi
        | some z => rw [e] at hi; exact ⟨z, rfl, (Option.some.inj hi).symm⟩
      have hm := List.mem_of_getElem? hr'
      have hil := (List.getElem?_eq_some_iff.mp hr').1
      refine ⟨rfl, ?_⟩
      unfold tYes
      refine iteT ⟨_, rfl, _, rfl, t, r.1, xs, r.2, rfl, S _ _ ht, S _ _ (hR r hm), hl, fun p H2 S2 np hp => ?_⟩
      refine ⟨p, _, rfl, .inl (SqL.of hp), _, _, rfl, rfl, _, S2 _ _ ed, ?_, RK.Same.updAt (S.trans S2) hD, ?_⟩
      · rw [List.length_map, List.length_replicate]
        exact Nat.lt_of_lt_of_le (by omega : i < 101) (by decide)
      · rw [upd_same]
        have h1 := hc r hm
        have e1 : decide ((1 : Int) < (((common xs r.2).map V.str).length : Int)) = false := decide_eq_false (by rw [List.length_map]; omega)
        dsimp only
        rw [e1, List.replicate_succ']
        simp
    · rintro H' ⟨S, ed⟩
      refine ⟨D, _, rfl, SqL.of ed, ?_⟩
      have ea : (List.replicate (refsOf rs).length false).any id = false := by simp
      rw [ea]
      exact k H' S
/-! ### the rooms of each outcome -/
theorem homes_nil {H : Hp} {D : Addr} (h : H D = some (.dK [])) : HomesAt H D [] := ⟨[], h, rfl, fun x => ⟨fun hx => absurd hx (by simp [firsts]), fun _ => rfl⟩⟩
/-- one more: homes[x] = homes.get(x, ()) + (n,) -/
theorem homes_put {H H' : Hp} {D t : Addr} {kvs : List (Key × V)} {o : List (Str × Nat)} {x : Str} {n : Nat} (hD : H D = some (.dK kvs)) (hk : kvs.map (·.1) = (firsts o).map Sum.inr)
    (hv : ∀ x, (x ∈ firsts o → ∃ t : Addr, valV kvs (Sum.inr x) = some (.ref t) ∧ H t = some (.tup ((numsOf o x).map fun (n : Nat) => V.int (n : Int)))) ∧ (x ∉ firsts o → valV kvs (Sum.inr x) = none))
    (S : ∀ b u, H b = some u → b ≠ D → H' b = some u) (e' : H' D = some (.dK (putK kvs (Sum.inr x) (.ref t)))) (ht : H' t = some (.tup ((numsOf o x ++ [n]).map fun (n : Nat) => V.int (n : Int)))) : HomesAt H' D (o ++ [(x, n)]) := by
  refine ⟨_, e', ?_, fun y => ?_⟩
  · rw [firsts_snoc]
    by_cases hx : x ∈ firsts o
    · rw [if_pos hx]
      obtain ⟨t0, h0, _⟩ := (hv x).1 hx
      unfold putK
      have ha : (kvs.any fun kv => decide (kv.1 = Sum.inr x)) = true := by
        rw [valV_any, h0]
        rfl
      rw [if_pos ha, List.map_map, ← hk]
      refine List.map_congr_left fun kv _ => ?_
      show (if kv.1 = Sum.inr x then (kv.1, V.ref t) else kv).1 = kv.1
      split <;> rfl
    · rw [if_neg hx, putK_new _ ((hv x).2 hx), List.map_append, List.map_append, hk]
      rfl
  · have hput := valV_put kvs (Sum.inr x) (Sum.inr y) (.ref t)
    rw [firsts_snoc, numsOf_snoc, hput]
    by_cases hxy : x = y
    · subst hxy
      rw [if_pos rfl, if_pos rfl]
      refine ⟨fun _ => ⟨t, rfl, ht⟩, fun hn => ?_⟩
      exfalso
      split at hn
      · rename_i h
        exact hn h
      · exact hn (by simp)
    · rw [if_neg hxy, if_neg (fun z => hxy (Sum.inr.inj z).symm)]
      have hiff : y ∈ (if x ∈ firsts o then firsts o else firsts o ++ [x]) ↔ y ∈ firsts o := by
        split
        · exact Iff.rfl
        · rw [List.mem_append]
          simp [Ne.symm hxy]
      refine ⟨fun hy => ?_, fun hy => (hv y).2 (fun z => hy (hiff.mpr z))⟩
      obtain ⟨t0, h0, h1⟩ := (hv y).1 (hiff.mp hy)
      exact ⟨t0, h0, S _ _ h1 (ne_of h1 hD (by intro z; cases z))⟩
abbrev nHomes : List Str := ["rooms", "homes", "number", "room", "outcome"]
theorem scHomes : FnScope nHomes ["rooms"] (defScope sHomes) := ⟨rfl, rfl, rfl, by decide +kernel, rfl, by decide +kernel, by decide +kernel⟩
theorem occs_take {rs : List Rm} {i : Nat} {r : Rm} (h : rs[i]? = some r) : occs 0 (rs.take (i + 1)) = occs 0 (rs.take i) ++ r.map (fun x => (x, i)) := by
  have hi := (List.getElem?_eq_some_iff.mp h).1
  rw [List.take_add_one, h]
  show occs 0 (rs.take i ++ [r]) = _
  rw [occs_snoc, List.length_take, Nat.min_eq_left (Nat.le_of_lt hi), Nat.zero_add]
theorem firsts_len (o : List (Str × Nat)) : (firsts o).length ≤ o.length := by
  refine snoc_ind (P := fun o => (firsts o).length ≤ o.length) (Nat.le_refl _) (fun o p ih => ?_) o
  rw [firsts_snoc, List.length_append]
  split
  · omega
  · rw [List.length_append]
    simp only [List.length_cons, List.length_nil]
    omega
theorem occs_len : ∀ (n : Nat) (rs : List Rm), (∀ r ∈ rs, r.length ≤ 100) → (occs n rs).length ≤ 100 * rs.length
  | _, [], _ => Nat.le_refl _
  | n, r :: rs, h => by
    show (r.map _ ++ occs (n + 1) rs).length ≤ _
    rw [List.length_append, List.length_map, List.length_cons]
    have h1 := h r List.mem_cons_self
    have h2 := occs_len (n + 1) rs fun s hs => h s (List.mem_cons_of_mem _ hs)
    omega
theorem ok_homes {f : Addr} {fd : FuncData} (F : Fun K "_homes_of" "_homes_of" sHomes f fd) (T : TB K mg CB) : FnOk P w K mg base CX0 1 f fd ["rooms"] spHomes := by
  refine F.ok scHomes (fun vs H Q E h => ?_) (fun cdv A outer s H vs Q E hr h => ?_)
  · obtain ⟨R, rs, rfl, _⟩ := h
    rfl
  · obtain ⟨R, rs, rfl, hR, hI, hl, hl2, k⟩ := h
    have hu := hu_of hr
    refine ⟨_, (pss_cons (ps_set (i := 1) scHomes.nd rfl (Or.inl rfl) pe_dnewK)
        (pss_cons (ps_for PassesOwn.never rfl (pi_enumT (by rfl) T.enumerate (pa_cons (pv 0) pa_nil)) (pg_tup (n := 2) rfl (pgs_cons (pg_name (i := 2) scHomes.nd rfl (Or.inl rfl)) (pgs_cons (pg_name (i := 3) scHomes.nd rfl (Or.inl rfl)) pgs_nil)))
        (pss_one (ps_for PassesOwn.never rfl (pi_tup (pv 3)) (pg_name (i := 4) scHomes.nd rfl (Or.inl rfl))
        (pss_one (ps_dput hu (pv 1) (pv 4) (pe_op op_catA (pe_dget2 hu (pv 1) (pv 4) (pe_tup pa_nil) ⟨rfl, rfl, rfl, rfl⟩) (pe_tup (pa_cons (pv 2) pa_nil))) rfl)))))
        (pss_one (ps_ret (pv 1))))), ?_⟩
    intro D hD
    have S0 : L2.Same H (upd H D (.dK [])) := RK.Same.upd hD
    refine ⟨_, rfl, R, _, rfl, SqT.of (S0 _ _ hR), for_it walk_enumT
      (fun i σ H' => ∃ v2 v3 v4 : Option V, σ = [some (.ref R), some (.ref D), v2, v3, v4] ∧ L2.Same H H' ∧ HomesAt H' D (occs 0 ((rmsOf rs).take i)))
      ⟨_, _, _, rfl, S0, homes_nil upd_same⟩ (fun i σ H' _ ⟨_, _, _, _, S, _⟩ => SqT.of (S _ _ hR)) ?_ ?_⟩
    · rintro i v σ H1 H2 hi ⟨v2, v3, v4, rfl, S, hm⟩ ⟨T1, x1, y1, rfl, hT, rfl, e1, e2⟩
      obtain rfl : V.int (i : Nat) = x1 := Option.some.inj e1
      obtain ⟨r, hr', rfl⟩ : ∃ r, rs[i]? = some r ∧ y1 = V.ref r.1 := by
        replace e2 : (refsOf rs)[i]? = some y1 := e2
        unfold refsOf at e2
        rw [List.getElem?_map] at e2
        cases e : rs[i]? with
        | none => rw [e] at e2; cases e2
        | some z => rw [e] at e2; exact ⟨z, rfl, (Option.some.inj e2).symm⟩
      have hmem := List.mem_of_getElem? hr'
      have ST := RK.Same.upd (o := .tup [.int (i : Nat), .ref r.1]) hT
      replace hm := hm.same ST
      have S2 := S.trans ST
      have hro := S2 _ _ (hI r hmem)
      have hrm : (rmsOf rs)[i]? = some r.2 := by unfold rmsOf; rw [List.getElem?_map, hr']; rfl
      refine ⟨T1, _, rfl, SqT.of upd_same, rfl, _, _, rfl, _, _, rfl, rfl, ?_⟩
      refine ⟨_, rfl, r.1, rfl, ⟨_, SqT.of hro⟩, for_tup (K := K) (a := r.1) (xs := r.2.map V.str)
        (fun j σ' H' => ∃ v4 : Option V, σ' = [some (.ref R), some (.ref D), some (.int (i : Nat)), some (.ref r.1), v4] ∧ L2.Same H H' ∧ HomesAt H' D (occs 0 ((rmsOf rs).take i) ++ (r.2.take j).map fun x => (x, i)))
        ⟨v4, rfl, S2, by simpa using hm⟩ (fun j σ' H' _ ⟨_, _, S', _⟩ => SqT.of (S' _ _ (hI r hmem))) ?_ ?_⟩
      · rintro j v σ' H' hj ⟨v4, rfl, S', hm'⟩
        obtain ⟨x, hx, rfl⟩ : ∃ x, r.2[j]? = some x ∧ v = V.str x := by
          rw [List.getElem?_map] at hj
          cases e : r.2[j]? with
          | none => rw [e] at hj; cases hj
          | some z => rw [e] at hj; exact ⟨z, rfl, (Option.some.inj hj).symm⟩
        have ejx : (r.2.take (j + 1)).map (fun x => (x, i)) = (r.2.take j).map (fun x => (x, i)) ++ [(x, i)] := by
          rw [List.take_add_one, hx, List.map_append]
          rfl
        obtain ⟨kvs, hd, hk, hv⟩ := hm'
        have hoc : (occs 0 ((rmsOf rs).take i) ++ (r.2.take j).map fun x => (x, i)).length ≤ 10100 := by
          rw [List.length_append, List.length_map]
          have h2 := occs_len 0 ((rmsOf rs).take i) fun s hs => by
            obtain ⟨q, hq, rfl⟩ := List.mem_map.mp (List.mem_of_mem_take hs)
            exact hl2 q hq
          have h3 := List.length_take_le' i (rmsOf rs)
          have h4 : (rmsOf rs).length = rs.length := List.length_map _
          have h5 := List.length_take_le' j r.2
          have h6 := hl2 r hmem
          omega
        generalize ho : (occs 0 ((rmsOf rs).take i) ++ (r.2.take j).map fun x => (x, i)) = o at *
        have hlen : kvs.length < sizeLine := by
          have e1 := congrArg List.length hk
          rw [List.length_map, List.length_map] at e1
          have h1 := firsts_len o
          exact Nat.lt_of_le_of_lt (by omega : kvs.length ≤ 10100) (by decide)
        -- homes.get(outcome, ()), then (number,)
        refine ⟨_, rfl, D, rfl, .inl ⟨kvs, .inl hd⟩, _, rfl, (by show 0 ≤ sizeLine; decide), fun t0 ht0 => ⟨_, DGet.k (k := Sum.inr x) ((RK.Same.upd ht0) _ _ hd), ?_⟩⟩
        have S3 := RK.Same.upd (o := .tup []) ht0
        refine ⟨_, rfl, (by show 1 ≤ sizeLine; decide), fun t1 ht1 => ?_⟩
        have S4 := RK.Same.upd (o := .tup [.int (i : Nat)]) ht1
        have S34 := S3.trans S4
        have fin : ∀ (tn : Addr) (H5 : Hp), L2.Same (upd (upd H' t0 (.tup [])) t1 (.tup [.int (i : Nat)])) H5 → H5 tn = some (.tup ((numsOf o x ++ [i]).map fun (n : Nat) => V.int (n : Int))) →
            ∃ v4 : Option V, ([some (.ref R), some (.ref D), some (.int (i : Nat)), some (.ref r.1), some (.str x)] : List (Option V)) = [some (.ref R), some (.ref D), some (.int (i : Nat)), some (.ref r.1), v4] ∧
              L2.Same H (upd H5 D (.dK (putK kvs (Sum.inr x) (.ref tn)))) ∧ HomesAt (upd H5 D (.dK (putK kvs (Sum.inr x) (.ref tn)))) D (occs 0 ((rmsOf rs).take i) ++ (r.2.take (j + 1)).map fun x => (x, i)) := fun tn H5 S5 ht5 => by
          have hD5 := (S34.trans S5) _ _ hd
          refine ⟨_, rfl, fun b u hb => ?_, ?_⟩
          · rw [upd_ne (ne_of_none hb hD)]
            exact (S34.trans S5) _ _ (S' _ _ hb)
          · rw [ejx, ← List.append_assoc, ho]
            refine homes_put (H := H') (t := tn) hd hk hv (fun b u hb hbd => ?_) upd_same ?_
            · rw [upd_ne hbd]
              exact (S34.trans S5) _ _ hb
            · rw [upd_ne (ne_of ht5 hD5 (by intro z; cases z))]
              exact ht5
        by_cases hxo : x ∈ firsts o
        · obtain ⟨t2, h2, h3⟩ := (hv x).1 hxo
          rw [h2]
          have hne : (numsOf o x).map (fun (n : Nat) => V.int (n : Int)) ≠ [] := fun z => numsOf_ne ((mem_firsts _ _).mp hxo) (List.map_eq_nil_iff.mp z)
          refine ⟨t2, t1, _, _, rfl, rfl, SqT.of (S34 _ _ h3), SqT.of upd_same, ?_, fun z => absurd z hne, fun _ z => absurd z (by simp), fun _ _ t3 ht3 => ?_⟩
          · rw [List.length_map]
            have h1 : (numsOf o x).length ≤ o.length := by
              unfold RK.numsOf
              rw [List.length_map]
              exact List.length_filter_le _ _
            exact Nat.le_trans (by simp only [List.length_cons, List.length_nil]; omega : _ ≤ 10101) (by decide)
          · have S5 := RK.Same.upd (o := .tup ((numsOf o x).map (fun (n : Nat) => V.int (n : Int)) ++ [.int (i : Nat)])) ht3
            refine ⟨_, rfl, _, rfl, D, _, rfl, DPut.k (k := Sum.inr x) ((S34.trans S5) _ _ hd) hlen, ?_⟩
            refine fin t3 _ S5 ?_
            rw [upd_same, List.map_append]
            rfl
        · rw [(hv x).2 hxo]
          have hn0 : numsOf o x = [] := numsOf_none fun z => hxo ((mem_firsts _ _).mpr z)
          refine ⟨t0, t1, _, _, rfl, rfl, SqT.of (S4 _ _ upd_same), SqT.of upd_same, (by show 1 ≤ sizeLine; decide), fun _ => ?_, fun z => absurd rfl z, fun z => absurd rfl z⟩
          refine ⟨_, rfl, _, rfl, D, _, rfl, DPut.k (k := Sum.inr x) (S34 _ _ hd) hlen, ?_⟩
          refine fin t1 _ (L2.Same.refl _) ?_
          rw [hn0]
          exact upd_same
      · rintro σ' H' ⟨v4, rfl, S', hm'⟩
        rw [List.length_map, List.take_length] at hm'
        refine ⟨_, _, _, rfl, S', ?_⟩
        rw [occs_take hrm]
        exact hm'
    · rintro σ H' ⟨v2, v3, v4, rfl, S, hm⟩
      have e : (rmsOf rs).take (refsOf rs).length = rmsOf rs := by
        unfold rmsOf refsOf
        rw [List.length_map, ← List.length_map (f := (·.2)) (as := rs), List.take_length]
      rw [e] at hm
      exact ⟨_, rfl, k D H' S hD hm⟩
end
end K03


set_option Elab.async false
set_option linter.all false
set_option maxRecDepth 100000
set_option maxHeartbeats 4000000
/-! the class Book -/
namespace K03
open PySem PySem.Spec PyProof.Rows L2 RK
abbrev sBInit : Stmt := inClass (top 17) 0
abbrev sBOut : Stmt := inClass (top 17) 2
abbrev sBSha : Stmt := inClass (top 17) 3
abbrev sBOf : Stmt := inClass (top 17) 4
abbrev sBTwo : Stmt := inClass (top 17) 5
def bflds (R D : Addr) : List (Str × V) := putF "_homes" (.ref D) (putF "rooms" (.ref R) [])
theorem ne_rh : ¬ (("rooms" : Str) = "_homes") := by decide +kernel
theorem bflds_rooms (R D : Addr) : (bflds R D).lookup ("rooms" : Str) = some (.ref R) := by
  unfold bflds
  rw [lookup_putF, if_neg ne_rh, lookup_putF, if_pos rfl]
theorem bflds_homes (R D : Addr) : (bflds R D).lookup ("_homes" : Str) = some (.ref D) := by
  unfold bflds
  rw [lookup_putF, if_pos rfl]
theorem bflds_no (R D : Addr) {m : Str} (h1 : ¬ m = "_homes") (h2 : ¬ m = "rooms") : (bflds R D).lookup m = none := by
  unfold bflds
  rw [lookup_putF, if_neg h1, lookup_putF, if_neg h2]
  rfl
/-- a book of these rooms stands at b -/
structure BookAt (CB : Addr) (H : Hp) (b : Addr) (rooms : List Rm) : Prop where
  ex : ∃ (dx R D : Addr) (rs : List (Addr × Rm)), H b = some (.ins CB dx (bflds R D)) ∧ rmsOf rs = rooms ∧ H R = some (.tup (refsOf rs)) ∧ RoomsIn H rs ∧ HomesAt H D (occs 0 rooms)
  ok : RoomsOk rooms
theorem BookAt.same {CB : Addr} {H H' : Hp} {b : Addr} {rooms : List Rm} (S : L2.Same H H') (h : BookAt CB H b rooms) : BookAt CB H' b rooms := by
  obtain ⟨dx, R, D, rs, h1, h2, h3, h4, h5⟩ := h.ex
  exact ⟨⟨dx, R, D, rs, S _ _ h1, h2, S _ _ h3, h4.same S, h5.same S⟩, h.ok⟩
def spBInit (CB : Addr) : Sp := fun vs H Q _ => ∃ (b R dx : Addr) (rs : List (Addr × Rm)), vs = [.ref b, .ref R] ∧ H b = some (.ins CB dx []) ∧ H R = some (.tup (refsOf rs)) ∧ RoomsIn H rs ∧ RoomsOk (rmsOf rs) ∧
  ∀ H', BookAt CB H' b (rmsOf rs) → (∀ c o, H c = some o → c ≠ b → H' c = some o) → Q .non H'
/-- ys is what sorted makes of k -/
def IsSort (k ys : List Str) : Prop := ys.Perm k ∧ sortedS ys = true
theorem IsSort.eq {k l m : List Str} (nd : k.Nodup) (a : IsSort k l) (b : IsSort k m) : l = m := perm_asc_eq a.1 a.2 b.1 b.2 nd
def spBOut (CB : Addr) : Sp := fun vs H Q _ => ∃ (b : Addr) (rooms : List Rm), vs = [.ref b] ∧ BookAt CB H b rooms ∧
  ∀ (l : Addr) (ys : List Str) (H' : Hp), L2.Same H H' → H' l = some (.tup (ys.map V.str)) → IsSort (outsOf rooms) ys → Q (.ref l) H'
/-- the numbers of the rooms of any value -/
def numsV (rooms : List Rm) : V → List Nat
  | .str x => placesOf rooms x
  | _ => []
/-- a value that isinstance knows for a text or for none -/
def TxtOr (K : PySem.W.Frag) (H : Hp) (v : V) : Prop := (∃ x, v = .str x) ∨ ((∀ x, v ≠ .str x) ∧ ∃ T, TyX K H v (.type T) ∧ kitB T "str" = some false)
def spBOf (K : PySem.W.Frag) (CB : Addr) : Sp := fun vs H Q _ => ∃ (b : Addr) (v : V) (rooms : List Rm), vs = [.ref b, v] ∧ BookAt CB H b rooms ∧ TxtOr K H v ∧
  ∀ (t : Addr) (H' : Hp), L2.Same H H' → H' t = some (.tup ((numsV rooms v).map fun (n : Nat) => V.int (n : Int))) → Q (.ref t) H'
def optV : Option Nat → V
  | some n => .int (n : Int)
  | none => .non
def twoOf (rooms : List Rm) (u v : V) : Option Nat := (numsV rooms u).find? fun n => decide (n ∈ numsV rooms v)
def spBTwo (K : PySem.W.Frag) (CB : Addr) : Sp := fun vs H Q _ => ∃ (b : Addr) (u v : V) (rooms : List Rm), vs = [.ref b, u, v] ∧ BookAt CB H b rooms ∧ TxtOr K H u ∧ TxtOr K H v ∧
  ∀ H', L2.Same H H' → Q (optV (twoOf rooms u v)) H'
theorem cut_take {xs : List V} {i : Nat} (h : i < xs.length) : cutV xs none (some (i : Int)) = xs.take i ∧ ¬ (HT.sIx xs.length 0 none = 0 ∧ HT.sIx xs.length xs.length (some (i : Int)) = xs.length) := by
  have e1 : HT.sIx xs.length xs.length (some (i : Int)) = i := by rw [HT.sIx_nat]; omega
  refine ⟨?_, fun z => by rw [e1] at z; omega⟩
  unfold cutV
  rw [e1, HT.sIx_none]
  simp
section
variable {P : Program} {w : World} {K : PySem.W.Frag} {mg : Str → Option Value} {base : Heap} {CB : Addr}
abbrev nBInit : List Str := ["self", "rooms", "at", "room", "homes"]
theorem scBInit : FnScope nBInit ["self", "rooms"] (defScope sBInit) := ⟨rfl, rfl, rfl, by decide +kernel, rfl, by decide +kernel, by decide +kernel⟩
theorem ok_binit {f : Addr} {fd : FuncData} (F : Fun K "__init__" "Book.__init__" sBInit f fd) (T : TB K mg CB) (c__is_room : Cl P w K mg base CX0 2 "_is_room" ["value"] spIsRoom) (c__crosses_twice : Cl P w K mg base CX0 2 "_crosses_twice" ["room", "earlier"] spCross)
    (c__homes_of : Cl P w K mg base CX0 1 "_homes_of" ["rooms"] spHomes) : FnOk P w K mg base CX0 3 f fd ["self", "rooms"] (spBInit CB) := by
  refine F.ok scBInit (fun vs H Q E h => ?_) (fun cdv A outer s H vs Q E hr h => ?_)
  · obtain ⟨b, R, dx, rs, rfl, _⟩ := h
    rfl
  · obtain ⟨b, R, dx, rs, rfl, hb, hR, hI, ok, k⟩ := h
    refine ⟨_, (pss_cons (ps_if (PW.pt (pw_or (pt_not (pt_val (pe_callB (r := rIsi K) call_isi (by rfl) T.isi boot_isinstance (pa_cons (pv 1) (pa_cons (pe_bltn (v := .ty "tuple") (by rfl) T.tuple boot_tuple rfl) pa_nil))))) (pw_or1 (pt_not (pt_chain op_le op_le pe_int (pe_callB (r := rLenS K) call_lenS (by rfl) T.len PySem.boot_len (pa_cons (pv 1) pa_nil)) (C8.pe_gc (by rfl) T.g_MOST_ROOMS)))))) (pss_one (ps_never)) pss_nil)
        (pss_cons (ps_for PassesOwn.never rfl (pi_enumT (by rfl) T.enumerate (pa_cons (pv 1) pa_nil)) (pg_tup (n := 2) rfl (pgs_cons (pg_name (i := 2) scBInit.nd rfl (Or.inl rfl)) (pgs_cons (pg_name (i := 3) scBInit.nd rfl (Or.inl rfl)) pgs_nil)))
        (pss_one (ps_if (PW.pt (pw_or (pt_not (pt_val (pe_f c__is_room hr (by decide) pass0 (pa_cons (pv 3) pa_nil)))) (pw_or1 (pt_val (pe_f c__crosses_twice hr (by decide) pass0 (pa_cons (pv 3) (pa_cons (pe_slice sl_tupA (pv 1) po_none (po_some (pv 2))) pa_nil))))))) (pss_one (ps_never)) pss_nil)))
        (pss_cons (ps_set (i := 4) scBInit.nd rfl (Or.inl rfl) (pe_f c__homes_of hr (by decide) pass0 (pa_cons (pv 1) pa_nil)))
        (pss_cons (ps_if (pt_cmpR op_gt (pe_callB call_lenD (by rfl) T.len PySem.boot_len (pa_cons (pv 4) pa_nil)) (C8.pe_gc (by rfl) T.g_MOST_OUTCOMES) (nomark _)) (pss_one (ps_never)) pss_nil)
        (pss_cons (ps_fld (pv 0) (pv 1) rfl)
        (pss_one (ps_fld (pv 0) (pv 4) rfl))))))), ?_⟩
    have hlen : (refsOf rs).length = (rmsOf rs).length := by unfold refsOf rmsOf; rw [List.length_map, List.length_map]
    have hf := ok.few
    refine ⟨_, rfl, _, .ty "tuple", _, _, true, rfl, .ty _, .base (.tup hR), kit_ty (by decide +kernel), true, rfl, ?_⟩
    refine iteF ⟨_, rfl, R, _, rfl, .inr (SqT.of hR), _, _, rfl, rfl, true, congrArg V.bl (decide_eq_true (show (1 : Int) ≤ ((refsOf rs).length : Int) by omega)), ?_⟩
    refine iteT ⟨_, _, rfl, rfl, true, congrArg V.bl (decide_eq_true (show ((refsOf rs).length : Int) ≤ 10 by omega)), iteF ?_⟩
    refine ⟨_, rfl, R, _, rfl, SqT.of hR, for_it walk_enumT (fun i σ H' => ∃ v2 v3 : Option V, σ = [some (.ref b), some (.ref R), v2, v3, none] ∧ L2.Same H H')
      ⟨_, _, rfl, L2.Same.refl H⟩ (fun i σ H' _ ⟨_, _, _, S⟩ => SqT.of (S _ _ hR)) ?_ ?_⟩
    · rintro i v σ H1 H2 hi ⟨v2, v3, rfl, S⟩ ⟨T1, x1, y1, rfl, hT, rfl, e1, e2⟩
      obtain rfl : V.int (i : Nat) = x1 := Option.some.inj e1
      replace e2 : (refsOf rs)[i]? = some y1 := e2
      obtain ⟨r, hr', rfl⟩ : ∃ r, rs[i]? = some r ∧ y1 = V.ref r.1 := by
        unfold refsOf at e2
        rw [List.getElem?_map] at e2
        cases e : rs[i]? with
        | none => rw [e] at e2; cases e2
        | some z => rw [e] at e2; exact ⟨z, rfl, (Option.some.inj e2).symm⟩
      have hmem := List.mem_of_getElem? hr'
      have S2 := S.trans (RK.Same.upd (o := .tup [.int (i : Nat), .ref r.1]) hT)
      have hrm : r.2 ∈ rmsOf rs := List.mem_map_of_mem hmem
      have hro := ok.ok _ hrm
      refine ⟨T1, _, rfl, SqT.of upd_same, rfl, _, _, rfl, _, _, rfl, rfl, ?_⟩
      refine ⟨_, rfl, r.1, r.2, rfl, S2 _ _ (hI r hmem), hro, fun H3 S3 => ⟨true, rfl, ?_⟩⟩
      have S23 := S2.trans S3
      obtain ⟨c1, c2⟩ := cut_take (xs := refsOf rs) (i := i) hi
      refine iteF ⟨_, rfl, _, rfl, _, rfl, (i : Int), rfl, R, _, rfl, SqT.of (S23 _ _ hR), fun z => absurd z c2, fun _ p hp => ?_⟩
      have S4 := RK.Same.upd (o := .tup (cutV (refsOf rs) none (some (i : Int)))) hp
      have S24 := S23.trans S4
      have hil : i < rs.length := (List.getElem?_eq_some_iff.mp hr').1
      refine ⟨r.1, p, r.2, rs.take i, rfl, S24 _ _ (hI r hmem), ?_, fun q hq => S24 _ _ (hI q (List.mem_of_mem_take hq)), by have := hro.2.1; omega, by have := List.length_take_le i rs; omega, fun q hq => ?_, fun H5 S5 => ⟨false, rfl, iteF ?_⟩⟩
      · rw [upd_same, c1]
        unfold refsOf
        rw [List.map_take]
      · obtain ⟨j, hj, rfl⟩ := List.getElem_of_mem hq
        rw [List.length_take] at hj
        have hlt : j < i := by omega
        have hp2 := List.pairwise_iff_getElem.mp ok.one j i (by unfold rmsOf; rw [List.length_map]; omega) (by unfold rmsOf; rw [List.length_map]; omega) hlt
        have e1 : (rmsOf rs)[i]'(by unfold rmsOf; rw [List.length_map]; omega) = r.2 := by
          unfold rmsOf
          rw [List.getElem_map, (List.getElem?_eq_some_iff.mp hr').2]
        have e2 : (rmsOf rs)[j]'(by unfold rmsOf; rw [List.length_map]; omega) = ((rs.take i)[j]'(by rw [List.length_take]; omega)).2 := by
          unfold rmsOf
          rw [List.getElem_map, List.getElem_take]
        rw [e1, e2] at hp2
        exact hp2
      · exact ⟨_, _, rfl, S24.trans S5⟩
    · rintro σ H1 ⟨v2, v3, rfl, S⟩
      have h100 : ∀ r ∈ rs, r.2.length ≤ 100 := fun r hr => by
        have := (ok.ok r.2 (List.mem_map_of_mem hr)).2.1
        omega
      have hrl : rs.length ≤ 100 := by
        unfold rmsOf at hf
        rw [List.length_map] at hf
        omega
      refine ⟨_, rfl, R, rs, rfl, S _ _ hR, hI.same S, hrl, h100, fun D H2 S2 nD hm => ?_⟩
      have S12 := S.trans S2
      obtain ⟨kvs, hd, hk, hv⟩ := id hm
      have hkl : kvs.length ≤ 24 := by
        have e := congrArg List.length hk
        rw [List.length_map, List.length_map] at e
        have := ok.most
        unfold outsOf at this
        omega
      refine ⟨_, rfl, D, kvs, rfl, hd, _, _, rfl, rfl, false, congrArg V.bl (decide_eq_false (show ¬ (24 : Int) < (kvs.length : Int) by omega)), iteF ?_⟩
      have hb2 := S12 _ _ hb
      refine ⟨_, rfl, _, rfl, b, CB, dx, [], rfl, hb2, T.cl, T.nR, (by show 0 < 1000; decide), ?_⟩
      refine ⟨_, rfl, _, rfl, b, CB, dx, _, rfl, upd_same, T.cl, T.nH, (by show 1 < 1000; decide), ?_⟩
      have keep : ∀ c o, H c = some o → c ≠ b → (upd (upd H2 b (.ins CB dx (putF "rooms" (.ref R) []))) b (.ins CB dx (putF "_homes" (.ref D) (putF "rooms" (.ref R) [])))) c = some o := fun c o hc n => by
        rw [upd_ne n, upd_ne n]
        exact S12 _ _ hc
      have keep2 : ∀ c o, H2 c = some o → c ≠ b → (upd (upd H2 b (.ins CB dx (putF "rooms" (.ref R) []))) b (.ins CB dx (putF "_homes" (.ref D) (putF "rooms" (.ref R) [])))) c = some o := fun c o hc n => by
        rw [upd_ne n, upd_ne n]
        exact hc
      have nt : ∀ {c : Addr} {xs : List V}, H2 c = some (.tup xs) → c ≠ b := fun h => ne_of h hb2 (by intro z; cases z)
      refine k _ ⟨⟨dx, R, D, rs, upd_same, rfl, keep R _ hR (ne_of hR hb (by intro z; cases z)), fun q hq => keep q.1 _ (hI q hq) (ne_of (hI q hq) hb (by intro z; cases z)), ?_⟩, ok⟩ keep
      exact ⟨kvs, keep2 D _ hd (ne_of hd hb2 (by intro z; cases z)), hk, fun x => ⟨fun hx => by
        obtain ⟨t, h1, h2⟩ := (hv x).1 hx
        exact ⟨t, h1, keep2 t _ h2 (nt h2)⟩, (hv x).2⟩⟩
theorem scBOut : FnScope ["self"] ["self"] (defScope sBOut) := ⟨rfl, rfl, rfl, by decide +kernel, rfl, by decide +kernel, by decide +kernel⟩
theorem ok_bout {f : Addr} {fd : FuncData} (F : Fun K "outcomes" "Book.outcomes" sBOut f fd) (T : TB K mg CB) : FnOk P w K mg base CX0 1 f fd ["self"] (spBOut CB) := by
  refine F.ok scBOut (fun vs H Q E h => ?_) (fun cdv A outer s H vs Q E hr h => ?_)
  · obtain ⟨b, rooms, rfl, _⟩ := h
    rfl
  · obtain ⟨b, rooms, rfl, hB, k⟩ := h
    obtain ⟨dx, R, D, rs, h1, h2, h3, h4, kvs, hd, hk, hv⟩ := hB.ex
    refine ⟨_, (pss_one (ps_ret (pe_callTy call_tuple_of (by rfl) T.tuple boot_tuple (pa_cons (pe_callB (call_sortedD rfl) (by rfl) T.sorted (by decide +kernel) (pa_cons (pe_fld (pv 0) rfl) pa_nil)) pa_nil)))), ?_⟩
    have h24 := hB.ok.most
    refine ⟨_, rfl, b, CB, dx, _, _, rfl, h1, T.cl, T.nH, bflds_homes _ _, D, kvs, outsOf rooms, rfl, .inl hd, hk, by omega, fun ys p hp hs np => ?_⟩
    refine ⟨p, _, rfl, .inl ⟨SqL.of upd_same, fun l hl => ?_⟩⟩
    exact k l ys _ ((RK.Same.upd np).trans (RK.Same.upd hl)) upd_same ⟨hp, hs⟩
abbrev nBOf : List Str := ["self", "outcome"]
theorem scBOf : FnScope nBOf ["self", "outcome"] (defScope sBOf) := ⟨rfl, rfl, rfl, by decide +kernel, rfl, by decide +kernel, by decide +kernel⟩
theorem ok_bof {f : Addr} {fd : FuncData} (F : Fun K "rooms_of" "Book.rooms_of" sBOf f fd) (T : TB K mg CB) : FnOk P w K mg base CX0 1 f fd ["self", "outcome"] (spBOf K CB) := by
  refine F.ok scBOf (fun vs H Q E h => ?_) (fun cdv A outer s H vs Q E hr h => ?_)
  · obtain ⟨b, v, rooms, rfl, _⟩ := h
    rfl
  · obtain ⟨b, v, rooms, rfl, hB, hv, k⟩ := h
    have hu := hu_of hr
    refine ⟨_, (pss_cons (ps_if (pt_not (pt_val (pe_callB (r := rIsi K) call_isi (by rfl) T.isi boot_isinstance (pa_cons (pv 1) (pa_cons (pe_bltn (v := .ty "str") (by rfl) T.str (by decide +kernel) rfl) pa_nil))))) (pss_one (ps_ret (pe_tup pa_nil))) pss_nil)
        (pss_one (ps_ret (pe_dget2 hu (pe_fld (pv 0) rfl) (pv 1) (pe_tup pa_nil) ⟨rfl, rfl, rfl, rfl⟩)))), ?_⟩
    rcases hv with ⟨x, rfl⟩ | ⟨hn, Ty, hT, hk⟩
    · refine ⟨_, rfl, _, .ty "str", _, _, true, rfl, .ty _, .base (.str x), kit_ty (by decide +kernel), true, rfl, iteF ?_⟩
      obtain ⟨dx, R, D, rs, h1, h2, h3, h4, kvs, hd, hk, hv⟩ := hB.ex
      refine ⟨_, rfl, b, CB, dx, _, _, rfl, h1, T.cl, T.nH, bflds_homes _ _, D, rfl, .inl ⟨kvs, .inl hd⟩, _, rfl, (by show 0 ≤ sizeLine; decide), fun t0 ht0 => ⟨_, DGet.k (k := Sum.inr x) ((RK.Same.upd ht0) _ _ hd), ?_⟩⟩
      by_cases hx : x ∈ firsts (occs 0 rooms)
      · obtain ⟨t, e1, e2⟩ := (hv x).1 hx
        rw [e1]
        exact k t _ (RK.Same.upd ht0) ((RK.Same.upd ht0) _ _ e2)
      · rw [(hv x).2 hx]
        refine k t0 _ (RK.Same.upd ht0) ?_
        have : numsV rooms (.str x) = [] := numsOf_none fun z => hx ((mem_firsts _ _).mpr z)
        rw [this]
        exact upd_same
    · refine ⟨_, rfl, _, .ty "str", _, _, false, rfl, .ty _, hT, kit_ty hk, false, rfl, iteT ?_⟩
      refine ⟨(by show 0 ≤ sizeLine; decide), fun t0 ht0 => k t0 _ (RK.Same.upd ht0) ?_⟩
      have : numsV rooms v = [] := by
        cases v with
        | str x => exact absurd rfl (hn x)
        | _ => rfl
      rw [this]
      exact upd_same
theorem TxtOr.mono {H H' : Hp} (S : L2.Same H H') {v : V} (h : TxtOr K H v) : TxtOr K H' v := by
  rcases h with h | ⟨h0, T, h1, h2⟩
  · exact .inl h
  · exact .inr ⟨h0, T, TyX.mono S h1, h2⟩
abbrev nBTwo : List Str := ["self", "one", "other", "homes", "room"]
theorem scBTwo : FnScope nBTwo ["self", "one", "other"] (defScope sBTwo) := ⟨rfl, rfl, rfl, by decide +kernel, rfl, by decide +kernel, by decide +kernel⟩
theorem find_take {α : Type} {p : α → Bool} {l : List α} (h : ∀ x ∈ l, p x = false) : l.find? p = none := List.find?_eq_none.mpr fun x hx => by rw [h x hx]; exact Bool.false_ne_true
theorem ok_btwo {f : Addr} {fd : FuncData} (F : Fun K "room_of_two" "Book.room_of_two" sBTwo f fd) (T : TB K mg CB) (m_rooms_of : Cm P w K mg base CX0 1 CB "rooms_of" ["self", "outcome"] (spBOf K CB)) :
    FnOk P w K mg base CX0 2 f fd ["self", "one", "other"] (spBTwo K CB) := by
  refine F.ok scBTwo (fun vs H Q E h => ?_) (fun cdv A outer s H vs Q E hr h => ?_)
  · obtain ⟨b, u, v, rooms, rfl, _⟩ := h
    rfl
  · obtain ⟨b, u, v, rooms, rfl, hB, hu, hv, k⟩ := h
    refine ⟨_, (pss_cons (ps_set (i := 3) scBTwo.nd rfl (Or.inl rfl) (pe_m m_rooms_of T.cl hr (by decide) pass0 (pv 0) (pa_cons (pv 2) pa_nil)))
        (pss_cons (ps_for PassesOwn.never rfl (pi_tup (pe_m m_rooms_of T.cl hr (by decide) pass0 (pv 0) (pa_cons (pv 1) pa_nil))) (pg_name (i := 4) scBTwo.nd rfl (Or.inl rfl))
        (pss_one (ps_if (pt_cmpR (r := rIn K false) op_in_seq (pv 4) (pv 3) (by rfl)) (pss_one (ps_ret (pv 4))) pss_nil)))
        (pss_one (ps_ret pe_non)))), ?_⟩
    obtain ⟨dx, R, D, rs, h1, _⟩ := hB.ex
    have nm : (bflds R D).lookup ("rooms_of" : Str) = none := bflds_no _ _ (by decide +kernel) (by decide +kernel)
    refine ⟨_, rfl, b, dx, _, rfl, h1, nm, _, rfl, b, v, rooms, rfl, hB, hv, fun t1 H1 S1 e1 => ?_⟩
    refine ⟨_, rfl, b, dx, _, rfl, S1 _ _ h1, nm, _, rfl, b, u, rooms, rfl, hB.same S1, hu.mono S1, fun t2 H2 S2 e2 => ?_⟩
    refine ⟨t2, rfl, ⟨_, SqT.of e2⟩, for_tup (K := K) (a := t2) (xs := (numsV rooms u).map fun (n : Nat) => V.int (n : Int))
      (fun i σ H' => (∃ v4 : Option V, σ = [some (.ref b), some u, some v, some (.ref t1), v4]) ∧ L2.Same H2 H' ∧ ∀ n ∈ (numsV rooms u).take i, n ∉ numsV rooms v)
      ⟨⟨_, rfl⟩, L2.Same.refl H2, fun n h => absurd h (by simp)⟩ (fun i σ H' _ p => SqT.of (p.2.1 _ _ e2)) ?_ ?_⟩
    · rintro i z σ H' hi ⟨⟨v4, rfl⟩, S, hno⟩
      obtain ⟨n, hn, rfl⟩ : ∃ n, (numsV rooms u)[i]? = some n ∧ z = V.int (n : Int) := by
        rw [List.getElem?_map] at hi
        cases e : (numsV rooms u)[i]? with
        | none => rw [e] at hi; cases hi
        | some y => rw [e] at hi; exact ⟨y, rfl, (Option.some.inj hi).symm⟩
      have e1' := (S2.trans S) _ _ e1
      have em : (numsV rooms v).map (fun (n : Nat) => V.int (n : Int)) = ((numsV rooms v).map fun (n : Nat) => (n : Int)).map V.int := by rw [List.map_map]; rfl
      rw [em] at e1'
      refine ⟨_, rfl, _, rfl, t1, _, rfl, .inr (SqT.of e1'), rfl, flat_ints _, _, rfl, ?_⟩
      show if (inV (.int (n : Int)) (((numsV rooms v).map fun (n : Nat) => (n : Int)).map V.int)) = true then _ else _
      rw [inV_int]
      have hmem : ((n : Int) ∈ (numsV rooms v).map fun (n : Nat) => (n : Int)) ↔ n ∈ numsV rooms v := by
        rw [List.mem_map]
        exact ⟨fun ⟨m, hm, e⟩ => by rw [← (Int.ofNat_inj.mp e : m = n)]; exact hm, fun h => ⟨n, h, rfl⟩⟩
      refine ite2 (fun hb => ?_) (fun hb => ?_)
      · refine ⟨_, rfl, ?_⟩
        have hf : twoOf rooms u v = some n := by
          unfold twoOf
          have hil := (List.getElem?_eq_some_iff.mp hn).1
          have hsplit : numsV rooms u = (numsV rooms u).take i ++ n :: (numsV rooms u).drop (i + 1) := by
            rw [← (List.getElem?_eq_some_iff.mp hn).2, ← List.drop_eq_getElem_cons, List.take_append_drop]
          rw [hsplit, List.find?_append, find_take fun x hx => decide_eq_false (hno x hx), List.find?_cons]
          rw [show decide (n ∈ numsV rooms v) = true from decide_eq_true (hmem.mp (of_decide_eq_true hb))]
          rfl
        have := k H' (S1.trans (S2.trans S))
        rw [hf] at this
        exact this
      · refine ⟨⟨_, rfl⟩, S, fun m hm => ?_⟩
        rw [List.take_add_one, hn] at hm
        rcases List.mem_append.mp hm with hm | hm
        · exact hno m hm
        · have e : m = n := by simpa using hm
          rw [e]
          exact fun z => hb (decide_eq_true (hmem.mpr z))
    · rintro σ H' ⟨⟨v4, rfl⟩, S, hno⟩
      rw [List.length_map, List.take_length] at hno
      have hf : twoOf rooms u v = none := find_take fun x hx => decide_eq_false (hno x hx)
      have := k H' (S1.trans (S2.trans S))
      rw [hf] at this
      exact this
end
end K03


set_option Elab.async false
set_option linter.all false
set_option maxRecDepth 100000
set_option maxHeartbeats 4000000
/-! a law's own heap, draws, picks -/
namespace K03
open PySem PySem.Spec PyProof.Rows L2 RK
def topL (i : Nat) : Stmt := PySem.Challenge.pw_roomlooks_k03_whole_texts_there_and_back.main.body.getD i (.Pass ⟨0, 0, 0, 0⟩)
abbrev sHeap : Stmt := topL 38
abbrev sDraw : Stmt := topL 39
abbrev sPick : Stmt := topL 40
/-- the names that stand for what they are built in -/
structure TL (mg : Str → Option Value) : Prop where
  abs : mg "abs" = none
  int : mg "int" = none
  len : mg "len" = none
  range : mg "range" = none
  tuple : mg "tuple" = none
  list : mg "list" = none
  sorted : mg "sorted" = none
  any : mg "any" = none
  all : mg "all" = none
def spHeap (K : PySem.W.Frag) : Sp := fun vs H Q _ => ∃ (a : Addr) (ns : List Int), vs = [.ref a] ∧ SqL K H a (ns.map V.int) ∧ ns.length ≤ 63 ∧
  ∀ (h l : Addr) (H' : Hp), L2.Same H H' → H h = none → H l = none → HeapAt H' h l → Q (.ref h) H'
def spDraw : Sp := fun vs H Q _ => ∃ (h l : Addr) (m : Int), vs = [.ref h, .int m] ∧ HeapAt H h l ∧ 0 < m ∧ m < 1000000 ∧
  ∀ (d : Nat) (H' : Hp), (d : Int) < m → HeapAt H' h l → Kh h l H H' → Q (.int (d : Int)) H'
def spPick (K : PySem.W.Frag) : Sp := fun vs H Q _ => ∃ (h l q : Addr) (xs : List V), vs = [.ref h, .ref q] ∧ HeapAt H h l ∧ ((SqL K H q xs ∧ q ≠ h ∧ q ≠ l) ∨ H q = some (.tup xs)) ∧ 0 < xs.length ∧ xs.length ≤ 1000 ∧
  ∀ (v : V) (H' : Hp), v ∈ xs → HeapAt H' h l → Kh h l H H' → Q v H'
section
variable {P : Program} {w : World} {K : PySem.W.Frag} {mg : Str → Option Value} {base : Heap}
abbrev nHeap : List Str := ["script", "cells", "stir", "cell"]
theorem scHeap : FnScope nHeap ["script"] (defScope sHeap) := ⟨rfl, rfl, rfl, by decide +kernel, rfl, by decide +kernel, by decide +kernel⟩
theorem ok_heap {f : Addr} {fd : FuncData} (F : Fun K "_law_heap" "_law_heap" sHeap f fd) (T : TL mg) : FnOk P w K mg base CX0 1 f fd ["script"] (spHeap K) := by
  refine F.ok scHeap (fun vs H Q E h => ?_) (fun cdv A outer s H vs Q E hr h => ?_)
  · obtain ⟨a, ns, rfl, _⟩ := h
    rfl
  · obtain ⟨a, ns, rfl, hS, hl, k⟩ := h
    refine ⟨_, (pss_cons (ps_par (i := 1) (j := 2) (by rfl) scHeap.nd rfl rfl (by decide) rfl rfl (pa_cons (pe_lc (own := [("cell", 3)]) (g := gName 3) (tt := tYes) rfl scHeap.nd (pi_list (pe_slice sl_list (pv 0) po_none (po_some pe_int))) (blkOk_by (N := nHeap) (sc := defScope sHeap) (by decide +kernel)) (fun _ _ _ _ _ => pg_name (i := 3) scHeap.nd rfl (Or.inl rfl)) (fun _ _ _ _ _ => pts_nil) (fun _ _ _ _ _ => (pe_callB call_abs (by rfl) T.abs (by decide +kernel) (pa_cons (pv 3) pa_nil)))) (pa_cons pe_int pa_nil)) (by rfl))
        (pss_cons (ps_for PassesOwn.never rfl (pi_list (pv 1)) (pg_name (i := 3) scHeap.nd rfl (Or.inl rfl))
        (pss_one (ps_set (i := 2) scHeap.nd rfl (Or.inl rfl) (pe_op op_mod (pe_callTy call_int1 (by rfl) T.int boot_int (pa_cons (pe_op op_add (pe_op op_add (pe_op op_mul (pv 2) pe_int) (pe_op op_mod (pe_callTy call_int1 (by rfl) T.int boot_int (pa_cons (pv 3) pa_nil)) pe_int)) pe_int) pa_nil)) pe_int))))
        (pss_one (ps_ret (pe_lst (pa_cons (pe_revL (pe_lc (own := [("cell", 3)]) (g := gName 3) rfl scHeap.nd (pi_list (pv 1)) (blkOk_by (N := nHeap) (sc := defScope sHeap) (by decide +kernel)) (fun _ _ _ _ _ => pg_name (i := 3) scHeap.nd rfl (Or.inl rfl)) (fun _ _ _ _ _ => (pts_one (pt_cmpR op_ge (pv 3) (pe_op op_pow pe_int pe_int) (nomark _)))) (fun _ _ _ _ _ => (pv 3)))) (pa_cons (pv 2) pa_nil))))))), ?_⟩
    refine ⟨_, rfl, (60 : Int), rfl, a, _, rfl, hS, fun p1 hp1 => ?_⟩
    have S1 : L2.Same H (upd H p1 (.lst (cutV (ns.map V.int) none (some 60)))) := RK.Same.upd hp1
    have ec : cutV (ns.map V.int) none (some 60) = (ns.take 60).map V.int := cut_ints (k := 60)
    rw [ec] at S1 ⊢
    have hml : (ns.take 60).length ≤ 60 := by rw [List.length_take]; omega
    generalize ns.take 60 = ms at S1 hml ⊢
    refine ⟨p1, rfl, ⟨_, SqL.of upd_same⟩, fun C hC => ?_⟩
    have S2 : L2.Same H (upd (upd H p1 (.lst (ms.map V.int))) C (.lst [])) := RK.Same.updAt S1 (S1.free hC)
    have hCp : p1 ≠ C := fun z => by rw [← z, upd_same] at hC; cases hC
    refine lc_list (K := K) (a := p1) (xs := ms.map V.int) (fun i H' => L2.Same H H' ∧ H' p1 = some (.lst (ms.map V.int)) ∧ H' C = some (.lst ((ms.take i).map fun z => V.int (z.natAbs : Int))))
      ⟨S2, by rw [upd_ne hCp, upd_same], upd_same⟩ (fun i H' _ q => SqL.of q.2.1) ?_ ?_
    · rintro i v H' hi ⟨S, e1, e2⟩
      obtain ⟨z, hz, rfl⟩ : ∃ z, ms[i]? = some z ∧ v = V.int z := by
        rw [List.getElem?_map] at hi
        cases e : ms[i]? with
        | none => rw [e] at hi; cases hi
        | some z => rw [e] at hi; exact ⟨z, rfl, (Option.some.inj hi).symm⟩
      refine ⟨rfl, ?_⟩
      unfold tYes
      refine iteT ⟨_, rfl, _, rfl, _, e2, ?_, RK.Same.updAt S (S1.free hC), by rw [upd_ne hCp]; exact e1, ?_⟩
      · rw [List.length_map, List.length_take]
        exact Nat.lt_of_le_of_lt (Nat.min_le_right _ _) (Nat.lt_of_le_of_lt hml (by decide))
      · rw [upd_same, abs_if, List.take_add_one, hz, List.map_append]
        rfl
    · rintro Hc ⟨Sc, -, eC⟩
      rw [List.length_map, List.take_length] at eC
      have eC2 : Hc C = some (.lst ((ms.map fun z => (z.natAbs : Int)).map V.int)) := by rw [eC, List.map_map]; rfl
      have hal : (ms.map fun z => (z.natAbs : Int)).length ≤ 60 := by rw [List.length_map]; exact hml
      generalize (ms.map fun z => (z.natAbs : Int)) = as at eC2 hal
      refine ⟨_, _, rfl, ?_⟩
      refine ⟨_, rfl, C, rfl, ⟨_, SqL.of eC2⟩, for_list (K := K) (a := C) (xs := as.map V.int)
        (fun i σ H' => H' = Hc ∧ ∃ (t : Int) (v3 : Option V), σ = [some (.ref a), some (.ref C), some (.int t), v3] ∧ 0 ≤ t ∧ t < 2147483647)
        ⟨rfl, _, _, rfl, by decide, by decide⟩ (fun i σ H' _ q => by rw [q.1]; exact SqL.of eC2) ?_ ?_⟩
      · rintro i v σ H' hi ⟨rfl, t, v3, rfl, t0, t1⟩
        obtain ⟨z, hz, rfl⟩ : ∃ z, as[i]? = some z ∧ v = V.int z := by
          rw [List.getElem?_map] at hi
          cases e : as[i]? with
          | none => rw [e] at hi; cases hi
          | some z => rw [e] at hi; exact ⟨z, rfl, (Option.some.inj hi).symm⟩
        refine ⟨_, rfl, _, _, rfl, rfl, .inr ⟨by decide, by decide⟩, _, rfl, .inl ⟨_, rfl, _, _, rfl, rfl, (show (0 : Int) < 2147483543 by decide), _, _, rfl, rfl, _, _, rfl, rfl, .inl ⟨_, rfl, _, _, rfl, rfl, (show (0 : Int) < 2147483647 by decide), ?_⟩⟩⟩
        exact ⟨rfl, _, _, rfl, Int.emod_nonneg _ (by decide), Int.emod_lt_of_pos _ (by decide)⟩
      · rintro σ H' ⟨rfl, t, v3, rfl, t0, t1⟩
        refine ⟨_, rfl, C, rfl, ⟨_, SqL.of eC2⟩, fun D hD => ?_⟩
        refine lc_list (K := K) (a := C) (xs := as.map V.int) (fun i H2 => L2.Same H' H2 ∧ ∃ zs : List Int, H2 D = some (.lst (zs.map V.int)) ∧ zs.length ≤ i)
          ⟨RK.Same.upd hD, [], upd_same, Nat.le_refl 0⟩ (fun i H2 _ q => SqL.of (q.1 _ _ eC2)) ?_ ?_
        · rintro i v H2 hi ⟨S, zs, e2, zl⟩
          obtain ⟨z, hz, rfl⟩ : ∃ z, as[i]? = some z ∧ v = V.int z := by
            rw [List.getElem?_map] at hi
            cases e : as[i]? with
            | none => rw [e] at hi; cases hi
            | some z => rw [e] at hi; exact ⟨z, rfl, (Option.some.inj hi).symm⟩
          have hia : i < as.length := (List.getElem?_eq_some_iff.mp hz).1
          refine ⟨rfl, _, rfl, _, _, rfl, rfl, ⟨by decide, by decide, by decide⟩, _, _, rfl, rfl, _, rfl, ?_⟩
          refine ite2 (fun hb => ?_) (fun hb => ?_)
          · refine ⟨_, rfl, _, e2, ?_, RK.Same.updAt S hD, zs ++ [z], ?_, ?_⟩
            · rw [List.length_map]
              exact Nat.lt_of_lt_of_le (by omega : zs.length < 100) (by decide)
            · rw [upd_same, List.map_append]
              rfl
            · rw [List.length_append]
              exact Nat.add_le_add zl (Nat.le_refl 1)
          · exact ⟨S, zs, e2, Nat.le_succ_of_le zl⟩
        · rintro H2 ⟨S, zs, e2, zl⟩
          rw [List.length_map] at zl
          refine ⟨D, _, rfl, SqL.of e2, fun p hp => ⟨_, rfl, (by show 2 ≤ sizeLine; decide), fun h hh => ?_⟩⟩
          have S3 : L2.Same H (upd H2 p (.lst (zs.map V.int).reverse)) := RK.Same.updAt (Sc.trans S) ((Sc.trans S).free hp)
          have hph : h ≠ p := fun z => by rw [z, upd_same] at hh; cases hh
          refine k h p _ (RK.Same.updAt S3 (S3.free hh)) (S3.free hh) ((Sc.trans S).free hp) ⟨hph, zs.reverse, t, upd_same, ?_, t0, t1, ?_⟩
          · rw [upd_ne hph.symm, upd_same, List.map_reverse]
          · rw [List.length_reverse]
            omega
theorem scDraw : FnScope ["heap", "many", "rest"] ["heap", "many"] (defScope sDraw) := ⟨rfl, rfl, rfl, by decide +kernel, rfl, by decide +kernel, by decide +kernel⟩
def muZ (l : Addr) (H : Hp) : Nat := match H l with
  | some (.lst xs) => xs.length
  | _ => 0
theorem muZ_eq {H : Hp} {l : Addr} {xs : List V} (e2 : H l = some (.lst xs)) : muZ l H = xs.length := by
  unfold muZ
  simp only [e2]
theorem ok_draw {f : Addr} {fd : FuncData} (F : Fun K "_law_draw" "_law_draw" sDraw f fd) (T : TL mg) : FnOk P w K mg base CX0 1 f fd ["heap", "many"] spDraw := by
  refine F.ok scDraw (fun vs H Q E h => ?_) (fun cdv A outer s H vs Q E hr h => ?_)
  · obtain ⟨h, l, m, rfl, _⟩ := h
    rfl
  · obtain ⟨h, l, m, rfl, hH, m0, m1, k⟩ := h
    refine ⟨_, (pss_cons (ps_while PassesOwn.never (PW.pt (pw_and (pt_cmpR (r := rNeD K) (op_neD hr.units) (pe_ix (r := rIxL K) ix_list (pv 0) pe_int (fun _ _ => rfl)) (pe_lst pa_nil) (nomark _)) (pw_and1 (pt_cmpR op_eq (pe_ix (r := rIxL K) ix_list (pe_ix (r := rIxL K) ix_list (pv 0) pe_int (fun _ _ => rfl)) (pe_un un_neg pe_int) (fun _ _ => rfl)) pe_int (nomark _))))) (pss_one (ps_expr (pe_bm0 PySem.F.plainAttrs_list PySem.F.slot_list_pop PySem.F.type_list_pop mt_pop (pe_ix (r := rIxL K) ix_list (pv 0) pe_int (fun _ _ => rfl))))))
        (pss_cons (ps_if (pt_cmpR (r := rNeD K) (op_neD hr.units) (pe_ix (r := rIxL K) ix_list (pv 0) pe_int (fun _ _ => rfl)) (pe_lst pa_nil) (nomark _)) (pss_cons (ps_set (i := 2) scDraw.nd rfl (Or.inl rfl) (pe_bm0 PySem.F.plainAttrs_list PySem.F.slot_list_pop PySem.F.type_list_pop mt_pop (pe_ix (r := rIxL K) ix_list (pv 0) pe_int (fun _ _ => rfl))))
        (pss_cons (ps_expr (pe_bm PySem.F.plainAttrs_list PySem.F.slot_list_append PySem.F.type_list_append mt_append (pe_ix (r := rIxL K) ix_list (pv 0) pe_int (fun _ _ => rfl)) (pa_cons (pe_op op_fdivA (pv 2) (pv 1)) pa_nil)))
        (pss_one (ps_ret (pe_op op_modN (pe_callTy call_int1 (by rfl) T.int boot_int (pa_cons (pv 2) pa_nil)) (pv 1)))))) pss_nil)
        (pss_cons (ps_asg (pe_op op_mod (pe_callTy call_int1 (by rfl) T.int boot_int (pa_cons (pe_op op_add (pe_op op_mul (pe_ix (r := rIxL K) ix_list (pv 0) pe_int (fun _ _ => rfl)) pe_int) pe_int) pa_nil)) pe_int) (pg_sub (pv 0) pe_int set_list))
        (pss_one (ps_ret (pe_op op_modN (pe_callTy call_int1 (by rfl) T.int boot_int (pa_cons (pe_op op_fdiv (pe_ix (r := rIxL K) ix_list (pv 0) pe_int (fun _ _ => rfl)) pe_int) pa_nil)) (pv 1))))))), ?_⟩
    have dv : ∀ i : Int, DivAny i m := fun i => divAny (b := 20) (by omega) (by omega) (by decide) (by decide)
    refine seq_while (fun H' => HeapAt H' h l ∧ Kh h l H H') (muZ l) (fun H' => HeapAt H' h l ∧ Kh h l H H')
      (moT_and (moT_test (moE_op moR_neD (moE_op moR_ixL moE_var moE_c) moE_lst0)) (moT_test (moE_op moR_eq (moE_op moR_ixL (moE_op moR_ixL moE_var moE_c) (moE_un moE_c)) moE_c)))
      ⟨hH, Kh.refl h l H⟩ ?_ ?_
    · rintro H1 ⟨⟨ne, zs, s, e1, e2, s0, s1, zl⟩, kh⟩
      refine ixl rfl e1 rfl ⟨(by show 0 ≤ sizeLine; decide), fun q hq => ?_⟩
      have SQ : L2.Same H1 (upd H1 q (.lst [])) := RK.Same.upd hq
      have e1' := SQ _ _ e1
      have e2' := SQ _ _ e2
      have kh' := kh.trans (Kh.of (h := h) (l := l) SQ)
      refine ne_nil_ints (SQ _ _ e2) upd_same ⟨_, rfl, ?_⟩
      generalize upd H1 q (.lst []) = H2 at e1' e2' kh' SQ ⊢
      refine ite2 (fun hz => ?_) (fun hz => ?_)
      · rcases List.eq_nil_or_concat zs with rfl | ⟨ys, z, rfl⟩
        · exact absurd hz (by decide)
        · rw [List.concat_eq_append] at *
          rw [List.map_append] at e2'
          refine ixl rfl e1' rfl ⟨.inl ⟨rfl, _, SqL.of e2'⟩, l, _, .int z, rfl, rfl, e2', by simp, ?_⟩
          have e1'' : (upd H2 l (.lst ((ys.map V.int ++ [z].map V.int).dropLast))) h = some (.lst [.ref l, .int s]) := by rw [upd_ne ne]; exact e1'
          have e2'' : (upd H2 l (.lst ((ys.map V.int ++ [z].map V.int).dropLast))) l = some (.lst (ys.map V.int)) := by rw [upd_same]; simp
          have kh'' := kh'.trans (Kh.upd2 (h := h) (l := l) (H := H2) (o := .lst ((ys.map V.int ++ [z].map V.int).dropLast)))
          generalize upd H2 l (.lst ((ys.map V.int ++ [z].map V.int).dropLast)) = H3 at e1'' e2'' kh'' ⊢
          rw [List.length_append, List.length_singleton] at zl
          refine ixl rfl e1'' rfl ⟨.inl ⟨rfl, _, SqL.of e2''⟩, _, rfl, _, rfl, _, _, rfl, rfl, dv _, l, _, _, rfl, rfl, e2'', ?_, ?_⟩
          · rw [List.length_map]
            exact Nat.lt_of_lt_of_le (by omega : ys.length < 101) (by decide)
          · refine ⟨_, rfl, .inl ⟨_, rfl, _, rfl, _, _, rfl, rfl, (by omega : m ≠ 0), ?_⟩⟩
            obtain ⟨f0, f1⟩ := fmod_lt (a := z) m0
            obtain ⟨j, hj⟩ : ∃ j : Nat, z.fmod m = (j : Int) := ⟨(z.fmod m).toNat, by omega⟩
            show Q (.int (z.fmod m)) _
            rw [hj]
            refine k j _ (by omega) ⟨ne, ys ++ [z.fdiv m], s, ?_, ?_, s0, s1, ?_⟩ (kh''.trans Kh.upd2)
            · rw [upd_ne ne]
              exact e1''
            · rw [upd_same, List.map_append]
              rfl
            · rw [List.length_append, List.length_singleton]
              omega
      · refine ixl rfl e1' rfl ⟨_, _, rfl, rfl, .inr ⟨by decide, by decide⟩, _, _, rfl, rfl, .inl ⟨_, rfl, _, _, rfl, rfl, (show (0 : Int) < 2147483647 by decide), _, rfl, h, _, _, 1, rfl, rfl, e1', rfl, ?_⟩⟩
        have g0 := Int.emod_nonneg (s * 48271 + 11) (show (2147483647 : Int) ≠ 0 by decide)
        have g1 := Int.emod_lt_of_pos (s * 48271 + 11) (show (0 : Int) < 2147483647 by decide)
        have e1'' : (upd H2 h (.lst ([V.ref l, .int s].set 1 (.int ((s * 48271 + 11) % 2147483647))))) h = some (.lst [.ref l, .int ((s * 48271 + 11) % 2147483647)]) := by rw [upd_same]; rfl
        have e2'' : (upd H2 h (.lst ([V.ref l, .int s].set 1 (.int ((s * 48271 + 11) % 2147483647))))) l = some (.lst (zs.map V.int)) := by rw [upd_ne ne.symm]; exact e2'
        refine ixl rfl e1'' rfl ⟨_, _, rfl, rfl, ⟨by decide, by decide⟩, .inl ⟨_, rfl, _, rfl, _, _, rfl, rfl, (by omega : m ≠ 0), ?_⟩⟩
        obtain ⟨f0, f1⟩ := fmod_lt (a := ((s * 48271 + 11) % 2147483647) / 64) m0
        obtain ⟨j, hj⟩ : ∃ j : Nat, (((s * 48271 + 11) % 2147483647) / 64).fmod m = (j : Int) := ⟨((((s * 48271 + 11) % 2147483647) / 64).fmod m).toNat, by omega⟩
        show Q (.int ((((s * 48271 + 11) % 2147483647) / 64).fmod m)) _
        rw [hj]
        exact k j _ (by omega) ⟨ne, zs, ((s * 48271 + 11) % 2147483647), e1'', e2'', g0, g1, zl⟩ (kh'.trans Kh.upd1)
    · rintro H1 ⟨⟨ne, zs, s, e1, e2, s0, s1, zl⟩, kh⟩
      refine ixl rfl e1 rfl ⟨(by show 0 ≤ sizeLine; decide), fun q hq => ?_⟩
      have SQ : L2.Same H1 (upd H1 q (.lst [])) := RK.Same.upd hq
      refine ne_nil_ints (SQ _ _ e2) upd_same ⟨_, rfl, ?_⟩
      have e1' := SQ _ _ e1
      have e2' := SQ _ _ e2
      have kh' := kh.trans (Kh.of (h := h) (l := l) SQ)
      have mz : muZ l H1 = zs.length := by rw [muZ_eq e2, List.length_map]
      generalize upd H1 q (.lst []) = H2 at e1' e2' kh' SQ ⊢
      refine ite2 (fun hz => ?_) (fun hz => ?_)
      · rcases List.eq_nil_or_concat zs with rfl | ⟨ys, z, rfl⟩
        · exact absurd hz (by decide)
        · rw [List.concat_eq_append] at *
          rw [List.map_append] at e2'
          refine ixl rfl e1' rfl ⟨1, rfl, l, _, _, _, rfl, rfl, SqL.of e2', atI_last, rfl, _, rfl, ?_⟩
          refine ite2 (fun hp => ?_) (fun hp => ?_)
          · refine ixl rfl e1' rfl ⟨.inl ⟨rfl, _, SqL.of e2'⟩, l, _, .int z, rfl, rfl, e2', ?_, ⟨rfl, ⟨ne, ys, s, ?_, ?_, s0, s1, ?_⟩, kh'.trans Kh.upd2⟩, ?_⟩
            · simp
            · rw [upd_ne ne]
              exact e1'
            · rw [upd_same]
              simp
            · rw [List.length_append] at zl
              omega
            · rw [mz, muZ_eq upd_same]
              simp
          · exact ⟨⟨ne, ys ++ [z], s, e1', by rw [List.map_append]; exact e2', s0, s1, zl⟩, kh'⟩
      · exact ⟨⟨ne, zs, s, e1', e2', s0, s1, zl⟩, kh'⟩
theorem scPick : FnScope ["heap", "some"] ["heap", "some"] (defScope sPick) := ⟨rfl, rfl, rfl, by decide +kernel, rfl, by decide +kernel, by decide +kernel⟩
theorem ok_pick {f : Addr} {fd : FuncData} (F : Fun K "_law_pick" "_law_pick" sPick f fd) (T : TL mg) (c__law_draw : Cl P w K mg base CX0 1 "_law_draw" ["heap", "many"] spDraw) : FnOk P w K mg base CX0 2 f fd ["heap", "some"] (spPick K) := by
  refine F.ok scPick (fun vs H Q E h => ?_) (fun cdv A outer s H vs Q E hr h => ?_)
  · obtain ⟨h, l, q, xs, rfl, _⟩ := h
    rfl
  · obtain ⟨h, l, q, xs, rfl, hH, hq, h0, h1, k⟩ := h
    refine ⟨_, (pss_one (ps_ret (pe_ix ix_seq (pv 1) (pe_f c__law_draw hr (by decide) pass0 (pa_cons (pv 0) (pa_cons (pe_callB (r := rLenS K) call_lenS (by rfl) T.len PySem.boot_len (pa_cons (pv 1) pa_nil)) pa_nil))) (fun _ _ => rfl)))), ?_⟩
    have hsq : SqL K H q xs ∨ SqT K H q xs := hq.elim (fun z => .inl z.1) fun z => .inr (SqT.of z)
    refine ⟨_, rfl, _, rfl, _, rfl, q, _, rfl, hsq, h, l, _, rfl, hH, by omega, by omega, fun d H' hd hH' kh => ?_⟩
    have hdl : d < xs.length := by omega
    have hg : xs[d]? = some xs[d] := List.getElem?_eq_getElem hdl
    rcases hq with ⟨hq, n1, n2⟩ | hq
    · refine .inl ⟨q, xs, _, xs[d], rfl, rfl, ?_, atI_nat hg, k _ H' (List.getElem_mem hdl) hH' kh⟩
      rcases hq with (hq | ⟨o, hq⟩) | hq
      · exact .inl (.inl (kh _ _ hq n1 n2))
      · exact .inl (.inr ⟨o, kh _ _ hq n1 n2⟩)
      · exact .inr hq
    · obtain ⟨ne, zs, s, e1, e2, _⟩ := hH
      refine .inr (.inl ⟨q, xs, _, xs[d], rfl, rfl, SqT.of (kh _ _ hq (ne_of hq e1 (by intro z; cases z)) (ne_of hq e2 (by intro z; cases z))), atI_nat hg, k _ H' (List.getElem_mem hdl) hH' kh⟩)
end
end K03


set_option Elab.async false
set_option linter.all false
set_option maxRecDepth 100000
set_option maxHeartbeats 4000000
/-! drawn names -/
namespace K03
open PySem PySem.Spec PyProof.Rows L2 RK
abbrev sNames : Stmt := topL 41
def spNames : Sp := fun vs H Q _ => ∃ (h l : Addr) (n : Nat), vs = [.ref h, .int (n : Int)] ∧ HeapAt H h l ∧ n ≤ 24 ∧
  ∀ (p : Addr) (names : List Str) (H' : Hp), HeapAt H' h l → Kh h l H H' → H p = none → H' p = some (.lst (names.map V.str)) → names.length = n → names.Nodup → (∀ x ∈ names, NameOk x) → Q (.ref p) H'
section
variable {P : Program} {w : World} {K : PySem.W.Frag} {mg : Str → Option Value} {base : Heap}
abbrev nNames : List Str := ["heap", "many", "letters", "found", "front", "turn", "word", "letter", "place"]
theorem scNames : FnScope nNames ["heap", "many"] (defScope sNames) := ⟨rfl, rfl, rfl, by decide +kernel, rfl, by decide +kernel, by decide +kernel⟩
theorem ok_names {f : Addr} {fd : FuncData} (F : Fun K "_law_names" "_law_names" sNames f fd) (T : TL mg) (c__law_draw : Cl P w K mg base CX0 1 "_law_draw" ["heap", "many"] spDraw) (c__law_pick : Cl P w K mg base CX0 2 "_law_pick" ["heap", "some"] (spPick K)) :
    FnOk P w K mg base CX0 3 f fd ["heap", "many"] spNames := by
  refine F.ok scNames (fun vs H Q E h => ?_) (fun cdv A outer s H vs Q E hr h => ?_)
  · obtain ⟨h, l, n, rfl, _⟩ := h
    rfl
  · obtain ⟨h, l, n, rfl, hH, hn, k⟩ := h
    refine ⟨_, (pss_cons (ps_asg (pe_tup (pa_cons pe_str (pa_cons (pe_lst pa_nil) pa_nil))) (pg_tup (n := 2) rfl (pgs_cons (pg_name (i := 2) scNames.nd rfl (Or.inr rfl)) (pgs_cons (pg_name (i := 3) scNames.nd rfl (Or.inl rfl)) pgs_nil))))
        (pss_cons (ps_set (i := 4) scNames.nd rfl (Or.inl rfl) (pe_f c__law_pick hr (by decide) pass0 (pa_cons (pv 0) (pa_cons (pe_lst (pa_cons pe_str (pa_cons pe_str (pa_cons (pe_ix ix_str (pv 2) (pe_f c__law_draw hr (by decide) pass0 (pa_cons (pv 0) (pa_cons pe_int pa_nil))) (fun _ _ => rfl)) (pa_cons (pe_op op_repS (pe_ix ix_str (pv 2) (pe_f c__law_draw hr (by decide) pass0 (pa_cons (pv 0) (pa_cons pe_int pa_nil))) (fun _ _ => rfl)) pe_int) pa_nil))))) pa_nil))))
        (pss_cons (ps_for PassesOwn.never rfl (pi_range1 (by rfl) T.range (pa_cons (pv 1) pa_nil)) (pg_name (i := 5) scNames.nd rfl (Or.inl rfl))
        (pss_cons (ps_set (i := 6) scNames.nd rfl (Or.inl rfl) (pe_op op_add_str (pv 4) (pe_join pe_str (pe_lc (own := [("place", 8)]) (g := gName 8) (tt := tYes) rfl scNames.nd (pi_range1 (by rfl) T.range (pa_cons (pe_op op_add pe_int (pe_f c__law_draw hr (by decide) pass0 (pa_cons (pv 0) (pa_cons pe_int pa_nil)))) pa_nil)) (blkOk_by (N := nNames) (sc := defScope sNames) (by decide +kernel)) (fun _ _ _ _ _ => pg_name (i := 8) scNames.nd rfl (Or.inl rfl)) (fun _ _ _ _ _ => pts_nil) (fun _ _ _ _ _ => (pe_ix ix_str (pv 2) (pe_f c__law_draw hr (by decide) pass0 (pa_cons (pv 0) (pa_cons pe_int pa_nil))) (fun _ _ => rfl)))))))
        (pss_cons (ps_for PassesOwn.never rfl (pi_str (pv 2)) (pg_name (i := 7) scNames.nd rfl (Or.inl rfl))
        (pss_one (ps_set (i := 6) scNames.nd rfl (Or.inl rfl) (pe_ifExp (pt_cmpR op_in_seq (pv 6) (pv 3) (by rfl)) (pe_op op_add_str (pe_slice sl_str (pv 6) po_none (po_some pe_int)) (pv 7)) (pv 6)))))
        (pss_one (ps_expr (pe_bm PySem.F.plainAttrs_list PySem.F.slot_list_append PySem.F.type_list_append mt_append (pv 3) (pa_cons (pv 6) pa_nil)))))))
        (pss_one (ps_ret (pv 3)))))), ?_⟩
    refine ⟨(by show 0 ≤ sizeLine; decide), fun p hp => ⟨(by show 2 ≤ sizeLine; decide), fun tp htp => ?_⟩⟩
    have S1 : L2.Same H (upd H p (.lst [])) := RK.Same.upd hp
    refine ⟨tp, _, rfl, SqT.of upd_same, rfl, _, _, rfl, _, _, rfl, rfl, ?_⟩
    have e1 : (upd (upd H p (.lst [])) tp (.tup [.str lettersS, .ref p])) p = some (.lst []) := by
      rw [upd_ne (fun z => by rw [← z, upd_same] at htp; cases htp), upd_same]
    have S2 : L2.Same H (upd (upd H p (.lst [])) tp (.tup [.str lettersS, .ref p])) := RK.Same.updAt S1 (S1.free htp)
    generalize upd (upd H p (.lst [])) tp (.tup [.str lettersS, .ref p]) = H2 at e1 S2 ⊢
    have hH2 := hH.same S2
    have Kp2 : Kh h l H H2 := Kh.of S2
    obtain ⟨hne, zs, s0, f1, f2, _⟩ := id hH
    have hph : p ≠ h := fun z => by rw [z, f1] at hp; cases hp
    have hpl : p ≠ l := fun z => by rw [z, f2] at hp; cases hp
    refine ⟨_, rfl, _, rfl, _, rfl, h, l, _, rfl, hH2, by decide, by decide, fun d1 H3 hd1 hH3 k3 => ix_letter (by omega) ⟨_, rfl, _, rfl, h, l, _, rfl, hH3, by decide, by decide, fun d2 H4 hd2 hH4 k4 => ix_letter (by omega)
      ⟨_, _, rfl, rfl, by decide, by decide, (by show 1 ≤ 1; decide), (by show 1 ≤ 1000; decide), (by show 4 ≤ sizeLine; decide), fun q hq => ?_⟩⟩⟩
    obtain ⟨-, zs4, s4, g1, g2, _⟩ := id hH4
    have hqh : q ≠ h := fun z => by rw [z, g1] at hq; cases hq
    have hql : q ≠ l := fun z => by rw [z, g2] at hq; cases hq
    have S4 := RK.Same.upd (o := .lst [.str "", .str "", .str ⟨#[97 + d1]⟩, .str (repS ⟨#[97 + d2]⟩ 2)]) hq
    refine ⟨h, l, q, _, rfl, hH4.same S4, .inl ⟨SqL.of upd_same, hqh, hql⟩, (by show 0 < 4; decide), (by show 4 ≤ 1000; decide), fun v H5 hv hH5 k5 => ?_⟩
    obtain ⟨fr, rfl, fl, fs⟩ : ∃ fr : Str, v = .str fr ∧ fr.length ≤ 2 ∧ LowS fr := by
      have l1 := low_one (d := d1) (by omega)
      have l2 := low_rep (low_one (d := d2) (by omega))
      simp only [List.mem_cons, List.not_mem_nil, or_false] at hv
      rcases hv with rfl | rfl | rfl | rfl
      · exact ⟨_, rfl, by decide, low_empty⟩
      · exact ⟨_, rfl, by decide, low_empty⟩
      · exact ⟨_, rfl, (by show 1 ≤ 2; decide), l1⟩
      · exact ⟨_, rfl, (by rw [l2.2]; show 2 * 1 ≤ 2; decide), l2.1⟩
    have K5 : Kh h l H H5 := (((Kp2.trans k3).trans k4).trans (Kh.of S4)).trans k5
    have e5 : H5 p = some (.lst []) := k5 _ _ (S4 _ _ (k4 _ _ (k3 _ _ e1 hph hpl) hph hpl)) hph hpl
    refine ⟨_, rfl, (n : Int), rfl, by omega, by omega, for_range (fun i σ H' => ∃ (v5 v6 v7 : Option V) (names : List Str), σ = [some (.ref h), some (.int (n : Int)), some (.str lettersS), some (.ref p), some (.str fr), v5, v6, v7, none] ∧ HeapAt H' h l ∧ Kh h l H H' ∧
      H' p = some (.lst (names.map V.str)) ∧ names.length = i ∧ names.Nodup ∧ ∀ x ∈ names, NameOk x) ⟨_, _, _, [], rfl, hH5, K5, e5, rfl, List.nodup_nil, fun x hx => absurd hx List.not_mem_nil⟩ ?_ ?_⟩
    · rintro i σ H6 hi ⟨v5, v6, v7, names, rfl, hH6, K6, e6, nl, nd, nok⟩
      have hi' : i < n := by omega
      refine ⟨_, rfl, ⟨_, rfl⟩, _, rfl, h, l, _, rfl, hH6, by decide, by decide, fun d3 H7 hd3 hH7 k7 => ⟨_, _, rfl, rfl, _, rfl, by omega, by omega, fun C hC => ?_⟩⟩
      have e7 := k7 _ _ e6 hph hpl
      obtain ⟨-, zs7, s7, g1, g2, _⟩ := id hH7
      have hCh : C ≠ h := fun z => by rw [z, g1] at hC; cases hC
      have hCl : C ≠ l := fun z => by rw [z, g2] at hC; cases hC
      have hCp : C ≠ p := fun z => by rw [z, e7] at hC; cases hC
      have hC0 : H C = none := by
        cases e : H C with
        | none => rfl
        | some o =>
          have := (K6.trans k7) _ _ e hCh hCl
          rw [hC] at this
          cases this
      refine lc_range (lo := 0) (fun j H' => HeapAt H' h l ∧ Kh h l H H' ∧ H' p = some (.lst (names.map V.str)) ∧ ∃ ys : List Str, H' C = some (.lst (ys.map V.str)) ∧ ys.length = j ∧ ∀ y ∈ ys, LowS y ∧ y.length = 1)
        ⟨hH7.same (RK.Same.upd hC), (K6.trans k7).trans (Kh.of (RK.Same.upd hC)), by rw [upd_ne hCp.symm]; exact e7, [], upd_same, rfl, fun y hy => absurd hy List.not_mem_nil⟩ ?_ ?_
      · rintro j H8 hj ⟨hH8, K8, e8, ys, c8, yl, yw⟩
        refine ⟨rfl, ?_⟩
        unfold tYes
        refine iteT ⟨_, rfl, _, rfl, h, l, _, rfl, hH8, by decide, by decide, fun d4 H9 hd4 hH9 k9 => ix_letter (by omega) ⟨_, k9 _ _ c8 hCh hCl, ?_, ?_⟩⟩
        · rw [List.length_map]
          exact Nat.lt_of_lt_of_le (by omega : ys.length < 100) (by decide)
        · obtain ⟨-, zs9, s9, g1, g2, g3⟩ := hH9
          refine ⟨⟨hne, zs9, s9, by rw [upd_ne hCh.symm]; exact g1, by rw [upd_ne hCl.symm]; exact g2, g3⟩, fun b o hb n1 n2 => ?_, by rw [upd_ne hCp.symm]; exact k9 _ _ e8 hph hpl, ys ++ [⟨#[97 + d4]⟩], by rw [upd_same, List.map_append]; rfl, by rw [List.length_append, yl]; rfl, fun y hy => ?_⟩
          · rw [upd_ne (ne_of_none hb hC0)]
            exact (K8.trans k9) _ _ hb n1 n2
          · rcases List.mem_append.mp hy with hy | hy
            · exact yw y hy
            · rw [List.mem_singleton.mp hy]
              exact ⟨low_one (by omega), rfl⟩
      · rintro H8 ⟨hH8, K8, e8, ys, c8, yl, yw⟩
        obtain ⟨w1, w2⟩ := join_word yw
        refine ⟨_, C, ys, rfl, rfl, .inl (SqL.of c8), ?_, _, _, rfl, rfl, ?_, ?_⟩
        · rw [ones_sum yw]
          show ys.length + ys.length * 0 ≤ _
          omega
        · rw [w2]
          exact Nat.le_trans (by omega : _ ≤ 100) (by decide)
        have hw0 : Word (fr ++ Txt.join ("" : Str) ys) := by
          refine ⟨?_, ?_, low_app fs w1⟩
          · rw [app_len, w2]
            omega
          · rw [app_len, w2]
            omega
        refine ⟨_, rfl, lettersS, rfl, for_it walk_str (fun m σ H' => H' = H8 ∧ ∃ (v7 : Option V) (wd : Str), σ = [some (.ref h), some (.int (n : Int)), some (.str lettersS), some (.ref p), some (.str fr), some (.int ((0 : Int) + (i : Nat))), some (.str wd), v7, none] ∧ Word wd ∧ Fresh names m wd)
          ⟨rfl, _, _, rfl, hw0, fresh_zero _ _⟩ (fun _ _ _ _ _ => trivial) ?_ ?_⟩
        · rintro m v σ H9 H10 hm ⟨rfl, v7, wd, rfl, hw, hf⟩ ⟨rfl, c, hc, rfl⟩
          have hm26 : m < 26 := by rw [← lets_len]; exact hm
          obtain rfl : c = 97 + m := by
            have e := let_at m hm26
            rw [Array.getElem?_toList, hc] at e
            exact Option.some.inj e
          refine ⟨_, rfl, _, rfl, p, _, rfl, .inl (SqL.of e8), rfl, flat_strs names, _, rfl, ?_⟩
          show if (inV (.str wd) (names.map V.str)) = true then _ else _
          rw [inV_str]
          have hn1 := fresh_step hf
          have hn2 := word_next (found := names) hm26 hw
          refine ite2 (fun hb => ?_) (fun hb => ?_)
          · have hx : nextW names m wd = cutS wd none (some 4) ++ ⟨#[97 + m]⟩ := if_pos (of_decide_eq_true hb)
            rw [hx] at hn1 hn2
            have hcl : (cutS wd none (some 4)).length ≤ 4 := by
              rw [RK.len_list, cut_list, List.length_take]
              omega
            refine ⟨_, rfl, (4 : Int), rfl, wd, rfl, Nat.le_trans hw.2.1 (by decide), _, rfl, _, _, rfl, rfl, ?_, ?_⟩
            · show (cutS wd none (some 4)).length + 1 ≤ sizeLine
              exact Nat.le_trans (by omega : _ ≤ 5) (by decide)
            · exact ⟨rfl, _, _, rfl, hn2, hn1⟩
          · have hx : nextW names m wd = wd := if_neg fun z => hb (decide_eq_true z)
            rw [hx] at hn1 hn2
            exact ⟨_, rfl, rfl, _, _, rfl, hn2, hn1⟩
        · rintro σ H9 ⟨rfl, v7, wd, rfl, hw, hf⟩
          rw [lets_len] at hf
          have hfr := fresh_end hf (by omega)
          refine ⟨_, rfl, .inl ⟨rfl, _, SqL.of e8⟩, _, rfl, p, _, _, rfl, rfl, e8, ?_, ?_⟩
          · rw [List.length_map]
            exact Nat.lt_of_lt_of_le (by omega : names.length < 100) (by decide)
          · obtain ⟨-, zs9, s9, g1, g2, g3⟩ := hH8
            refine ⟨_, _, _, names ++ [wd], rfl, ⟨hne, zs9, s9, by rw [upd_ne hph.symm]; exact g1, by rw [upd_ne hpl.symm]; exact g2, g3⟩, fun b o hb n1 n2 => ?_, by rw [upd_same, List.map_append]; rfl, by rw [List.length_append, nl]; rfl, ?_, fun x hx => ?_⟩
            · rw [upd_ne (ne_of_none hb hp)]
              exact K8 _ _ hb n1 n2
            · rw [List.nodup_append]
              refine ⟨nd, by simp, fun a ha b hb e => ?_⟩
              rw [List.mem_singleton.mp hb] at e
              exact hfr (e ▸ ha)
            · rcases List.mem_append.mp hx with hx | hx
              · exact nok x hx
              · rw [List.mem_singleton.mp hx]
                exact hw.name
    · rintro σ H6 ⟨v5, v6, v7, names, rfl, hH6, K6, e6, nl, nd, nok⟩
      refine ⟨_, rfl, k p names H6 hH6 K6 hp e6 (by rw [nl]; omega) nd nok⟩
end
end K03


set_option Elab.async false
set_option linter.all false
set_option maxRecDepth 100000
set_option maxHeartbeats 4000000
/-! drawn rooms -/
namespace K03
open PySem PySem.Spec PyProof.Rows L2 RK
abbrev sApart : Stmt := topL 42
abbrev sRooms : Stmt := topL 43
def spApart : Sp := fun vs H Q _ => ∃ (R t : Addr) (x : Str) (rs : List (Addr × Rm)) (taken : List Str), vs = [.ref R, .ref t, .str x] ∧ H R = some (.lst (refsOf rs)) ∧ RoomsIn H rs ∧ H t = some (.lst (taken.map V.str)) ∧ taken.length ≤ 100 ∧
  ∀ H', L2.Same H H' → Q (.bl (apartB (rmsOf rs) taken x)) H'
section
variable {P : Program} {w : World} {K : PySem.W.Frag} {mg : Str → Option Value} {base : Heap}
abbrev nApart : List Str := ["rooms", "taken", "one", "room", "other"]
theorem scApart : FnScope nApart ["rooms", "taken", "one"] (defScope sApart) := ⟨rfl, rfl, rfl, by decide +kernel, rfl, by decide +kernel, by decide +kernel⟩
theorem refs_at {rs : List (Addr × Rm)} {i : Nat} {v : V} (h : (refsOf rs)[i]? = some v) : ∃ r, rs[i]? = some r ∧ v = V.ref r.1 := by
  unfold refsOf at h
  rw [List.getElem?_map] at h
  cases e : rs[i]? with
  | none => rw [e] at h; cases h
  | some z => rw [e] at h; exact ⟨z, rfl, (Option.some.inj h).symm⟩
theorem strs_at {ys : List Str} {i : Nat} {v : V} (h : (ys.map V.str)[i]? = some v) : ∃ y, ys[i]? = some y ∧ v = V.str y := by
  rw [List.getElem?_map] at h
  cases e : ys[i]? with
  | none => rw [e] at h; cases h
  | some z => rw [e] at h; exact ⟨z, rfl, (Option.some.inj h).symm⟩
theorem inV_strB (x : Str) (ys : List Str) : inV (.str x) (ys.map V.str) = decide (x ∈ ys) := inV_str x ys
theorem ok_apart {f : Addr} {fd : FuncData} (F : Fun K "_law_apart" "_law_apart" sApart f fd) (T : TL mg) : FnOk P w K mg base CX0 1 f fd ["rooms", "taken", "one"] spApart := by
  refine F.ok scApart (fun vs H Q E h => ?_) (fun cdv A outer s H vs Q E hr h => ?_)
  · obtain ⟨R, t, x, rs, taken, rfl, _⟩ := h
    rfl
  · obtain ⟨R, t, x, rs, taken, rfl, hR, hI, ht, htl, k⟩ := h
    refine ⟨_, (pss_cons (ps_for PassesOwn.never rfl (pi_list (pv 0)) (pg_name (i := 3) scApart.nd rfl (Or.inr rfl))
        (pss_one (ps_if (PW.pt (pw_and (pt_cmpR (r := rIn K false) op_in_seq (pv 2) (pv 3) (by rfl)) (pw_and1 (pt_val (pe_callB (r := rAny K) (cr_any rfl) (by rfl) T.any (by decide +kernel) (pa_cons (pe_lc (own := [("other", 4)]) (g := gName 4) (tt := tYes) rfl scApart.nd (pi_list (pv 1)) (blkOk_by (N := nApart) (sc := defScope sApart) (by decide +kernel)) (fun _ _ _ _ _ => pg_name (i := 4) scApart.nd rfl (Or.inl rfl)) (fun _ _ _ _ _ => pts_nil) (fun _ _ _ _ _ => (pe_cmpR (r := rIn K false) op_in_seq (pv 4) (pv 3) (by rfl)))) pa_nil)))))) (pss_one (ps_ret pe_bl)) pss_nil)))
        (pss_one (ps_ret (pe_cmpR (r := rIn K true) op_notIn_seq (pv 2) (pv 1) (by rfl))))), ?_⟩
    refine ⟨_, rfl, R, rfl, ⟨_, SqL.of hR⟩, for_list (K := K) (a := R) (xs := refsOf rs)
      (fun i σ H' => (∃ v3 : Option V, σ = [some (.ref R), some (.ref t), some (.str x), v3, none]) ∧ L2.Same H H' ∧ ((rmsOf rs).take i).all (fun r => !(decide (x ∈ r) && taken.any fun y => decide (y ∈ r))) = true)
      ⟨⟨_, rfl⟩, L2.Same.refl H, rfl⟩ (fun i σ H' _ q => SqL.of (q.2.1 _ _ hR)) ?_ ?_⟩
    · rintro i v σ H1 hi ⟨⟨v3, rfl⟩, S, ha⟩
      obtain ⟨r, hr', rfl⟩ := refs_at hi
      have hm := List.mem_of_getElem? hr'
      have hrm : (rmsOf rs)[i]? = some r.2 := by
        unfold rmsOf
        rw [List.getElem?_map, hr']
        rfl
      have hst : ((rmsOf rs).take (i + 1)).all (fun r => !(decide (x ∈ r) && taken.any fun y => decide (y ∈ r))) = !(decide (x ∈ r.2) && taken.any fun y => decide (y ∈ r.2)) := by
        rw [List.take_add_one, hrm, List.all_append, ha]
        simp
      have hno : (decide (x ∈ r.2) && taken.any fun y => decide (y ∈ r.2)) = true → apartB (rmsOf rs) taken x = false := fun h => by
        unfold apartB
        rw [Bool.and_eq_false_iff]
        refine .inl (List.all_eq_false.mpr ⟨r.2, List.mem_map_of_mem hm, ?_⟩)
        rw [h]
        decide
      refine ⟨_, rfl, _, rfl, r.1, _, rfl, .inr (SqT.of (S _ _ (hI r hm))), rfl, flat_strs r.2, _, rfl, ?_⟩
      show if (inV (.str x) (r.2.map V.str)) = true then _ else _
      rw [inV_str]
      refine ite2 (fun hb => ?_) (fun hb => ?_)
      · refine ⟨_, rfl, t, rfl, ⟨_, SqL.of (S _ _ ht)⟩, fun D hD => ?_⟩
        refine lc_list (K := K) (a := t) (xs := taken.map V.str) (fun j H' => L2.Same H1 H' ∧ H' D = some (.lst (((taken.take j).map fun y => decide (y ∈ r.2)).map V.bl))) ⟨RK.Same.upd hD, upd_same⟩ (fun j H' _ q => SqL.of (q.1 _ _ (S _ _ ht))) ?_ ?_
        · rintro j v H2 hj ⟨S2, e2⟩
          obtain ⟨y, hy, rfl⟩ := strs_at hj
          refine ⟨rfl, ?_⟩
          unfold tYes
          refine iteT ⟨_, rfl, _, rfl, r.1, _, rfl, .inr (SqT.of (S2 _ _ (S _ _ (hI r hm)))), rfl, flat_strs r.2, _, e2, ?_, RK.Same.updAt S2 hD, ?_⟩
          · rw [List.length_map, List.length_map, List.length_take]
            exact Nat.lt_of_lt_of_le (by omega : min j taken.length < 101) (by decide)
          · rw [upd_same, List.take_add_one, hy, List.map_append, List.map_append]
            show some (HO.lst (_ ++ [V.bl (inV (.str y) (r.2.map V.str))])) = _
            rw [inV_str]
            rfl
        · rintro H2 ⟨S2, e2⟩
          rw [List.length_map, List.take_length] at e2
          refine ⟨D, _, rfl, SqL.of e2, _, rfl, ?_⟩
          have ea : (taken.map fun y => decide (y ∈ r.2)).any id = taken.any fun y => decide (y ∈ r.2) := by rw [List.any_map]; rfl
          rw [ea]
          refine ite2 (fun hc => ?_) (fun hc => ?_)
          · have := k H2 (S.trans S2)
            rw [hno (by rw [hb, hc]; rfl)] at this
            exact this
          · refine ⟨⟨_, rfl⟩, S.trans S2, ?_⟩
            rw [hst, Bool.eq_false_iff.mpr hc, Bool.and_false]
            rfl
      · refine ⟨⟨_, rfl⟩, S, ?_⟩
        rw [hst, Bool.eq_false_iff.mpr hb]
        rfl
    · rintro σ H1 ⟨⟨v3, rfl⟩, S, ha⟩
      refine ⟨_, rfl, _, rfl, t, _, rfl, .inl (SqL.of (S _ _ ht)), rfl, flat_strs taken, ?_⟩
      have := k H1 S
      rw [if_pos rfl, inV_str]
      have e : apartB (rmsOf rs) taken x = !decide (x ∈ taken) := by
        have hl : (refsOf rs).length = (rmsOf rs).length := by unfold refsOf rmsOf; rw [List.length_map, List.length_map]
        rw [hl, List.take_length] at ha
        unfold apartB
        rw [ha, Bool.true_and]
        by_cases h : x ∈ taken
        · rw [decide_eq_true h, decide_eq_false (not_not_intro h)]
          rfl
        · rw [decide_eq_false h, decide_eq_true h]
          rfl
      rw [← e]
      exact this
/-- a pick that is put behind a list -/
theorem pick_app {D : Ends} {σ : L2.St} {H' : Hp} {h l p O : Addr} {i : Nat} {xs : List Str} {ys : List V} (h0 : σ[0]? = some (some (.ref h))) (h8 : σ[8]? = some (some (.ref p))) (hi : σ[i]? = some (some (.ref O)))
    (hH : HeapAt H' h l) (hO : H' O = some (.lst (xs.map V.str))) (ne : xs ≠ []) (hl : xs.length ≤ 1000) (n1 : O ≠ h) (n2 : O ≠ l) (hp : H' p = some (.lst ys)) (n3 : p ≠ h) (n4 : p ≠ l) (hy : ys.length < sizeLine)
    (k : ∀ (x : Str) (H2 : Hp), x ∈ xs → HeapAt H2 h l → Kh h l H' H2 → D.nx σ (upd H2 p (.lst (ys ++ [.str x])))) :
    tDrop (tBM K "list" rAppend (tVar 8) (tCons (tCall (spPick K) [] E0 (tCons (tVar 0) (tCons (tVar i) tNil))) tNil)) D σ H' := by
  refine ⟨_, h8, .inl ⟨rfl, _, SqL.of hp⟩, _, h0, _, hi, h, l, O, _, rfl, hH, .inl ⟨SqL.of hO, n1, n2⟩, ?_, ?_, fun v H2 hv hH2 k2 => ?_⟩
  · rw [List.length_map]
    exact List.length_pos_iff.mpr ne
  · rw [List.length_map]
    exact hl
  · obtain ⟨x, hx, rfl⟩ := List.mem_map.mp hv
    exact ⟨p, _, _, rfl, rfl, k2 _ _ hp n3 n4, hy, k x H2 hx hH2 k2⟩
/-- what stands while rooms are drawn -/
structure StR (H H' : Hp) (h l R U : Addr) (rs : List (Addr × Rm)) (us : List Str) : Prop where
  heap : HeapAt H' h l
  kh : Kh h l H H'
  r : H' R = some (.lst (refsOf rs))
  rin : RoomsIn H' rs
  u : H' U = some (.lst (us.map V.str))
  rh : R ≠ h
  rl : R ≠ l
  uh : U ≠ h
  ul : U ≠ l
  ru : R ≠ U
  r0 : H R = none
theorem RoomsIn.kh {h l : Addr} {H H' : Hp} {rs : List (Addr × Rm)} (hH : HeapAt H h l) (k : Kh h l H H') (a : RoomsIn H rs) : RoomsIn H' rs := fun r hr => by
  obtain ⟨-, zs, s, e1, e2, _⟩ := hH
  exact k _ _ (a r hr) (ne_of (a r hr) e1 (by intro z; cases z)) (ne_of (a r hr) e2 (by intro z; cases z))
theorem RoomsIn.updL {p : Addr} {H : Hp} {o : HO} {xs : List V} {rs : List (Addr × Rm)} (hp : H p = some (.lst xs)) (a : RoomsIn H rs) : RoomsIn (upd H p o) rs := fun r hr => by
  rw [upd_ne (ne_of (a r hr) hp (by intro z; cases z))]
  exact a r hr
theorem StR.same {H H1 H2 : Hp} {h l R U : Addr} {rs : List (Addr × Rm)} {us : List Str} (a : StR H H1 h l R U rs us) (S : L2.Same H1 H2) : StR H H2 h l R U rs us :=
  { a with heap := a.heap.same S, kh := a.kh.trans (Kh.of S), r := S _ _ a.r, rin := a.rin.same S, u := S _ _ a.u }
theorem StR.khs {H H1 H2 : Hp} {h l R U : Addr} {rs : List (Addr × Rm)} {us : List Str} (a : StR H H1 h l R U rs us) (hh : HeapAt H2 h l) (k : Kh h l H1 H2) : StR H H2 h l R U rs us :=
  { a with heap := hh, kh := a.kh.trans k, r := k _ _ a.r a.rh a.rl, rin := RoomsIn.kh a.heap k a.rin, u := k _ _ a.u a.uh a.ul }
theorem heap_updO {H : Hp} {h l p : Addr} {o : HO} (a : HeapAt H h l) (n1 : p ≠ h) (n2 : p ≠ l) : HeapAt (upd H p o) h l := by
  obtain ⟨ne, zs, s, e1, e2, e3⟩ := a
  exact ⟨ne, zs, s, by rw [upd_ne n1.symm]; exact e1, by rw [upd_ne n2.symm]; exact e2, e3⟩
theorem StR.updp {H H1 : Hp} {h l R U p : Addr} {o : HO} {xs : List V} {rs : List (Addr × Rm)} {us : List Str} (a : StR H H1 h l R U rs us) (hp : H1 p = some (.lst xs)) (p0 : H p = none) (n1 : p ≠ h) (n2 : p ≠ l) (n3 : p ≠ R) (n4 : p ≠ U) : StR H (upd H1 p o) h l R U rs us :=
  { a with
    heap := heap_updO a.heap n1 n2
    kh := fun b u hb m1 m2 => by rw [upd_ne (ne_of_none hb p0)]; exact a.kh _ _ hb m1 m2
    r := by rw [upd_ne n3.symm]; exact a.r
    rin := a.rin.updL hp
    u := by rw [upd_ne n4.symm]; exact a.u }
theorem StR.newp {H H1 : Hp} {h l R U : Addr} {rs : List (Addr × Rm)} {us : List Str} (a : StR H H1 h l R U rs us) {p : Addr} (hp : H1 p = none) : p ≠ h ∧ p ≠ l ∧ p ≠ R ∧ p ≠ U ∧ H p = none := by
  obtain ⟨-, zs, s, e1, e2, _⟩ := a.heap
  have n1 : p ≠ h := fun z => by rw [z, e1] at hp; cases hp
  have n2 : p ≠ l := fun z => by rw [z, e2] at hp; cases hp
  refine ⟨n1, n2, (fun z => by rw [z, a.r] at hp; cases hp), (fun z => by rw [z, a.u] at hp; cases hp), ?_⟩
  cases e : H p with
  | none => rfl
  | some o =>
    have := a.kh _ _ e n1 n2
    rw [hp] at this
    cases this
theorem StR.newu {H H1 : Hp} {h l R U U2 : Addr} {rs : List (Addr × Rm)} {us vs : List Str} (a : StR H H1 h l R U rs us) (hu : H1 U2 = some (.lst (vs.map V.str))) (n1 : U2 ≠ h) (n2 : U2 ≠ l) (n3 : R ≠ U2) : StR H H1 h l R U2 rs vs :=
  { a with u := hu, uh := n1, ul := n2, ru := n3 }
theorem low_ok {x : Str} (h : LowS x) : PyData.strOk x = true := by
  unfold PyData.strOk
  rw [Array.all_eq_true']
  intro c hc
  have := h c (Array.mem_toList_iff.mpr hc)
  unfold lowB at this
  rw [Bool.and_eq_true, decide_eq_true_eq, decide_eq_true_eq] at this
  exact decide_eq_true (by omega)
theorem filt_take {l : List Str} {q : Str → Bool} {i : Nat} {x : Str} (h : l[i]? = some x) : (l.take (i + 1)).filter q = if q x = true then (l.take i).filter q ++ [x] else (l.take i).filter q := by
  rw [List.take_add_one, h, List.filter_append]
  by_cases hx : q x = true
  · rw [if_pos hx]
    simp [hx]
  · rw [if_neg hx]
    simp [hx]
/-- a room is being made -/
def InvJ (H : Hp) (h l Nm R U p : Addr) (a2 a3 a6 a7 : V) (names : List Str) (rs : List (Addr × Rm)) (us : List Str) (j : Nat) (σ : L2.St) (H' : Hp) : Prop :=
  ∃ (v9 v10 v11 : Option V) (rm : List Str), σ = [some (.ref h), some (.ref Nm), some a2, some a3, some (.ref R), some (.ref U), some a6, some a7, some (.ref p), v9, v10, v11, none] ∧
    StR H H' h l R U rs us ∧ H' p = some (.lst (rm.map V.str)) ∧ Mkr names (rmsOf rs) us rm j
theorem invJ_add {H H7 H8 : Hp} {h l Nm R U p : Addr} {a2 a3 a6 a7 : V} {names : List Str} {rs : List (Addr × Rm)} {us rm : List Str} {j : Nat} {σ : L2.St} {v9 v10 v11 : Option V} {x : Str}
    (hs : σ = [some (.ref h), some (.ref Nm), some a2, some a3, some (.ref R), some (.ref U), some a6, some a7, some (.ref p), v9, v10, v11, none]) (st : StR H H7 h l R U rs us) (ep : H7 p = some (.lst (rm.map V.str)))
    (pn : p ≠ h ∧ p ≠ l ∧ p ≠ R ∧ p ≠ U ∧ H p = none) (hH8 : HeapAt H8 h l) (k8 : Kh h l H7 H8) (m : Mkr names (rmsOf rs) us rm j) (h1 : x ∈ names) (h2 : x ∉ rm) (h3 : ∀ r ∈ rmsOf rs, x ∈ r → ∀ y ∈ rm, y ∉ r) :
    InvJ H h l Nm R U p a2 a3 a6 a7 names rs us (j + 1) σ (upd H8 p (.lst (rm.map V.str ++ [.str x]))) := by
  obtain ⟨p1, p2, p3, p4, p5⟩ := pn
  refine ⟨v9, v10, v11, rm ++ [x], hs, (st.khs hH8 k8).updp (k8 _ _ ep p1 p2) p5 p1 p2 p3 p4, ?_, mkr_add m h1 h2 h3⟩
  rw [upd_same, List.map_append]
  rfl
def spRooms : Sp := fun vs H Q _ => ∃ (h l Nm : Addr) (names : List Str) (many most : Nat), vs = [.ref h, .ref Nm, .int (many : Int), .int (most : Int)] ∧ HeapAt H h l ∧ H Nm = some (.lst (names.map V.str)) ∧ Nm ≠ h ∧ Nm ≠ l ∧
  names.Nodup ∧ (∀ x ∈ names, NameOk x) ∧ 5 ≤ names.length ∧ names.length ≤ 24 ∧ 1 ≤ many ∧ many ≤ 9 ∧ 3 ≤ most ∧ most ≤ 5 ∧
  ∀ (R : Addr) (rs : List (Addr × Rm)) (H' : Hp), HeapAt H' h l → Kh h l H H' → H R = none → H' R = some (.lst (refsOf rs)) → RoomsIn H' rs → RoomsOk (rmsOf rs) → rs.length ≤ 9 → (∀ r ∈ rs, ∀ x ∈ r.2, x ∈ names) → Q (.ref R) H'
abbrev nRooms : List Str := ["heap", "names", "many", "most", "rooms", "used", "turn", "size", "room", "place", "old", "new", "one"]
theorem scRooms : FnScope nRooms ["heap", "names", "many", "most"] (defScope sRooms) := ⟨rfl, rfl, rfl, by decide +kernel, rfl, by decide +kernel, by decide +kernel⟩
theorem ok_rooms {f : Addr} {fd : FuncData} (F : Fun K "_law_rooms" "_law_rooms" sRooms f fd) (T : TL mg) (c__law_draw : Cl P w K mg base CX0 1 "_law_draw" ["heap", "many"] spDraw) (c__law_pick : Cl P w K mg base CX0 2 "_law_pick" ["heap", "some"] (spPick K)) (c__law_apart : Cl P w K mg base CX0 1 "_law_apart" ["rooms", "taken", "one"] spApart) :
    FnOk P w K mg base CX0 3 f fd ["heap", "names", "many", "most"] spRooms := by
  refine F.ok scRooms (fun vs H Q E h => ?_) (fun cdv A outer s H vs Q E hr h => ?_)
  · obtain ⟨h, l, Nm, names, many, most, rfl, _⟩ := h
    rfl
  · obtain ⟨h, l, Nm, names, many, most, rfl, hH, hN, nh, nl, nnd, nok, n5, n23, m1, m9, o3, o5, k⟩ := h
    refine ⟨_, (pss_cons (ps_asg (pe_tup (pa_cons (pe_lst pa_nil) (pa_cons (pe_lst pa_nil) pa_nil))) (pg_tup (n := 2) rfl (pgs_cons (pg_name (i := 4) scRooms.nd rfl (Or.inr rfl)) (pgs_cons (pg_name (i := 5) scRooms.nd rfl (Or.inr rfl)) pgs_nil))))
        (pss_cons (ps_for PassesOwn.never rfl (pi_range1 (by rfl) T.range (pa_cons (pv 2) pa_nil)) (pg_name (i := 6) scRooms.nd rfl (Or.inl rfl))
        (pss_cons (ps_asg (pe_tup (pa_cons (pe_op op_add pe_int (pe_f c__law_draw hr (by decide) pass0 (pa_cons (pv 0) (pa_cons (pe_op op_sub (pv 3) pe_int) pa_nil)))) (pa_cons (pe_lst pa_nil) pa_nil))) (pg_tup (n := 2) rfl (pgs_cons (pg_name (i := 7) scRooms.nd rfl (Or.inl rfl)) (pgs_cons (pg_name (i := 8) scRooms.nd rfl (Or.inr rfl)) pgs_nil))))
        (pss_cons (ps_for PassesOwn.never rfl (pi_range1 (by rfl) T.range (pa_cons (pv 7) pa_nil)) (pg_name (i := 9) scRooms.nd rfl (Or.inl rfl))
        (pss_cons (ps_setLc (i := 10) (own := [("one", 12)]) (g := gName 12) rfl scRooms.nd rfl rfl (sw_true rfl rfl rfl (by decide +kernel)) (pi_list (pv 5)) (blkOk_by (N := nRooms) (sc := defScope sRooms) (by decide +kernel)) (fun _ _ _ _ _ => pg_name (i := 12) scRooms.nd rfl (Or.inl rfl)) (fun _ _ _ _ _ => (pts_one (pt_val (pe_f c__law_apart hr (by decide) pass0 (pa_cons (pv 4) (pa_cons (pv 8) (pa_cons (pv 12) pa_nil))))))) (fun _ _ _ _ _ => (pv 12)))
        (pss_cons (ps_setLc (i := 11) (own := [("one", 12)]) (g := gName 12) rfl scRooms.nd rfl rfl (sw_true rfl rfl rfl (by decide +kernel)) (pi_list (pv 1)) (blkOk_by (N := nRooms) (sc := defScope sRooms) (by decide +kernel)) (fun _ _ _ _ _ => pg_name (i := 12) scRooms.nd rfl (Or.inl rfl)) (fun _ _ _ _ _ => (pts_one (PW.pt (pw_and (pt_cmpR (r := rIn K true) op_notIn_seq (pv 12) (pv 5) (by rfl)) (pw_and1 (pt_cmpR (r := rIn K true) op_notIn_seq (pv 12) (pv 8) (by rfl))))))) (fun _ _ _ _ _ => (pv 12)))
        (pss_one (ps_if (PW.pt (pw_and (pt_cmpR (r := rNeD K) (op_neD hr.units) (pv 10) (pe_lst pa_nil) (nomark _)) (pw_and1 (PW.pt (pw_or (pt_cmpR (r := rEqD K) (op_eqD hr.units) (pv 11) (pe_lst pa_nil) (nomark _)) (pw_or1 (pt_cmpR op_eq (pe_f c__law_draw hr (by decide) pass0 (pa_cons (pv 0) (pa_cons pe_int pa_nil))) pe_int (nomark _)))))))) (pss_one (ps_expr (pe_bm PySem.F.plainAttrs_list PySem.F.slot_list_append PySem.F.type_list_append mt_append (pv 8) (pa_cons (pe_f c__law_pick hr (by decide) pass0 (pa_cons (pv 0) (pa_cons (pv 10) pa_nil))) pa_nil)))) (pss_one (ps_if (pt_cmpR (r := rNeD K) (op_neD hr.units) (pv 11) (pe_lst pa_nil) (nomark _)) (pss_one (ps_expr (pe_bm PySem.F.plainAttrs_list PySem.F.slot_list_append PySem.F.type_list_append mt_append (pv 8) (pa_cons (pe_f c__law_pick hr (by decide) pass0 (pa_cons (pv 0) (pa_cons (pv 11) pa_nil))) pa_nil)))) pss_nil)))))))
        (pss_one (ps_if (pt_cmpR op_gt (pe_callB (r := rLenS K) call_lenS (by rfl) T.len PySem.boot_len (pa_cons (pv 8) pa_nil)) pe_int (nomark _)) (pss_cons (ps_expr (pe_bm PySem.F.plainAttrs_list PySem.F.slot_list_append PySem.F.type_list_append mt_append (pv 4) (pa_cons (pe_callTy call_tuple_of (by rfl) T.tuple boot_tuple (pa_cons (pe_callB cr_sortedS (by rfl) T.sorted (by decide +kernel) (pa_cons (pv 8) pa_nil)) pa_nil)) pa_nil)))
        (pss_one (ps_set (i := 5) scRooms.nd rfl (Or.inr rfl) (pe_op op_cat (pv 5) (pe_lc (own := [("one", 12)]) (g := gName 12) rfl scRooms.nd (pi_list (pv 8)) (blkOk_by (N := nRooms) (sc := defScope sRooms) (by decide +kernel)) (fun _ _ _ _ _ => pg_name (i := 12) scRooms.nd rfl (Or.inl rfl)) (fun _ _ _ _ _ => (pts_one (pt_cmpR (r := rIn K true) op_notIn_seq (pv 12) (pv 5) (by rfl)))) (fun _ _ _ _ _ => (pv 12))))))) pss_nil)))))
        (pss_one (ps_ret (pv 4))))), ?_⟩
    refine ⟨(by show 0 ≤ sizeLine; decide), fun R hR => ⟨(by show 0 ≤ sizeLine; decide), fun U hU => ⟨(by show 2 ≤ sizeLine; decide), fun tp htp => ?_⟩⟩⟩
    refine ⟨tp, _, rfl, SqT.of upd_same, rfl, _, _, rfl, _, _, rfl, rfl, ?_⟩
    have S0 : L2.Same H (upd (upd (upd H R (.lst [])) U (.lst [])) tp (.tup [.ref R, .ref U])) := RK.Same.updAt (RK.Same.updAt (RK.Same.upd hR) ((RK.Same.upd hR).free hU)) ((RK.Same.updAt (RK.Same.upd hR) ((RK.Same.upd hR).free hU)).free htp)
    have hUR : R ≠ U := fun z => by rw [← z, upd_same] at hU; cases hU
    have eU : (upd (upd (upd H R (.lst [])) U (.lst [])) tp (.tup [.ref R, .ref U])) U = some (.lst []) := by
      rw [upd_ne (fun z => by rw [← z, upd_same] at htp; cases htp), upd_same]
    have eR : (upd (upd (upd H R (.lst [])) U (.lst [])) tp (.tup [.ref R, .ref U])) R = some (.lst []) := by
      rw [upd_ne (fun z => by rw [← z, upd_ne hUR, upd_same] at htp; cases htp), upd_ne hUR, upd_same]
    generalize upd (upd (upd H R (.lst [])) U (.lst [])) tp (.tup [.ref R, .ref U]) = H0 at S0 eU eR ⊢
    obtain ⟨-, zs, s0, f1, f2, _⟩ := id hH
    have hU0 := (RK.Same.upd hR).free hU
    have st0 : StR H H0 h l R U [] [] := ⟨hH.same S0, Kh.of S0, eR, fun r hr => absurd hr List.not_mem_nil, eU, (fun z => by rw [z, f1] at hR; cases hR), (fun z => by rw [z, f2] at hR; cases hR),
      (fun z => by rw [z, f1] at hU0; cases hU0), (fun z => by rw [z, f2] at hU0; cases hU0), hUR, hR⟩
    have hok : ∀ x ∈ names, PyData.strOk x = true := fun x hx => low_ok (nok x hx).2.2
    refine ⟨_, rfl, (many : Int), rfl, by omega, by omega, for_range (fun i σ H' => ∃ (U : Addr) (v6 v7 v8 v9 v10 v11 : Option V) (rs : List (Addr × Rm)) (us : List Str),
      σ = [some (.ref h), some (.ref Nm), some (.int (many : Int)), some (.int (most : Int)), some (.ref R), some (.ref U), v6, v7, v8, v9, v10, v11, none] ∧ StR H H' h l R U rs us ∧ Mk names (rmsOf rs) us ∧ rs.length ≤ i ∧ (1 ≤ i → rs ≠ []))
      ⟨U, _, _, _, _, _, _, [], [], rfl, st0, mk_nil names, Nat.le_refl 0, fun z => absurd z (by decide)⟩ ?_ ?_⟩
    · rintro i σ H1 hi ⟨U, v6, v7, v8, v9, v10, v11, rs, us, rfl, st, M, rl, rne⟩
      have hul : us.length ≤ 24 := Nat.le_trans (nodup_sub_len M.nd M.sub) n23
      refine ⟨_, rfl, _, rfl, _, _, rfl, rfl, h, l, _, rfl, st.heap, by omega, by omega, fun d H2 hd hH2 k2 => ⟨_, _, rfl, rfl, (by show 0 ≤ sizeLine; decide), fun p hp => ⟨(by show 2 ≤ sizeLine; decide), fun tq htq => ?_⟩⟩⟩
      refine ⟨tq, _, rfl, SqT.of upd_same, rfl, _, _, rfl, _, _, rfl, rfl, ?_⟩
      have st2 := st.khs hH2 k2
      obtain ⟨p1, p2, p3, p4, p5⟩ := st2.newp hp
      have ep : (upd (upd H2 p (.lst [])) tq (.tup [.int ((3 : Int) + (d : Int)), .ref p])) p = some (.lst []) := by
        rw [upd_ne (fun z => by rw [← z, upd_same] at htq; cases htq), upd_same]
      have st3 := st2.same (RK.Same.updAt (o := .tup [.int ((3 : Int) + (d : Int)), .ref p]) (RK.Same.upd (o := .lst []) hp) ((RK.Same.upd hp).free htq))
      generalize upd (upd H2 p (.lst [])) tq (.tup [.int ((3 : Int) + (d : Int)), .ref p]) = H3 at ep st3 ⊢
      refine ⟨_, rfl, _, rfl, by omega, by omega, for_range (fun j σ H' => InvJ H h l Nm R U p (.int (many : Int)) (.int (most : Int)) (.int ((0 : Int) + (i : Nat))) (.int ((3 : Int) + (d : Int))) names rs us j σ H')
        ⟨_, _, _, [], rfl, st3, ep, mkr_nil _ _ _⟩ ?_ ?_⟩
      · rintro j σ H4 hj ⟨v9, v10, v11, rm, rfl, st4, ep4, m⟩
        have hj5 : j < 5 := by omega
        have hml := m.len
        refine ⟨_, rfl, U, rfl, ⟨_, SqL.of st4.u⟩, fun O hO => ?_⟩
        refine lc_list (K := K) (a := U) (xs := us.map V.str) (fun a H' => L2.Same H4 H' ∧ H' O = some (.lst (((us.take a).filter (apartB (rmsOf rs) rm)).map V.str))) ⟨RK.Same.upd hO, upd_same⟩ (fun a H' _ q => SqL.of (q.1 _ _ st4.u)) ?_ ?_
        · rintro a v H5 ha ⟨S5, e5⟩
          obtain ⟨x, hx, rfl⟩ := strs_at ha
          have st5 := st4.same S5
          have hf := filt_take (q := apartB (rmsOf rs) rm) hx
          refine ⟨rfl, _, rfl, _, rfl, _, rfl, R, p, x, rs, rm, rfl, st5.r, st5.rin, S5 _ _ ep4, by omega, fun H6 S6 => ⟨_, rfl, ?_⟩⟩
          refine ite2 (fun hb => ?_) (fun hb => ?_)
          · rw [if_pos hb] at hf
            refine ⟨_, rfl, _, S6 _ _ e5, ?_, RK.Same.updAt (S5.trans S6) hO, ?_⟩
            · rw [List.length_map]
              refine Nat.lt_of_le_of_lt (List.length_filter_le _ _) ?_
              rw [List.length_take]
              exact Nat.lt_of_lt_of_le (by omega : min a us.length < 100) (by decide)
            · rw [upd_same, hf, List.map_append]
              rfl
          · rw [if_neg hb] at hf
            exact ⟨S5.trans S6, by rw [hf]; exact S6 _ _ e5⟩
        · rintro H5 ⟨S5, e5⟩
          rw [List.length_map, List.take_length] at e5
          have st5 := st4.same S5
          obtain ⟨q1, q2, q3, q4, q5⟩ := st4.newp hO
          have hOp : O ≠ p := fun z => by rw [z, ep4] at hO; cases hO
          have eN5 : H5 Nm = some (.lst (names.map V.str)) := st5.kh _ _ hN nh nl
          refine ⟨_, rfl, Nm, rfl, ⟨_, SqL.of eN5⟩, fun W hW => ?_⟩
          refine lc_list (K := K) (a := Nm) (xs := names.map V.str) (fun a H' => L2.Same H5 H' ∧ H' W = some (.lst (((names.take a).filter fun x => decide (x ∉ us) && decide (x ∉ rm)).map V.str))) ⟨RK.Same.upd hW, upd_same⟩ (fun a H' _ q => SqL.of (q.1 _ _ eN5)) ?_ ?_
          · rintro a v H6 ha ⟨S6, e6⟩
            obtain ⟨x, hx, rfl⟩ := strs_at ha
            have st6 := st5.same S6
            have hf := filt_take (q := fun x => decide (x ∉ us) && decide (x ∉ rm)) hx
            have hal : a < names.length := (List.getElem?_eq_some_iff.mp hx).1
            refine ⟨rfl, _, rfl, _, rfl, U, _, rfl, .inl (SqL.of st6.u), rfl, flat_strs us, _, rfl, ?_⟩
            rw [if_pos rfl, inV_str]
            refine ite2 (fun hb => ?_) (fun hb => ?_)
            · have hu1 : x ∉ us := by
                rw [Bool.not_eq_true', decide_eq_false_iff_not] at hb
                exact hb
              refine ⟨_, rfl, _, rfl, p, _, rfl, .inl (SqL.of (S6 _ _ (S5 _ _ ep4))), rfl, flat_strs rm, _, rfl, ?_⟩
              rw [if_pos rfl, inV_str]
              refine ite2 (fun hc => ?_) (fun hc => ?_)
              · have hu2 : x ∉ rm := by
                  rw [Bool.not_eq_true', decide_eq_false_iff_not] at hc
                  exact hc
                rw [if_pos (by rw [decide_eq_true hu1, decide_eq_true hu2]; rfl)] at hf
                refine ⟨_, rfl, _, e6, ?_, RK.Same.updAt S6 hW, ?_⟩
                · rw [List.length_map]
                  refine Nat.lt_of_le_of_lt (List.length_filter_le _ _) ?_
                  rw [List.length_take]
                  exact Nat.lt_of_lt_of_le (by omega : min a names.length < 100) (by decide)
                · rw [upd_same, hf, List.map_append]
                  rfl
              · have hu2 : x ∈ rm := by
                  rw [Bool.not_eq_true', decide_eq_false_iff_not, Classical.not_not] at hc
                  exact hc
                rw [if_neg (by rw [decide_eq_false (not_not_intro hu2), Bool.and_false]; exact Bool.false_ne_true)] at hf
                exact ⟨S6, by rw [hf]; exact e6⟩
            · have hu1 : x ∈ us := by
                rw [Bool.not_eq_true', decide_eq_false_iff_not, Classical.not_not] at hb
                exact hb
              rw [if_neg (by rw [decide_eq_false (not_not_intro hu1), Bool.false_and]; exact Bool.false_ne_true)] at hf
              exact iteF ⟨S6, by rw [hf]; exact e6⟩
          · rintro H6 ⟨S6, e6⟩
            rw [List.length_map, List.take_length] at e6
            have st6 := st5.same S6
            obtain ⟨w1, w2, w3, w4, w5⟩ := st5.newp hW
            have eO6 := S6 _ _ e5
            have ep6 := S6 _ _ (S5 _ _ ep4)
            have okO : ∀ x ∈ us.filter (apartB (rmsOf rs) rm), PyData.strOk x = true := fun x hx => hok x (M.sub x (List.mem_filter.mp hx).1)
            have okW : ∀ x ∈ names.filter (fun x => decide (x ∉ us) && decide (x ∉ rm)), PyData.strOk x = true := fun x hx => hok x (List.mem_filter.mp hx).1
            have factO : ∀ x ∈ us.filter (apartB (rmsOf rs) rm), x ∈ names ∧ x ∉ rm ∧ ∀ r ∈ rmsOf rs, x ∈ r → ∀ y ∈ rm, y ∉ r := fun x hx => by
              obtain ⟨a1, a2⟩ := List.mem_filter.mp hx
              exact ⟨M.sub x a1, apart_of a2⟩
            have factW : ∀ x ∈ names.filter (fun x => decide (x ∉ us) && decide (x ∉ rm)), x ∈ names ∧ x ∉ rm ∧ ∀ r ∈ rmsOf rs, x ∈ r → ∀ y ∈ rm, y ∉ r := fun x hx => by
              obtain ⟨a1, a2⟩ := List.mem_filter.mp hx
              rw [Bool.and_eq_true, decide_eq_true_eq, decide_eq_true_eq] at a2
              exact ⟨a1, a2.2, fun r hr hxr => absurd ((M.uif x).mpr ⟨r, hr, hxr⟩) a2.1⟩
            have hlo : (us.filter (apartB (rmsOf rs) rm)).length ≤ 24 := Nat.le_trans (List.length_filter_le _ _) hul
            have hlw : (names.filter (fun x => decide (x ∉ us) && decide (x ∉ rm))).length ≤ 24 := Nat.le_trans (List.length_filter_le _ _) n23
            have new0 : us = [] → names.filter (fun x => decide (x ∉ us) && decide (x ∉ rm)) ≠ [] := fun e z => by
              have hsub : ∀ x ∈ names, x ∈ rm := fun x hx => by
                by_cases hr' : x ∈ rm
                · exact hr'
                · rw [List.filter_eq_nil_iff] at z
                  exact absurd (by rw [decide_eq_true hr', e]; rfl) (z x hx)
              have := nodup_sub_len nnd hsub
              omega
            have old0 : us.filter (apartB (rmsOf rs) rm) ≠ [] → us ≠ [] := fun z e => z (by rw [e]; rfl)
            generalize us.filter (apartB (rmsOf rs) rm) = os at eO6 okO factO hlo old0
            generalize names.filter (fun x => decide (x ∉ us) && decide (x ∉ rm)) = ns at e6 okW factW hlw new0
            have hrs : (rm.map V.str).length < sizeLine := by
              rw [List.length_map]
              exact Nat.lt_of_lt_of_le (by omega : rm.length < 100) (by decide)
            have pn : p ≠ h ∧ p ≠ l ∧ p ≠ R ∧ p ≠ U ∧ H p = none := ⟨p1, p2, p3, p4, p5⟩
            refine ⟨_, rfl, (by show 0 ≤ sizeLine; decide), fun b1 hb1 => ne_nil_strs okO ((RK.Same.upd hb1) _ _ eO6) upd_same ⟨_, rfl, ?_⟩⟩
            have SA := RK.Same.upd (o := .lst []) hb1
            have st7 := st6.same SA
            have eO7 := SA _ _ eO6
            have ep7 := SA _ _ ep6
            have eW7 := SA _ _ e6
            generalize upd H6 b1 (.lst []) = H7 at st7 eO7 ep7 eW7 ⊢
            refine ite2 (fun hz => ?_) (fun hz => ?_)
            · have neO : os ≠ [] := fun z => by rw [z] at hz; exact absurd hz (by decide)
              refine ⟨_, rfl, (by show 0 ≤ sizeLine; decide), fun b2 hb2 => eq_nil_strs okW ((RK.Same.upd hb2) _ _ eW7) upd_same ⟨_, rfl, ?_⟩⟩
              have SB := RK.Same.upd (o := .lst []) hb2
              have st8 := st7.same SB
              have eO8 := SB _ _ eO7
              have ep8 := SB _ _ ep7
              have eW8 := SB _ _ eW7
              generalize upd H7 b2 (.lst []) = H8 at st8 eO8 ep8 eW8 ⊢
              refine ite2 (fun hy => ?_) (fun hy => ?_)
              · refine iteT ?_
                exact pick_app rfl rfl rfl st8.heap eO8 neO (by omega) q1 q2 ep8 p1 p2 hrs fun x H9 hx hH9 k9 => invJ_add rfl st8 ep8 pn hH9 k9 m (factO x hx).1 (factO x hx).2.1 (factO x hx).2.2
              · have neW : ns ≠ [] := fun z => by rw [z] at hy; exact hy rfl
                refine ⟨_, rfl, h, l, _, rfl, st8.heap, by decide, by decide, fun d2 H9 hd2 hH9 k9 => ⟨rfl, _, rfl, ?_⟩⟩
                have st9 := st8.khs hH9 k9
                have eO9 := k9 _ _ eO8 q1 q2
                have ep9 := k9 _ _ ep8 p1 p2
                have eW9 := k9 _ _ eW8 w1 w2
                refine ite2 (fun hx => ?_) (fun hx => ?_)
                · exact pick_app rfl rfl rfl st9.heap eO9 neO (by omega) q1 q2 ep9 p1 p2 hrs fun x H9 hx hH9 k9 => invJ_add rfl st9 ep9 pn hH9 k9 m (factO x hx).1 (factO x hx).2.1 (factO x hx).2.2
                · refine ⟨_, rfl, (by show 0 ≤ sizeLine; decide), fun b3 hb3 => ne_nil_strs okW ((RK.Same.upd hb3) _ _ eW9) upd_same ⟨_, rfl, ?_⟩⟩
                  have SC := RK.Same.upd (o := .lst []) hb3
                  have st10 := st9.same SC
                  refine ite2 (fun hw => ?_) (fun hw => ?_)
                  · exact pick_app rfl rfl rfl st10.heap (SC _ _ eW9) neW (by omega) w1 w2 (SC _ _ ep9) p1 p2 hrs fun x H9 hx hH9 k9 => invJ_add rfl st10 (SC _ _ ep9) pn hH9 k9 m (factW x hx).1 (factW x hx).2.1 (factW x hx).2.2
                  · exact ⟨_, _, _, rm, rfl, st10, SC _ _ ep9, mkr_stay m (old0 neO)⟩
            · refine iteF ?_
              refine ⟨_, rfl, (by show 0 ≤ sizeLine; decide), fun b3 hb3 => ne_nil_strs okW ((RK.Same.upd hb3) _ _ eW7) upd_same ⟨_, rfl, ?_⟩⟩
              have SC := RK.Same.upd (o := .lst []) hb3
              have st10 := st7.same SC
              refine ite2 (fun hw => ?_) (fun hw => ?_)
              · have neW : ns ≠ [] := fun z => by rw [z] at hw; exact absurd hw (by decide)
                exact pick_app rfl rfl rfl st10.heap (SC _ _ eW7) neW (by omega) w1 w2 (SC _ _ ep7) p1 p2 hrs fun x H9 hx hH9 k9 => invJ_add rfl st10 (SC _ _ ep7) pn hH9 k9 m (factW x hx).1 (factW x hx).2.1 (factW x hx).2.2
              · refine ⟨_, _, _, rm, rfl, st10, SC _ _ ep7, mkr_stay m fun e => new0 e ?_⟩
                cases ns with
                | nil => rfl
                | cons _ _ => exact absurd rfl hw
      · rintro σ H4 ⟨v9, v10, v11, rm, rfl, st4, ep4, m⟩
        have hml := m.len
        have hj5 : ((3 : Int) + (d : Int)).toNat ≤ 5 := by omega
        have hrl : (rmsOf rs).length = rs.length := by unfold rmsOf; rw [List.length_map]
        refine ⟨_, rfl, p, _, rfl, .inl (SqL.of ep4), _, _, rfl, rfl, _, rfl, ?_⟩
        rw [List.length_map]
        refine ite2 (fun hb => ?_) (fun hb => ?_)
        · have hb := of_decide_eq_true hb
          refine ⟨_, rfl, .inl ⟨rfl, _, SqL.of st4.r⟩, _, rfl, p, rm, rfl, SqL.of ep4, by omega, fun s q1 hpm hsr hq1 => ⟨q1, _, rfl, .inl ⟨SqL.of upd_same, fun q2 hq2 => ?_⟩⟩⟩
          have SA := RK.Same.upd (o := .lst (s.map V.str)) hq1
          have SB := RK.Same.upd (o := .tup (s.map V.str)) hq2
          have st5 := (st4.same SA).same SB
          have ep5 := SB _ _ (SA _ _ ep4)
          have eq5 : (upd (upd H4 q1 (.lst (s.map V.str))) q2 (.tup (s.map V.str))) q2 = some (.tup (s.map V.str)) := upd_same
          generalize upd (upd H4 q1 (.lst (s.map V.str))) q2 (.tup (s.map V.str)) = H5 at st5 ep5 eq5 ⊢
          have hRq : q2 ≠ R := ne_of eq5 st5.r (by intro z; cases z)
          have hRp : p ≠ R := p3
          refine ⟨R, _, _, rfl, rfl, st5.r, ?_, ?_⟩
          · unfold refsOf
            rw [List.length_map]
            exact Nat.lt_of_lt_of_le (by omega : rs.length < 100) (by decide)
          have st6 : StR H (upd H5 R (.lst (refsOf rs ++ [.ref q2]))) h l R U (rs ++ [(q2, s)]) us := by
            refine { st5 with heap := heap_updO st5.heap st5.rh st5.rl, kh := fun b u hb m1 m2 => ?_, r := ?_, rin := fun r hr => ?_, u := ?_ }
            · rw [upd_ne (ne_of_none hb hR)]
              exact st5.kh _ _ hb m1 m2
            · rw [upd_same]
              unfold refsOf
              rw [List.map_append]
              rfl
            · rcases List.mem_append.mp hr with hr | hr
              · exact (st5.rin.updL st5.r) r hr
              · rw [List.mem_singleton.mp hr, upd_ne hRq]
                exact eq5
            · rw [upd_ne st5.ru.symm]
              exact st5.u
          have ep6 : (upd H5 R (.lst (refsOf rs ++ [.ref q2]))) p = some (.lst (rm.map V.str)) := by rw [upd_ne hRp]; exact ep5
          generalize upd H5 R (.lst (refsOf rs ++ [.ref q2])) = H6 at st6 ep6 ⊢
          refine ⟨_, rfl, _, rfl, p, rfl, ⟨_, SqL.of ep6⟩, fun D hD => ?_⟩
          refine lc_list (K := K) (a := p) (xs := rm.map V.str) (fun a H' => L2.Same H6 H' ∧ H' D = some (.lst (((rm.take a).filter fun x => decide (x ∉ us)).map V.str))) ⟨RK.Same.upd hD, upd_same⟩ (fun a H' _ q => SqL.of (q.1 _ _ ep6)) ?_ ?_
          · rintro a v H7 ha ⟨S7, e7⟩
            obtain ⟨x, hx, rfl⟩ := strs_at ha
            have st7 := st6.same S7
            have hf := filt_take (q := fun x => decide (x ∉ us)) hx
            refine ⟨rfl, _, rfl, _, rfl, U, _, rfl, .inl (SqL.of st7.u), rfl, flat_strs us, _, rfl, ?_⟩
            rw [if_pos rfl, inV_str]
            refine ite2 (fun hb2 => ?_) (fun hb2 => ?_)
            · have hu1 : x ∉ us := by
                rw [Bool.not_eq_true', decide_eq_false_iff_not] at hb2
                exact hb2
              rw [if_pos (decide_eq_true hu1)] at hf
              refine ⟨_, rfl, _, e7, ?_, RK.Same.updAt S7 hD, ?_⟩
              · rw [List.length_map]
                refine Nat.lt_of_le_of_lt (List.length_filter_le _ _) ?_
                rw [List.length_take]
                exact Nat.lt_of_lt_of_le (by omega : min a rm.length < 100) (by decide)
              · rw [upd_same, hf, List.map_append]
                rfl
            · have hu1 : x ∈ us := by
                rw [Bool.not_eq_true', decide_eq_false_iff_not, Classical.not_not] at hb2
                exact hb2
              rw [if_neg (by rw [decide_eq_false (not_not_intro hu1)]; exact Bool.false_ne_true)] at hf
              exact ⟨S7, by rw [hf]; exact e7⟩
          · rintro H7 ⟨S7, e7⟩
            rw [List.length_map, List.take_length] at e7
            have st7 := st6.same S7
            refine ⟨U, D, _, _, rfl, rfl, st7.u, e7, ?_, fun U2 hU2 => ?_⟩
            · rw [List.length_map, List.length_map]
              have := List.length_filter_le (fun x => decide (x ∉ us)) rm
              exact Nat.le_trans (by omega : _ ≤ 100) (by decide)
            obtain ⟨n1, n2, n3, n4, n5⟩ := st7.newp hU2
            have st8 := st7.same (RK.Same.upd (o := .lst (us.map V.str ++ (rm.filter fun x => decide (x ∉ us)).map V.str)) hU2)
            have hM := mk_add M m hj5 (by omega) nok hpm hsr
            refine ⟨U2, _, _, _, _, _, _, rs ++ [(q2, s)], us ++ rm.filter (fun x => decide (x ∉ us)), rfl, st8.newu ?_ n1 n2 n3.symm, ?_, ?_, fun _ z => ?_⟩
            · rw [upd_same, List.map_append]
            · unfold rmsOf at hM ⊢
              rw [List.map_append]
              exact hM
            · rw [List.length_append]
              exact Nat.add_le_add rl (Nat.le_refl 1)
            · have := congrArg List.length z
              rw [List.length_append] at this
              simp at this
        · have hb : ¬ (2 : Int) < (rm.length : Int) := fun z => hb (decide_eq_true z)
          refine ⟨U, _, _, _, _, _, _, rs, us, rfl, st4, M, Nat.le_succ_of_le rl, fun _ z => ?_⟩
          have hus : us = [] := by
            cases e : us with
            | nil => rfl
            | cons x r =>
              obtain ⟨r', hr', _⟩ := (M.uif x).mp (by rw [e]; exact List.mem_cons_self)
              rw [z] at hr'
              exact absurd hr' List.not_mem_nil
          have := m.first hus
          omega
    · rintro σ H1 ⟨U, v6, v7, v8, v9, v10, v11, rs, us, rfl, st, M, rl, rne⟩
      have hrl : (rmsOf rs).length = rs.length := by unfold rmsOf; rw [List.length_map]
      have h1 : 1 ≤ rs.length := List.length_pos_iff.mpr (rne (by omega))
      refine ⟨_, rfl, k R rs H1 st.heap st.kh hR st.r st.rin (mk_rooms M (by omega) (by omega) (by omega)) (by omega) fun r hr x hx => ?_⟩
      exact M.sub x ((M.uif x).mpr ⟨r.2, List.mem_map_of_mem hr, hx⟩)
end
end K03


set_option Elab.async false
set_option linter.all false
set_option maxRecDepth 100000
set_option maxHeartbeats 4000000
/-! books that equal; a book of right rooms; lists of rooms -/
namespace K03
open PySem PySem.Spec PyProof.Rows L2 RK
abbrev sBEq : Stmt := inClass (top 17) 1
structure TBk (K : PySem.W.Frag) (mg : Str → Option Value) (CB : Addr) : Prop where
  cl : Cls K CB
  nR : NoAttr K CB "rooms"
  nH : NoAttr K CB "_homes"
  g_Book : ∃ u, mg "Book" = some u ∧ RelV (.ref CB) u
  tyB : ∀ {H : Hp} {a dx : Addr} {fs : List (Str × V)}, H a = some (.ins CB dx fs) → TyX K H (.ref a) (.ref CB)
  isi : mg "isinstance" = none
  int : mg "int" = none
  len : mg "len" = none
  range : mg "range" = none
  tuple : mg "tuple" = none
  list : mg "list" = none
  sorted : mg "sorted" = none
  any : mg "any" = none
  all : mg "all" = none
def spBEq (K : PySem.W.Frag) (CB : Addr) : Sp := fun vs H Q _ => ∃ (b : Addr) (y : V) (rooms : List Rm), vs = [.ref b, y] ∧ BookAt CB H b rooms ∧
  ((∃ (c : Addr) (rooms2 : List Rm), y = .ref c ∧ BookAt CB H c rooms2 ∧ ∀ H', L2.Same H H' → Q (.bl (decide (rooms = rooms2))) H') ∨
   (∃ T, TyX K H y T ∧ PySem.W.kitOne K T (.ref CB) = some false ∧ ∀ H', L2.Same H H' → Q (.bl false) H'))
section
variable {P : Program} {w : World} {K : PySem.W.Frag} {mg : Str → Option Value} {base : Heap} {CB : Addr}
theorem rooms_ok {rms : List Rm} (h : RoomsOk rms) : ∀ r ∈ rms, ∀ x ∈ r, PyData.strOk x = true := fun r hr x hx => low_ok ((h.ok r hr).2.2.1 x hx).2.2
theorem scBEq : FnScope ["self", "other"] ["self", "other"] (defScope sBEq) := ⟨rfl, rfl, rfl, by decide +kernel, rfl, by decide +kernel, by decide +kernel⟩
theorem ok_beq {f : Addr} {fd : FuncData} (F : Fun K "__eq__" "Book.__eq__" sBEq f fd) (T : TBk K mg CB) : FnOk P w K mg base CX0 1 f fd ["self", "other"] (spBEq K CB) := by
  refine F.ok scBEq (fun vs H Q E h => ?_) (fun cdv A outer s H vs Q E hr h => ?_)
  · obtain ⟨b, y, rooms, rfl, _⟩ := h
    rfl
  · obtain ⟨b, y, rooms, rfl, hB, h⟩ := h
    refine ⟨_, (pss_one (ps_ret (pe_and (pe_callB (r := rIsi K) call_isi (by rfl) T.isi boot_isinstance (pa_cons (pv 1) (pa_cons (C8.pe_gc (by rfl) T.g_Book) pa_nil))) (pe_one (pe_cmpR (r := rEqD K) (op_eqD hr.units) (pe_fld (pv 0) rfl) (pe_fld (pv 1) rfl) (nomark _)))))), ?_⟩
    rcases h with ⟨c, rooms2, rfl, hC, k⟩ | ⟨Ty, hT, hk, k⟩
    · obtain ⟨dx, R, D, rs, h1, h2, h3, h4, _⟩ := id hB.ex
      obtain ⟨dx2, R2, D2, qs, g1, g2, g3, g4, _⟩ := id hC.ex
      refine ⟨_, rfl, _, .ref CB, _, _, true, rfl, .own CB, T.tyB g1, kit_self, true, rfl, iteT ?_⟩
      refine ⟨_, rfl, b, CB, dx, _, _, rfl, h1, T.cl, T.nR, bflds_rooms _ _, _, rfl, c, CB, dx2, _, _, rfl, g1, T.cl, T.nR, bflds_rooms _ _, ?_⟩
      have := k H (L2.Same.refl H)
      rw [← h2, ← g2] at this
      exact roomsT_eq (fun r hr => rooms_ok hB.ok r (h2 ▸ hr)) (fun r hr => rooms_ok hC.ok r (g2 ▸ hr)) h3 g3 h4 g4 this
    · refine ⟨_, rfl, _, .ref CB, _, _, false, rfl, .own CB, hT, hk, false, rfl, iteF ?_⟩
      exact k H (L2.Same.refl H)
end
theorem rms_len (rs : List (Addr × Rm)) : (rmsOf rs).length = rs.length := by unfold rmsOf; rw [List.length_map]
theorem refs_len (rs : List (Addr × Rm)) : (refsOf rs).length = rs.length := by unfold refsOf; rw [List.length_map]
theorem refs_get {rs : List (Addr × Rm)} {i : Nat} {r : Addr × Rm} (h : rs[i]? = some r) : (refsOf rs)[i]? = some (V.ref r.1) := by
  unfold refsOf
  rw [List.getElem?_map, h]
  rfl
theorem catA_all {K : PySem.W.Frag} {H : Hp} {a b : Addr} {xs ys : List V} {Q : VK} (ha : H a = some (.tup xs)) (hb : H b = some (.tup ys)) (hl : xs.length + ys.length ≤ sizeLine) (k : ∀ (p : Addr) (H' : Hp), L2.Same H H' → H' p = some (.tup (xs ++ ys)) → Q (.ref p) H') : rCatA K (.ref a) (.ref b) H Q := by
  refine ⟨a, b, xs, ys, rfl, rfl, SqT.of ha, SqT.of hb, hl, fun e => ?_, fun _ e => ?_, fun _ _ p hp => ?_⟩
  · exact k b H (L2.Same.refl H) (by rw [e]; exact hb)
  · exact k a H (L2.Same.refl H) (by rw [e, List.append_nil]; exact ha)
  · exact k p _ (RK.Same.upd hp) upd_same
theorem slT_all {K : PySem.W.Frag} {H : Hp} {a : Addr} {xs : List V} {lo hi : Option Int} {Q : VK} (ha : H a = some (.tup xs)) (hn : ¬ (HT.sIx xs.length 0 lo = 0 ∧ HT.sIx xs.length xs.length hi = xs.length)) (k : ∀ (p : Addr) (H' : Hp), L2.Same H H' → H' p = some (.tup (cutV xs lo hi)) → Q (.ref p) H') : rSlT K (.ref a) lo hi H Q :=
  ⟨a, xs, rfl, SqT.of ha, hn, fun p hp => k p _ (RK.Same.upd hp) upd_same⟩
theorem cut_hi (xs : List V) (k : Nat) : cutV xs none (some (k : Int)) = xs.take k := by
  unfold cutV
  rw [HT.sIx_nat, HT.sIx_none, List.drop_zero, Nat.sub_zero]
  by_cases h : k ≤ xs.length
  · rw [Nat.min_eq_left h]
  · rw [Nat.min_eq_right (by omega), List.take_of_length_le (Nat.le_refl _), List.take_of_length_le (by omega)]
theorem cut_lo (xs : List V) (k : Nat) : cutV xs (some (k : Int)) none = xs.drop k := by
  unfold cutV
  rw [HT.sIx_nat, HT.sIx_none]
  by_cases h : k ≤ xs.length
  · rw [Nat.min_eq_left h, List.take_of_length_le (by rw [List.length_drop]; omega)]
  · rw [Nat.min_eq_right (by omega), List.drop_of_length_le (Nat.le_refl _), List.drop_of_length_le (by omega), List.take_nil]
/-- lists, put together; a part of a list -/
theorem cat_all {H : Hp} {a b : Addr} {xs ys : List V} {Q : VK} (ha : H a = some (.lst xs)) (hb : H b = some (.lst ys)) (hl : xs.length + ys.length ≤ sizeLine) (k : ∀ (p : Addr) (H' : Hp), L2.Same H H' → H' p = some (.lst (xs ++ ys)) → Q (.ref p) H') : rCat (.ref a) (.ref b) H Q :=
  ⟨a, b, xs, ys, rfl, rfl, ha, hb, hl, fun p hp => k p _ (RK.Same.upd hp) upd_same⟩
theorem slL_all {K : PySem.W.Frag} {H : Hp} {a : Addr} {xs : List V} {lo hi : Option Int} {Q : VK} (ha : H a = some (.lst xs)) (k : ∀ (p : Addr) (H' : Hp), L2.Same H H' → H' p = some (.lst (cutV xs lo hi)) → Q (.ref p) H') : rSlL K (.ref a) lo hi H Q :=
  ⟨a, xs, rfl, SqL.of ha, fun p hp => k p _ (RK.Same.upd hp) upd_same⟩
theorem cut_m1 (xs : List V) : cutV xs none (some (-1)) = xs.dropLast := by
  unfold cutV
  rw [HT.sIx_none, List.drop_zero, Nat.sub_zero, List.dropLast_eq_take]
  have e : HT.sIx xs.length xs.length (some (-1)) = (-1 + (xs.length : Int)).toNat := rfl
  rw [e]
  congr 1
  omega
theorem refs_rev (rs : List (Addr × Rm)) : (refsOf rs).reverse = refsOf rs.reverse := by unfold refsOf; rw [List.map_reverse]
theorem refs_take (rs : List (Addr × Rm)) (k : Nat) : (refsOf rs).take k = refsOf (rs.take k) := by unfold refsOf; rw [List.map_take]
theorem refs_drop (rs : List (Addr × Rm)) (k : Nat) : (refsOf rs).drop k = refsOf (rs.drop k) := by unfold refsOf; rw [List.map_drop]
theorem refs_dropLast (rs : List (Addr × Rm)) : (refsOf rs).dropLast = refsOf rs.dropLast := by unfold refsOf; rw [List.map_dropLast]
theorem refs_app (rs qs : List (Addr × Rm)) : refsOf rs ++ refsOf qs = refsOf (rs ++ qs) := by unfold refsOf; rw [List.map_append]
theorem refs_one (q : Addr) (s : Rm) : [V.ref q] = refsOf [(q, s)] := rfl
/-- lists of right rooms -/
def LR (H : Hp) (o : Addr × List (Addr × Rm)) : Prop := H o.1 = some (.lst (refsOf o.2)) ∧ RoomsIn H o.2 ∧ RoomsOk (rmsOf o.2)
theorem LR.same {H H' : Hp} {o : Addr × List (Addr × Rm)} (S : L2.Same H H') (h : LR H o) : LR H' o := ⟨S _ _ h.1, h.2.1.same S, h.2.2⟩
theorem rms_mem {rs : List (Addr × Rm)} {r : Rm} (h : r ∈ rmsOf rs) : ∃ a, (a, r) ∈ rs := by
  obtain ⟨⟨a, r'⟩, h1, h2⟩ := List.mem_map.mp h
  cases h2
  exact ⟨a, h1⟩
theorem notFirst_self {K : PySem.W.Frag} {C : Addr} : PySem.W.notFirst K C (.ref C) = true := by
  unfold PySem.W.notFirst
  rw [Bool.or_eq_true]
  exact .inl (by simp)
/-- Book(a tuple of right rooms) -/
theorem make_book {CB p x dx : Addr} {H : Hp} {rs : List (Addr × Rm)} {W : VK} {E : XK} (hx : H x = none) (hdx : H dx = none) (hne : dx ≠ x) (hp : H p = some (.tup (refsOf rs))) (hI : RoomsIn H rs) (ok : RoomsOk (rmsOf rs)) (q : ∀ H2, BookAt CB H2 x (rmsOf rs) → L2.Same H H2 → W .non H2) :
    spBInit CB (.ref x :: ([.ref p] ++ [])) (upd (upd H dx (.own x)) x (.ins CB dx [])) W E := by
  have S : L2.Same H (upd (upd H dx (.own x)) x (.ins CB dx [])) := RK.Same.updAt (RK.Same.upd hdx) hx
  exact ⟨x, p, dx, rs, rfl, upd_same, S _ _ hp, hI.same S, ok, fun H' hB hk => q H' hB fun b u hb => hk b u (S _ _ hb) (ne_of_none hb hx)⟩
theorem roomsL_eq {K : PySem.W.Frag} {H : Hp} {a b : Addr} {rs qs : List (Addr × Rm)} {Q : VK} (o1 : ∀ r ∈ rmsOf rs, ∀ x ∈ r, PyData.strOk x = true) (o2 : ∀ r ∈ rmsOf qs, ∀ x ∈ r, PyData.strOk x = true)
    (ha : H a = some (.lst (refsOf rs))) (hb : H b = some (.lst (refsOf qs))) (h1 : RoomsIn H rs) (h2 : RoomsIn H qs) (k : Q (.bl (decide (rmsOf rs = rmsOf qs))) H) : rEqD K (.ref a) (.ref b) H Q := by
  refine ⟨.list ((rmsOf rs).map dRoom), .list ((rmsOf qs).map dRoom), .lst (SqL.of ha) (dp_rooms rs h1), .lst (SqL.of hb) (dp_rooms qs h2), shaped_roomsL o1, shaped_roomsL o2, ?_⟩
  rw [eqv_lsts, eqvAll_rooms]
  exact k
theorem roomsL_ne {K : PySem.W.Frag} {H : Hp} {a b : Addr} {rs qs : List (Addr × Rm)} {Q : VK} (o1 : ∀ r ∈ rmsOf rs, ∀ x ∈ r, PyData.strOk x = true) (o2 : ∀ r ∈ rmsOf qs, ∀ x ∈ r, PyData.strOk x = true)
    (ha : H a = some (.lst (refsOf rs))) (hb : H b = some (.lst (refsOf qs))) (h1 : RoomsIn H rs) (h2 : RoomsIn H qs) (k : Q (.bl (!decide (rmsOf rs = rmsOf qs))) H) : rNeD K (.ref a) (.ref b) H Q := by
  refine ⟨.list ((rmsOf rs).map dRoom), .list ((rmsOf qs).map dRoom), .lst (SqL.of ha) (dp_rooms rs h1), .lst (SqL.of hb) (dp_rooms qs h2), shaped_roomsL o1, shaped_roomsL o2, ?_⟩
  rw [eqv_lsts, eqvAll_rooms]
  exact k
theorem BookAt.kh {CB : Addr} {h l b : Addr} {H H' : Hp} {rooms : List Rm} (hH : HeapAt H h l) (k : Kh h l H H') (a : BookAt CB H b rooms) : BookAt CB H' b rooms := by
  obtain ⟨-, zs, s, e1, e2, _⟩ := hH
  have go : ∀ {c : Addr} {o : HO}, H c = some o → (∀ xs, o ≠ .lst xs) → H' c = some o := fun {c o} hc n =>
    k _ _ hc (ne_of hc e1 (by intro z; exact n _ z)) (ne_of hc e2 (by intro z; exact n _ z))
  obtain ⟨⟨dx, R, D, rs, h1, h2, h3, h4, kvs, hd, hk, hv⟩, ok⟩ := a
  refine ⟨⟨dx, R, D, rs, go h1 (by intro xs z; cases z), h2, go h3 (by intro xs z; cases z), fun r hr => go (h4 r hr) (by intro xs z; cases z), kvs, go hd (by intro xs z; cases z), hk, fun x => ⟨fun hx => ?_, (hv x).2⟩⟩, ok⟩
  obtain ⟨t, t1, t2⟩ := (hv x).1 hx
  exact ⟨t, t1, go t2 (by intro xs z; cases z)⟩
end K03


set_option Elab.async false
set_option linter.all false
set_option maxRecDepth 100000
set_option maxHeartbeats 4000000
/-! books and their texts -/
namespace K03
open PySem PySem.Spec PyProof.Rows L2 RK
abbrev sWords : Stmt := topL 30
abbrev sBookOf : Stmt := topL 31
abbrev sRead : Stmt := topL 29
abbrev sShow : Stmt := topL 36
structure TTx (K : PySem.W.Frag) (mg : Str → Option Value) (CB : Addr) : Prop where
  cl : Cls K CB
  nR : NoAttr K CB "rooms"
  isi : mg "isinstance" = none
  str : mg "str" = none
  tuple : mg "tuple" = none
  sorted : mg "sorted" = none
def spWords : Sp := fun vs H Q _ => ∃ x : Str, vs = [.str x] ∧ x.length ≤ 100 ∧ (wdsOf x).length ≤ 5 ∧ (∀ y ∈ wdsOf x, y.length ≤ 100) ∧ ∀ (p : Addr) (H' : Hp), L2.Same H H' → H p = none → H' p = some (.lst ((wdsOf x).map V.str)) → Q (.ref p) H'
def spBookOf (CB : Addr) : Sp := fun vs H Q _ => ∃ (L : Addr) (ls : List Str) (rms : List Rm), vs = [.ref L] ∧ H L = some (.lst (ls.map V.str)) ∧ ls.length = rms.length ∧ (∀ (i : Nat) (y : Str) (r : Rm), ls[i]? = some y → rms[i]? = some r → LineOf y r) ∧ RoomsOk rms ∧
  ∀ (b : Addr) (H' : Hp), L2.Same H H' → BookAt CB H' b rms → Q (.ref b) H'
def spRead (CB : Addr) : Sp := fun vs H Q _ => ∃ (x : Str) (rms : List Rm), vs = [.str x] ∧ TextOf x rms ∧ RoomsOk rms ∧ ∀ (b : Addr) (H' : Hp), L2.Same H H' → BookAt CB H' b rms → Q (.ref b) H'
def spShow (CB : Addr) : Sp := fun vs H Q _ => ∃ (b : Addr) (rms : List Rm), vs = [.ref b] ∧ BookAt CB H b rms ∧ ∀ H', L2.Same H H' → Q (.str (shownS rms)) H'
theorem line_words {y : Str} {r : Rm} (h : LineOf y r) (hr : RoomOk r) : (wdsOf y).length ≤ 5 ∧ ∀ z ∈ wdsOf y, z.length ≤ 100 := by
  refine ⟨by rw [h.perm.length_eq]; exact hr.2.1, fun z hz => ?_⟩
  have := (hr.2.2.1 z (h.perm.mem_iff.mp hz)).2.1
  omega
theorem split_len (x : Str) (h : x.length ≤ 100) : (Txt.split x blS).length ≤ 200 := Nat.le_trans (PyProof.Rows.split_le x blS) (by omega)
section
variable {P : Program} {w : World} {K : PySem.W.Frag} {mg : Str → Option Value} {base : Heap} {CB : Addr}
abbrev nWords : List Str := ["line", "word"]
theorem scWords : FnScope nWords ["line"] (defScope sWords) := ⟨rfl, rfl, rfl, by decide +kernel, rfl, by decide +kernel, by decide +kernel⟩
theorem ok_words {f : Addr} {fd : FuncData} (F : Fun K "_words" "_words" sWords f fd) (T : TTx K mg CB) : FnOk P w K mg base CX0 1 f fd ["line"] spWords := by
  refine F.ok scWords (fun vs H Q E h => ?_) (fun cdv A outer s H vs Q E hr h => ?_)
  · obtain ⟨x, rfl, _⟩ := h
    rfl
  · obtain ⟨x, rfl, hl, h5, hz, k⟩ := h
    refine ⟨_, (pss_one (ps_ret (pe_lc (own := [("word", 1)]) (g := gName 1) rfl scWords.nd (pi_list (pe_split (pv 0) pe_str)) (blkOk_by (N := nWords) (sc := defScope sWords) (by decide +kernel)) (fun _ _ _ _ _ => pg_name (i := 1) scWords.nd rfl (Or.inl rfl)) (fun _ _ _ _ _ => (pts_one (pt_truthK K (pv 1)))) (fun _ _ _ _ _ => (pv 1))))), ?_⟩
    refine ⟨_, rfl, ⟨_, rfl⟩, x, blS, rfl, rfl, by decide +kernel, Nat.le_trans (by omega : _ ≤ 102) (by decide), fun L hL => ?_⟩
    have S1 := RK.Same.upd (o := .lst ((Txt.split x blS).map V.str)) hL
    have e1 : (upd H L (.lst ((Txt.split x blS).map V.str))) L = some (.lst ((Txt.split x blS).map V.str)) := upd_same
    generalize upd H L (.lst ((Txt.split x blS).map V.str)) = H1 at S1 e1 ⊢
    refine ⟨L, rfl, ⟨_, SqL.of e1⟩, fun D hD => ?_⟩
    have hD0 : H D = none := S1.free hD
    refine lc_list (K := K) (a := L) (xs := (Txt.split x blS).map V.str) (fun i H' => L2.Same H1 H' ∧ H' D = some (.lst ((((Txt.split x blS).take i).filter fun y => ((y.length : Int) != 0)).map V.str))) ⟨RK.Same.upd hD, upd_same⟩ (fun i H' _ q => SqL.of (q.1 _ _ e1)) ?_ ?_
    · rintro i v H2 hi ⟨S2, e2⟩
      obtain ⟨y, hy, rfl⟩ := strs_at hi
      have hf := filt_take (q := fun y : Str => ((y.length : Int) != 0)) hy
      have hyl := part_len (List.mem_of_getElem? hy)
      refine ⟨rfl, _, rfl, _, ⟨Nat.le_trans (by omega : _ ≤ 100) (by decide), rfl⟩, ?_⟩
      refine ite2 (fun hb => ?_) (fun hb => ?_)
      · rw [if_pos hb] at hf
        refine ⟨_, rfl, _, e2, ?_, RK.Same.updAt S2 hD, ?_⟩
        · rw [List.length_map]
          refine Nat.lt_of_le_of_lt (List.length_filter_le _ _) ?_
          rw [List.length_take]
          have h1 := split_len x hl
          have h2 := (List.getElem?_eq_some_iff.mp hy).1
          exact Nat.lt_of_lt_of_le (by omega : min i (Txt.split x blS).length < 300) (by decide)
        · rw [upd_same, hf, List.map_append]
          rfl
      · rw [if_neg hb] at hf
        exact ⟨S2, by rw [hf]; exact e2⟩
    · rintro H2 ⟨S2, e2⟩
      rw [List.length_map, List.take_length] at e2
      exact k D H2 (S1.trans S2) hD0 e2
abbrev nBookOf : List Str := ["lines", "line"]
theorem scBookOf : FnScope nBookOf ["lines"] (defScope sBookOf) := ⟨rfl, rfl, rfl, by decide +kernel, rfl, by decide +kernel, by decide +kernel⟩
theorem ok_bookOf {f : Addr} {fd : FuncData} (F : Fun K "_book_of" "_book_of" sBookOf f fd) (T : TTx K mg CB) (c__words : Cl P w K mg base CX0 1 "_words" ["line"] spWords) (c_Book : Cc P w K mg base CX0 3 "Book" CB ["self", "rooms"] (spBInit CB)) :
    FnOk P w K mg base CX0 5 f fd ["lines"] (spBookOf CB) := by
  refine F.ok scBookOf (fun vs H Q E h => ?_) (fun cdv A outer s H vs Q E hr h => ?_)
  · obtain ⟨L, ls, rms, rfl, _⟩ := h
    rfl
  · obtain ⟨L, ls, rms, rfl, hL, hlen, hline, ok, k⟩ := h
    refine ⟨_, (pss_one (ps_try_thru0 (pss_one (ps_ret (pe_cls c_Book hr (by decide) pass0 (pa_cons (pe_callTy call_tuple_of (by rfl) T.tuple boot_tuple (pa_cons (pe_lc (own := [("line", 1)]) (g := gName 1) (tt := tYes) rfl scBookOf.nd (pi_list (pv 0)) (blkOk_by (N := nBookOf) (sc := defScope sBookOf) (by decide +kernel)) (fun _ _ _ _ _ => pg_name (i := 1) scBookOf.nd rfl (Or.inl rfl)) (fun _ _ _ _ _ => pts_nil) (fun _ _ _ _ _ => (pe_callTy (r := rTupOf K) call_tupK (by rfl) T.tuple boot_tuple (pa_cons (pe_callB (r := rSortedS K) cr_sortedS (by rfl) T.sorted (by decide +kernel) (pa_cons (pe_f c__words hr (by decide) pass0 (pa_cons (pv 1) pa_nil)) pa_nil)) pa_nil)))) pa_nil)) pa_nil)))))), ?_⟩
    refine ⟨_, rfl, L, rfl, ⟨_, SqL.of hL⟩, fun D hD => ?_⟩
    have few := ok.few
    refine lc_list (K := K) (a := L) (xs := ls.map V.str) (fun i H' => ∃ qs : List (Addr × Rm), L2.Same H H' ∧ H' D = some (.lst (refsOf qs)) ∧ RoomsIn H' qs ∧ rmsOf qs = rms.take i) ⟨[], RK.Same.upd hD, upd_same, fun r hr => absurd hr List.not_mem_nil, rfl⟩ (fun i H' _ ⟨_, S, _⟩ => SqL.of (S _ _ hL)) ?_ ?_
    · rintro i v H2 hi ⟨qs, S2, e2, I2, er⟩
      obtain ⟨y, hy, rfl⟩ := strs_at hi
      have hil := (List.getElem?_eq_some_iff.mp hy).1
      have hr' : rms[i]? = some rms[i] := List.getElem?_eq_getElem (by omega)
      have hro := ok.ok rms[i] (List.getElem_mem _)
      have hli := hline i y _ hy hr'
      obtain ⟨w5, wz⟩ := line_words hli hro
      refine ⟨rfl, ?_⟩
      unfold tYes
      refine iteT ⟨_, rfl, y, rfl, hli.len, w5, wz, fun p H3 S3 hp e3 => ⟨p, wdsOf y, rfl, SqL.of e3, by omega, fun ys q hpm hs hq => ⟨q, _, rfl, .inl ⟨SqL.of upd_same, fun l hl => ?_⟩⟩⟩⟩
      have S4 := RK.Same.upd (o := .lst (ys.map V.str)) hq
      have S5 := RK.Same.upd (o := .tup (ys.map V.str)) hl
      have ey : ys = rms[i] := asc_eq (asc_of hs ((hpm.trans hli.perm).nodup_iff.mpr hro.2.2.2.nodup)) hro.2.2.2 fun z => (hpm.trans hli.perm).mem_iff
      have S35 := (S3.trans S4).trans S5
      have ql : qs.length = i := by
        have := congrArg List.length er
        rw [rms_len, List.length_take] at this
        omega
      refine ⟨_, S35 _ _ e2, ?_, qs ++ [(l, rms[i])], RK.Same.updAt (S2.trans S35) hD, ?_, ?_, ?_⟩
      · rw [refs_len]
        exact Nat.lt_of_lt_of_le (by omega : qs.length < 100) (by decide)
      · rw [upd_same, ← refs_app]
        rfl
      · have hlD : D ≠ l := fun z => by
          rw [← z, (S3.trans S4) _ _ e2] at hl
          cases hl
        intro r hr
        have key : ∀ r ∈ qs ++ [(l, rms[i])], upd (upd H3 q (.lst (ys.map V.str))) l (.tup (ys.map V.str)) r.1 = some (.tup (r.2.map V.str)) := fun r hr => by
          rcases List.mem_append.mp hr with hr | hr
          · exact S35 _ _ (I2 r hr)
          · rw [List.mem_singleton.mp hr, ← ey]
            exact upd_same
        have ne : r.1 ≠ D := fun z => by
          have h1 := key r hr
          rw [z, S35 _ _ e2] at h1
          cases h1
        rw [upd_ne ne]
        exact key r hr
      · unfold rmsOf at er ⊢
        rw [List.map_append, er, List.take_add_one, hr']
        rfl
    · rintro H2 ⟨qs, S2, e2, I2, er⟩
      rw [List.length_map, hlen, List.take_length] at er
      refine ⟨D, _, rfl, .inl ⟨SqL.of e2, fun p hp => ?_⟩⟩
      have S3 := RK.Same.upd (o := .tup (refsOf qs)) hp
      intro b dx hb hdx hbd
      refine make_book hb hdx hbd upd_same (I2.same S3) (by rw [er]; exact ok) (fun H8 hB8 S8 => ⟨rfl, ?_⟩)
      rw [er] at hB8
      exact k b H8 ((S2.trans S3).trans S8) hB8
abbrev nRead : List Str := ["text", "book"]
theorem scRead : FnScope nRead ["text"] (defScope sRead) := ⟨rfl, rfl, rfl, by decide +kernel, rfl, by decide +kernel, by decide +kernel⟩
theorem ok_read {f : Addr} {fd : FuncData} (F : Fun K "read_book" "read_book" sRead f fd) (T : TTx K mg CB) (c__book_of : Cl P w K mg base CX0 5 "_book_of" ["lines"] (spBookOf CB)) :
    FnOk P w K mg base CX0 6 f fd ["text"] (spRead CB) := by
  refine F.ok scRead (fun vs H Q E h => ?_) (fun cdv A outer s H vs Q E hr h => ?_)
  · obtain ⟨x, rms, rfl, _⟩ := h
    rfl
  · obtain ⟨x, rms, rfl, hT, ok, k⟩ := h
    refine ⟨_, (pss_cons (ps_if (pt_not (pt_val (pe_callB (r := rIsi K) call_isi (by rfl) T.isi boot_isinstance (pa_cons (pv 0) (pa_cons (pe_bltn (v := .ty "str") (by rfl) T.str (by decide +kernel) rfl) pa_nil))))) (pss_one (ps_never)) pss_nil)
        (pss_cons (ps_set (i := 1) scRead.nd rfl (Or.inl rfl) (pe_f c__book_of hr (by decide) pass0 (pa_cons (pe_split (pv 0) pe_str) pa_nil)))
        (pss_cons (ps_if (pt_cmpR op_isN (pv 1) pe_non (nomark _)) (pss_one (ps_never)) pss_nil)
        (pss_one (ps_ret (pv 1)))))), ?_⟩
    obtain ⟨ls, els, hlen, hline, hxl⟩ := hT
    refine ⟨_, rfl, _, .ty "str", _, _, true, rfl, .ty _, .base (.str x), kit_ty (by decide +kernel), true, rfl, iteF ?_⟩
    refine ⟨_, rfl, ⟨_, rfl⟩, x, nlS, rfl, rfl, by decide +kernel, Nat.le_trans (by omega : _ ≤ 100002) (by decide), fun L hL => ?_⟩
    rw [els]
    have S1 := RK.Same.upd (o := .lst (ls.map V.str)) hL
    refine ⟨L, ls, rms, rfl, upd_same, hlen, hline, ok, fun b H2 S2 hB => ?_⟩
    refine ⟨_, rfl, rfl, false, congrArg V.bl (decide_eq_false (by intro z; cases z)), iteF ?_⟩
    exact ⟨_, rfl, k b H2 (S1.trans S2) hB⟩
abbrev nShow : List Str := ["book", "room"]
theorem scShow : FnScope nShow ["book"] (defScope sShow) := ⟨rfl, rfl, rfl, by decide +kernel, rfl, by decide +kernel, by decide +kernel⟩
theorem ok_show {f : Addr} {fd : FuncData} (F : Fun K "show_book" "show_book" sShow f fd) (T : TTx K mg CB) : FnOk P w K mg base CX0 1 f fd ["book"] (spShow CB) := by
  refine F.ok scShow (fun vs H Q E h => ?_) (fun cdv A outer s H vs Q E hr h => ?_)
  · obtain ⟨b, rms, rfl, _⟩ := h
    rfl
  · obtain ⟨b, rms, rfl, hB, k⟩ := h
    refine ⟨_, (pss_one (ps_ret (pe_join pe_str (pe_lc (own := [("room", 1)]) (g := gName 1) (tt := tYes) rfl scShow.nd (pi_tup (pe_fld (pv 0) rfl)) (blkOk_by (N := nShow) (sc := defScope sShow) (by decide +kernel)) (fun _ _ _ _ _ => pg_name (i := 1) scShow.nd rfl (Or.inl rfl)) (fun _ _ _ _ _ => pts_nil) (fun _ _ _ _ _ => (pe_joinK K pe_str (pv 1))))))), ?_⟩
    obtain ⟨dx, R, D0, rs, h1, h2, h3, h4, _⟩ := id hB.ex
    have ok := hB.ok
    have few := ok.few
    have hml := rms_len rs
    rw [h2] at hml
    refine ⟨⟨_, rfl⟩, _, rfl, b, CB, dx, _, _, rfl, h1, T.cl, T.nR, bflds_rooms _ _, R, rfl, ⟨_, SqT.of h3⟩, fun D hD => ?_⟩
    refine lc_tup (K := K) (a := R) (xs := refsOf rs) (fun i H' => L2.Same H H' ∧ H' D = some (.lst (((rms.take i).map roomS).map V.str))) ⟨RK.Same.upd hD, upd_same⟩ (fun i H' _ q => SqT.of (q.1 _ _ h3)) ?_ ?_
    · rintro i v H2 hi ⟨S2, e2⟩
      obtain ⟨r, hr', rfl⟩ := refs_at hi
      have hil := (List.getElem?_eq_some_iff.mp hr').1
      have hrm : rms[i]? = some r.2 := by
        rw [← h2]
        unfold rmsOf
        rw [List.getElem?_map, hr']
        rfl
      have hro := ok.ok r.2 (List.mem_of_getElem? hrm)
      refine ⟨rfl, ?_⟩
      unfold tYes
      refine iteT ⟨⟨_, rfl⟩, _, rfl, blS, r.1, r.2, rfl, rfl, .inr (SqT.of (S2 _ _ (h4 r (List.mem_of_getElem? hr')))), ?_, ?_⟩
      · have h5 : (r.2.map (·.length)).sum ≤ r.2.length * 5 := by
          have : ∀ l : List Str, (∀ x ∈ l, x.length ≤ 5) → (l.map (·.length)).sum ≤ l.length * 5 := fun l => by
            induction l with
            | nil => intro _; exact Nat.zero_le _
            | cons x l ih =>
              intro h
              have a1 := h x List.mem_cons_self
              have a2 := ih fun y hy => h y (List.mem_cons_of_mem _ hy)
              rw [List.map_cons, List.sum_cons, List.length_cons]
              omega
          exact this _ fun x hx => (hro.2.2.1 x hx).2.1
        have h6 := hro.2.1
        have h7 : blS.length = 1 := by decide +kernel
        rw [h7]
        omega
      · refine ⟨_, e2, ?_, RK.Same.updAt S2 hD, ?_⟩
        · rw [List.length_map, List.length_map, List.length_take]
          exact Nat.lt_of_lt_of_le (by omega : min i rms.length < 100) (by decide)
        · rw [upd_same, List.take_add_one, hrm, List.map_append, List.map_append]
          rfl
    · rintro H2 ⟨S2, e2⟩
      rw [refs_len, ← hml, List.take_length] at e2
      refine ⟨nlS, D, rms.map roomS, rfl, rfl, .inl (SqL.of e2), ?_, k H2 S2⟩
      have h5 : ((rms.map roomS).map (·.length)).sum ≤ rms.length * 30 := by
        have : ∀ l : List Rm, (∀ x ∈ l, RoomOk x) → ((l.map roomS).map (·.length)).sum ≤ l.length * 30 := fun l => by
          induction l with
          | nil => intro _; exact Nat.zero_le _
          | cons x l ih =>
            intro h
            have a1 := roomS_len (h x List.mem_cons_self)
            have a2 := ih fun y hy => h y (List.mem_cons_of_mem _ hy)
            rw [List.map_cons, List.map_cons, List.sum_cons, List.length_cons]
            omega
        exact this _ ok.ok
      have h7 : nlS.length = 1 := by decide +kernel
      rw [h7, List.length_map]
      omega
end
end K03


set_option Elab.async false
set_option linter.all false
set_option maxRecDepth 100000
set_option maxHeartbeats 4000000
/-! lines and texts as the law writes them -/
namespace K03
open PySem PySem.Spec PyProof.Rows L2 RK _root_.TL
abbrev sLine : Stmt := topL 44
abbrev sShown : Stmt := topL 45
theorem tl_cut1 (z : Str) : tl (cutS z none (some (-1))) = (tl z).dropLast := by
  show (z.cps.toList.drop (HT.sIx z.length 0 none)).take (HT.sIx z.length z.length (some (-1)) - HT.sIx z.length 0 none) = _
  rw [HT.sIx_none, List.drop_zero, Nat.sub_zero, List.dropLast_eq_take]
  have e : HT.sIx z.length z.length (some (-1)) = (-1 + (z.length : Int)).toNat := rfl
  have hl := len_tl z
  rw [e]
  congr 1
  omega
theorem heap_other {h l c : Addr} {o : HO} {H : Hp} (a : HeapAt H h l) (n : c ≠ h) (m : c ≠ l) : HeapAt (upd H c o) h l := by
  obtain ⟨ne, zs, s, e1, e2, e3⟩ := a
  exact ⟨ne, zs, s, by rw [upd_ne (Ne.symm n)]; exact e1, by rw [upd_ne (Ne.symm m)]; exact e2, e3⟩
theorem erase_map (l : List Str) (d : Nat) : (l.map V.str).eraseIdx d = (l.eraseIdx d).map V.str := by
  rw [List.eraseIdx_eq_take_drop_succ, List.eraseIdx_eq_take_drop_succ, List.map_append, List.map_take, List.map_drop]
theorem cut_mid {l : List Str} {d : Nat} {y : Str} (h : l[d]? = some y) : l = l.take d ++ y :: l.drop (d + 1) := by
  obtain ⟨hd, e⟩ := List.getElem?_eq_some_iff.mp h
  rw [← e, ← List.drop_eq_getElem_cons hd, List.take_append_drop]
theorem erase_perm {l : List Str} {d : Nat} {y : Str} (h : l[d]? = some y) : (y :: l.eraseIdx d).Perm l := by
  have e := cut_mid h
  rw [List.eraseIdx_eq_take_drop_succ]
  refine List.perm_middle.symm.trans ?_
  rw [← e]
def spLine : Sp := fun vs H Q _ => ∃ (h l r : Addr) (xs : Rm), vs = [.ref h, .ref r] ∧ HeapAt H h l ∧ H r = some (.tup (xs.map V.str)) ∧ RoomOk xs ∧ ∀ (x : Str) (H' : Hp), HeapAt H' h l → Kh h l H H' → LineOf x xs → Q (.str x) H'
def spShown : Sp := fun vs H Q _ => ∃ (R : Addr) (rs : List (Addr × Rm)), vs = [.ref R] ∧ H R = some (.lst (refsOf rs)) ∧ RoomsIn H rs ∧ rs ≠ [] ∧ rs.length ≤ 10 ∧ (∀ r ∈ rmsOf rs, RoomOk r) ∧ ∀ H', L2.Same H H' → Q (.str (shownS (rmsOf rs))) H'
section
variable {P : Program} {w : World} {K : PySem.W.Frag} {mg : Str → Option Value} {base : Heap} {CB : Addr}
abbrev nLine : List Str := ["heap", "room", "names", "line", "turn"]
theorem scLine : FnScope nLine ["heap", "room"] (defScope sLine) := ⟨rfl, rfl, rfl, by decide +kernel, rfl, by decide +kernel, by decide +kernel⟩
theorem ok_line {f : Addr} {fd : FuncData} (F : Fun K "_law_line" "_law_line" sLine f fd) (T : TL mg) (c__law_draw : Cl P w K mg base CX0 1 "_law_draw" ["heap", "many"] spDraw) : FnOk P w K mg base CX0 2 f fd ["heap", "room"] spLine := by
  refine F.ok scLine (fun vs H Q E h => ?_) (fun cdv A outer s H vs Q E hr h => ?_)
  · obtain ⟨h, l, r, xs, rfl, _⟩ := h
    rfl
  · obtain ⟨h, l, r, xs, rfl, hH, hR, hro, k⟩ := h
    refine ⟨_, (pss_cons (ps_par (i := 2) (j := 3) (by rfl) scLine.nd rfl rfl (by decide) rfl rfl (pa_cons (pe_callTy call_list_of (by rfl) T.list (by decide +kernel) (pa_cons (pv 1) pa_nil)) (pa_cons (pe_op op_rep0 pe_str (pe_f c__law_draw hr (by decide) pass0 (pa_cons (pv 0) (pa_cons pe_int pa_nil)))) pa_nil)) (by rfl))
        (pss_cons (ps_for PassesOwn.never rfl (pi_range1 (by rfl) T.range (pa_cons (pe_callB (r := rLenS K) call_lenS (by rfl) T.len PySem.boot_len (pa_cons (pv 1) pa_nil)) pa_nil)) (pg_name (i := 4) scLine.nd rfl (Or.inl rfl))
        (pss_one (ps_set (i := 3) scLine.nd rfl (Or.inl rfl) (pe_op op_add_str (pe_op op_add_str (pv 3) (pe_bm PySem.F.plainAttrs_list PySem.F.slot_list_pop PySem.F.type_list_pop mt_popAt (pv 2) (pa_cons (pe_f c__law_draw hr (by decide) pass0 (pa_cons (pv 0) (pa_cons (pe_callB (r := rLenS K) call_lenS (by rfl) T.len PySem.boot_len (pa_cons (pv 2) pa_nil)) pa_nil))) pa_nil))) (pe_op op_rep0 pe_str (pe_op op_add pe_int (pe_op op_mul (pe_f c__law_draw hr (by decide) pass0 (pa_cons (pv 0) (pa_cons pe_int pa_nil))) (pe_f c__law_draw hr (by decide) pass0 (pa_cons (pv 0) (pa_cons pe_int pa_nil))))))))))
        (pss_one (ps_ret (pe_ifExp (pt_cmpR op_eq (pe_f c__law_draw hr (by decide) pass0 (pa_cons (pv 0) (pa_cons pe_int pa_nil))) pe_int (nomark _)) (pe_slice sl_str (pv 3) po_none (po_some (pe_un un_neg pe_int))) (pv 3)))))), ?_⟩
    have h3 := hro.1
    have h5 := hro.2.1
    have hbl : blS.length = 1 := by decide +kernel
    obtain ⟨-, zs, s0, f1, f2, _⟩ := id hH
    refine ⟨_, rfl, r, _, rfl, .inr (SqT.of hR), fun Nm hNm => ?_⟩
    have nh : Nm ≠ h := fun z => by rw [z, f1] at hNm; cases hNm
    have nl : Nm ≠ l := fun z => by rw [z, f2] at hNm; cases hNm
    have S1 := RK.Same.upd (o := .lst (xs.map V.str)) hNm
    have e1 : (upd H Nm (.lst (xs.map V.str))) Nm = some (.lst (xs.map V.str)) := upd_same
    generalize upd H Nm (.lst (xs.map V.str)) = H1 at S1 e1 ⊢
    refine ⟨_, rfl, h, l, 3, rfl, hH.same S1, by decide, by decide, fun d0 H2 hd0 hH2 k2 => ⟨blS, d0, rfl, rfl, by omega, by omega, by omega, ?_⟩⟩
    have hb0 := repS_bl d0
    refine ⟨_, _, rfl, _, rfl, r, _, rfl, .inr (SqT.of (k2 _ _ (S1 _ _ hR) (ne_of hR f1 (by intro z; cases z)) (ne_of hR f2 (by intro z; cases z)))), ?_⟩
    have K2 : Kh h l H H2 := (Kh.of S1).trans k2
    have e2 := k2 _ _ e1 nh nl
    rw [List.length_map]
    refine ⟨(xs.length : Int), rfl, by omega, by omega, for_range (fun i σ H' => ∃ (v4 : Option V) (x : Str) (left done : List Str), σ = [some (.ref h), some (.ref r), some (.ref Nm), some (.str x), v4] ∧ HeapAt H' h l ∧ Kh h l H H' ∧
      H' Nm = some (.lst (left.map V.str)) ∧ Closed (tl x) ∧ wl (tl x) = done.map tl ∧ (done ++ left).Perm xs ∧ left.length + i = xs.length ∧ 10 ∉ tl x ∧ x.length ≤ 2 + 9 * i ∧ (0 < i → ∃ t, tl x = t ++ [32]))
      ⟨_, _, xs, [], rfl, hH2, K2, e2, by rw [hb0]; exact closed_rep d0, ?_, List.Perm.refl _, by omega, ?_, ?_, fun z => absurd z (by omega)⟩ ?_ ?_⟩
    · rw [hb0]
      have := wl_rep [] d0
      rw [List.append_nil] at this
      exact this
    · rw [hb0]
      intro z
      exact absurd (List.eq_of_mem_replicate z) (by decide)
    · rw [len_tl, hb0, List.length_replicate]
      omega
    · rintro i σ H3 hi ⟨v4, x, left, done, rfl, hH3, k3, e3, hc, hw, hp, hl, h10, hxl, ht⟩
      have hi' : i < xs.length := by omega
      refine ⟨_, rfl, _, rfl, .inl ⟨rfl, _, SqL.of e3⟩, _, rfl, _, rfl, Nm, _, rfl, .inl (SqL.of e3), h, l, _, rfl, hH3, by rw [List.length_map]; omega, by rw [List.length_map]; omega, fun d H4 hd hH4 k4 => ?_⟩
      rw [List.length_map] at hd
      have hdl : d < left.length := by omega
      have hg : left[d]? = some left[d] := List.getElem?_eq_getElem hdl
      have e4 := k4 _ _ e3 nh nl
      refine ⟨Nm, _, (d : Int), d, .str left[d], rfl, rfl, e4, by omega, by omega, ?_, by rw [List.getElem?_map, hg]; rfl, ?_⟩
      · rw [List.length_map]
        exact PySem.StrLaws.seqIndex_nonneg (by omega) (by omega)
      rw [erase_map]
      have hH5 := heap_other (o := .lst ((left.eraseIdx d).map V.str)) hH4 nh nl
      have e5 : (upd H4 Nm (.lst ((left.eraseIdx d).map V.str))) Nm = some (.lst ((left.eraseIdx d).map V.str)) := upd_same
      have k5 : Kh h l H (upd H4 Nm (.lst ((left.eraseIdx d).map V.str))) := fun b o hb n m => by
        rw [upd_ne (ne_of_none hb hNm)]
        exact (k3.trans k4) b o hb n m
      generalize upd H4 Nm (.lst ((left.eraseIdx d).map V.str)) = H5 at hH5 e5 k5 ⊢
      have hy := hro.2.2.1 left[d] (hp.mem_iff.mp (List.mem_append.mpr (.inr (List.getElem_mem hdl))))
      obtain ⟨y1, y2, y3⟩ := name_facts hy
      have yl := hy.2.1
      refine ⟨x, left[d], rfl, rfl, Nat.le_trans (by omega : _ ≤ 100) (by decide), _, rfl, h, l, 2, rfl, hH5, by decide, by decide, fun d1 H6 hd1 hH6 k6 => ⟨_, rfl, h, l, 4, rfl, hH6, by decide, by decide, fun d2 H7 hd2 hH7 k7 => ?_⟩⟩
      refine ⟨_, _, rfl, rfl, .inl ⟨by omega, by omega⟩, _, _, rfl, rfl, blS, 1 + d1 * d2, rfl, by rw [Int.natCast_add, Int.natCast_mul]; rfl, ?_, by omega, by omega, ?_⟩
      · have : d1 * d2 ≤ 1 * 3 := Nat.mul_le_mul (by omega) (by omega)
        omega
      have hm : d1 * d2 ≤ 3 := Nat.le_trans (Nat.mul_le_mul (by omega : d1 ≤ 1) (by omega : d2 ≤ 3)) (by decide)
      have hb := repS_bl (1 + d1 * d2)
      have hbl2 : (repS blS ((1 + d1 * d2 : Nat) : Int)).length = 1 + d1 * d2 := by rw [len_tl, hb, List.length_replicate]
      have hxy : (x ++ left[d]).length = x.length + left[d].length := by rw [len_tl, tl_append, List.length_append, ← len_tl, ← len_tl]
      have htl : tl (x ++ left[d] ++ repS blS ((1 + d1 * d2 : Nat) : Int)) = tl x ++ tl left[d] ++ List.replicate (1 + d1 * d2) 32 := by rw [tl_append, tl_append, hb]
      obtain ⟨c1, c2, c3⟩ := closed_add (w := tl left[d]) (m := 1 + d1 * d2) hc y1 y2 (by omega)
      refine ⟨_, _, rfl, rfl, Nat.le_trans (by omega : _ ≤ 200) (by decide), ?_⟩
      refine ⟨_, _, left.eraseIdx d, done ++ [left[d]], rfl, hH7, (k5.trans k6).trans k7, k7 _ _ (k6 _ _ e5 nh nl) nh nl, by rw [htl]; exact c1, ?_, ?_, ?_, ?_, ?_, fun _ => by rw [htl]; exact c3⟩
      · rw [htl, c2, hw, List.map_append]
        rfl
      · rw [List.append_assoc]
        exact (List.Perm.append_left _ (erase_perm hg)).trans hp
      · rw [List.length_eraseIdx, if_pos hdl]
        omega
      · rw [htl]
        intro z
        rcases List.mem_append.mp z with z | z
        · rcases List.mem_append.mp z with z | z
          · exact h10 z
          · exact y3 z
        · exact absurd (List.eq_of_mem_replicate z) (by decide)
      · rw [len_tl, htl, List.length_append, List.length_append, List.length_replicate, ← len_tl, ← len_tl]
        omega
    · rintro σ H3 ⟨v4, x, left, done, rfl, hH3, k3, e3, hc, hw, hp, hl, h10, hxl, ht⟩
      have hl0 : left = [] := List.length_eq_zero_iff.mp (by omega)
      subst hl0
      rw [List.append_nil] at hp
      obtain ⟨t, ht⟩ := ht (by omega)
      refine ⟨_, rfl, h, l, 2, rfl, hH3, by decide, by decide, fun d1 H4 hd1 hH4 k4 => ⟨rfl, _, rfl, ?_⟩⟩
      have K4 := k3.trans k4
      have wd : ∀ z : Str, wl (tl z) = done.map tl → wdsOf z = done := fun z hz => map_tl_inj (by rw [RK.words_tl, hz])
      refine ite2 (fun _ => ?_) (fun _ => ?_)
      · refine ⟨_, rfl, _, rfl, (-1 : Int), rfl, x, rfl, Nat.le_trans (by omega : _ ≤ 200) (by decide), ?_⟩
        have hcut : tl (cutS x none (some (-1))) = t := by rw [tl_cut1, ht, List.dropLast_concat]
        refine k _ H4 hH4 K4 ⟨?_, ?_, ?_⟩
        · rw [wd _ (by rw [hcut, ← wl_last, ← ht, hw])]
          exact hp
        · rw [hcut]
          intro z
          exact h10 (by rw [ht]; exact List.mem_append.mpr (.inl z))
        · rw [len_tl, hcut]
          have : x.length = t.length + 1 := by rw [len_tl, ht, List.length_append]; rfl
          omega
      · refine ⟨_, rfl, k _ H4 hH4 K4 ⟨?_, h10, by omega⟩⟩
        rw [wd _ hw]
        exact hp
abbrev nShown : List Str := ["rooms", "text", "room", "name"]
theorem scShown : FnScope nShown ["rooms"] (defScope sShown) := ⟨rfl, rfl, rfl, by decide +kernel, rfl, by decide +kernel, by decide +kernel⟩
theorem ok_shown {f : Addr} {fd : FuncData} (F : Fun K "_law_shown" "_law_shown" sShown f fd) : FnOk P w K mg base CX0 1 f fd ["rooms"] spShown := by
  refine F.ok scShown (fun vs H Q E h => ?_) (fun cdv A outer s H vs Q E hr h => ?_)
  · obtain ⟨R, rs, rfl, _⟩ := h
    rfl
  · obtain ⟨R, rs, rfl, hR, hI, h0, h9, hok, k⟩ := h
    refine ⟨_, (pss_cons (ps_set (i := 1) scShown.nd rfl (Or.inl rfl) pe_str)
        (pss_cons (ps_for PassesOwn.never rfl (pi_list (pv 0)) (pg_name (i := 2) scShown.nd rfl (Or.inl rfl))
        (pss_cons (ps_for PassesOwn.never rfl (pi_tup (pv 2)) (pg_name (i := 3) scShown.nd rfl (Or.inl rfl))
        (pss_one (ps_set (i := 1) scShown.nd rfl (Or.inl rfl) (pe_op op_add_str (pe_op op_add_str (pv 1) (pv 3)) pe_str))))
        (pss_one (ps_set (i := 1) scShown.nd rfl (Or.inl rfl) (pe_op op_add_str (pe_slice sl_str (pv 1) po_none (po_some (pe_un un_neg pe_int))) pe_str)))))
        (pss_one (ps_ret (pe_slice sl_str (pv 1) po_none (po_some (pe_un un_neg pe_int))))))), ?_⟩
    have hbl : tl (Str.ofString " ") = [32] := tl_bl
    have hnl : tl (Str.ofString "\n") = [10] := tl_nl
    have lbl : (Str.ofString " ").length = 1 := by decide +kernel
    have lnl : (Str.ofString "\n").length = 1 := by decide +kernel
    let fr : Rm → List Nat := fun r => joinL [32] (r.map tl) ++ [10]
    have frl : ∀ r ∈ rmsOf rs, (fr r).length ≤ 31 := fun r hr => by
      have h1 := roomS_len (hok r hr)
      rw [len_tl, tl_roomS] at h1
      show (joinL [32] (r.map tl) ++ [10]).length ≤ 31
      rw [List.length_append, List.length_singleton]
      omega
    refine ⟨_, rfl, R, rfl, ⟨_, SqL.of hR⟩, for_list (K := K) (a := R) (xs := refsOf rs) (fun i σ H' => ∃ (v2 v3 : Option V) (x : Str), σ = [some (.ref R), some (.str x), v2, v3] ∧ L2.Same H H' ∧ tl x = ((rmsOf rs).take i).flatMap fr ∧ x.length ≤ 31 * i)
      ⟨_, _, _, rfl, L2.Same.refl _, by rw [List.take_zero, List.flatMap_nil]; decide +kernel, by decide +kernel⟩ (fun i σ H' _ ⟨_, _, _, _, S, _⟩ => SqL.of (S _ _ hR)) ?_ ?_⟩
    · rintro i v σ H1 hi ⟨v2, v3, x, rfl, S1, ht, hl⟩
      obtain ⟨r, hr', rfl⟩ := refs_at hi
      have hil := (List.getElem?_eq_some_iff.mp hr').1
      have hrm : (rmsOf rs)[i]? = some r.2 := by
        unfold rmsOf
        rw [List.getElem?_map, hr']
        rfl
      have hro := hok r.2 (List.mem_of_getElem? hrm)
      have hrt := S1 _ _ (hI r (List.mem_of_getElem? hr'))
      have h5 := hro.2.1
      refine ⟨_, rfl, r.1, rfl, ⟨_, SqT.of hrt⟩, for_tup (K := K) (a := r.1) (xs := r.2.map V.str) (fun j σ H' => ∃ (v3 : Option V) (y : Str), σ = [some (.ref R), some (.str y), some (.ref r.1), v3] ∧ L2.Same H1 H' ∧ tl y = tl x ++ (r.2.take j).flatMap (fun z => tl z ++ [32]) ∧ y.length ≤ 31 * i + 6 * j)
        ⟨_, _, rfl, L2.Same.refl _, by rw [List.take_zero, List.flatMap_nil, List.append_nil], by omega⟩ (fun j σ H' _ ⟨_, _, _, S, _⟩ => SqT.of (S _ _ hrt)) ?_ ?_⟩
      · rintro j v σ H2 hj ⟨v3, y, rfl, S2, hty, hly⟩
        obtain ⟨z, hz, rfl⟩ := strs_at hj
        have hjl := (List.getElem?_eq_some_iff.mp hz).1
        have hzo := hro.2.2.1 z (List.mem_of_getElem? hz)
        have hzl := hzo.2.1
        have hyz : (y ++ z).length = y.length + z.length := by rw [len_tl, tl_append, List.length_append, ← len_tl, ← len_tl]
        refine ⟨_, rfl, _, rfl, y, z, rfl, rfl, Nat.le_trans (by omega : _ ≤ 1000) (by decide), _, _, rfl, rfl, Nat.le_trans (by omega : _ ≤ 1000) (by decide), ?_⟩
        refine ⟨_, _, rfl, S2, ?_, ?_⟩
        · rw [tl_append, tl_append, hty, hbl, List.take_add_one, hz, List.flatMap_append]
          simp
        · rw [len_tl, tl_append, List.length_append, hbl, ← len_tl]
          show (y ++ z).length + 1 ≤ _
          omega
      · rintro σ H2 ⟨v3, y, rfl, S2, hty, hly⟩
        rw [List.length_map] at hty hly
        rw [List.take_length] at hty
        have hne : r.2.map tl ≠ [] := fun e => by
          have := congrArg List.length e
          rw [List.length_map, List.length_nil] at this
          have := hro.1
          omega
        have ef : r.2.flatMap (fun z => tl z ++ [32]) = joinL [32] (r.2.map tl) ++ [32] := by
          rw [← join_flat hne, List.flatMap_map]
        rw [ef, ← List.append_assoc] at hty
        have hcut : tl (cutS y none (some (-1))) = tl x ++ joinL [32] (r.2.map tl) := by rw [tl_cut1, hty, List.dropLast_concat]
        have hcl : (cutS y none (some (-1))).length ≤ 31 * i + 30 := by
          have h1 := roomS_len hro
          rw [len_tl, tl_roomS] at h1
          rw [len_tl, hcut, List.length_append, ← len_tl]
          omega
        refine ⟨_, rfl, _, rfl, (-1 : Int), rfl, y, rfl, Nat.le_trans (by omega : _ ≤ 1000) (by decide), _, _, rfl, rfl, Nat.le_trans (by omega : _ ≤ 1000) (by decide), ?_⟩
        refine ⟨_, _, _, rfl, S1.trans S2, ?_, ?_⟩
        · rw [tl_append, hcut, hnl, List.take_add_one, hrm, List.flatMap_append, ht, List.append_assoc]
          show _ = _ ++ [r.2].flatMap fr
          rw [List.flatMap_cons, List.flatMap_nil, List.append_nil]
        · rw [len_tl, tl_append, List.length_append, hnl, ← len_tl]
          show _ + 1 ≤ _
          omega
    · rintro σ H1 ⟨v2, v3, x, rfl, S1, ht, hl⟩
      rw [refs_len] at ht hl
      have hml := rms_len rs
      rw [← hml, List.take_length] at ht
      have hne : (rmsOf rs).map (fun r => joinL [32] (r.map tl)) ≠ [] := fun e => by
        have := congrArg List.length e
        rw [List.length_map, hml, List.length_nil] at this
        exact h0 (List.length_eq_zero_iff.mp this)
      have ef : (rmsOf rs).flatMap fr = joinL [10] ((rmsOf rs).map fun r => joinL [32] (r.map tl)) ++ [10] := by
        rw [← join_flat hne, List.flatMap_map]
      refine ⟨_, rfl, _, rfl, (-1 : Int), rfl, x, rfl, Nat.le_trans (by omega : _ ≤ 1000) (by decide), ?_⟩
      have ec : cutS x none (some (-1)) = shownS (rmsOf rs) := ext_tl (by rw [tl_cut1, ht, ef, List.dropLast_concat, tl_shownS])
      rw [ec]
      exact k H1 S1
end
end K03


set_option Elab.async false
set_option linter.all false
set_option maxRecDepth 100000
set_option maxHeartbeats 4000000
/-! the law -/
namespace K03
open PySem PySem.Spec PyProof.Rows L2 RK
abbrev sLaw : Stmt := topL 46
structure TLw (K : PySem.W.Frag) (mg : Str → Option Value) (CB : Addr) : Prop where
  cl : Cls K CB
  nR : NoAttr K CB "rooms"
  g_Book : ∃ u, mg "Book" = some u ∧ RelV (.ref CB) u
  tyB : ∀ {H : Hp} {a dx : Addr} {fs : List (Str × V)}, H a = some (.ins CB dx fs) → TyX K H (.ref a) (.ref CB)
  isi : mg "isinstance" = none
  str : mg "str" = none
  len : mg "len" = none
  range : mg "range" = none
  tuple : mg "tuple" = none
def spLaw (K : PySem.W.Frag) : Sp := fun vs H Q _ => ∃ (a : Addr) (ns : List Int), vs = [.ref a] ∧ SqL K H a (ns.map V.int) ∧ ns.length ≤ 63 ∧ ∀ H', Q (.bl true) H'
theorem lines_sum : ∀ l : List Str, (∀ x ∈ l, x.length ≤ 100) → (l.map (·.length)).sum ≤ l.length * 100
  | [], _ => Nat.zero_le _
  | x :: l, h => by
    have a1 := h x List.mem_cons_self
    have a2 := lines_sum l fun y hy => h y (List.mem_cons_of_mem _ hy)
    rw [List.map_cons, List.sum_cons, List.length_cons]
    omega
section
variable {P : Program} {w : World} {K : PySem.W.Frag} {mg : Str → Option Value} {base : Heap} {CB : Addr}
abbrev nLaw : List Str := ["script", "heap", "rooms", "book", "due", "turn", "told", "back", "at", "room"]
theorem scLaw : FnScope nLaw ["script"] (defScope sLaw) := ⟨rfl, rfl, rfl, by decide +kernel, rfl, by decide +kernel, by decide +kernel⟩
theorem ok_law {f : Addr} {fd : FuncData} (F : Fun K "law" "law" sLaw f fd) (T : TLw K mg CB) (c__law_heap : Cl P w K mg base CX0 1 "_law_heap" ["script"] (spHeap K)) (c__law_draw : Cl P w K mg base CX0 1 "_law_draw" ["heap", "many"] spDraw)
    (c__law_names : Cl P w K mg base CX0 3 "_law_names" ["heap", "many"] spNames) (c__law_rooms : Cl P w K mg base CX0 3 "_law_rooms" ["heap", "names", "many", "most"] spRooms) (c_Book : Cc P w K mg base CX0 3 "Book" CB ["self", "rooms"] (spBInit CB))
    (e_Book : Ce P w K mg base CX0 1 CB ["self", "other"] (spBEq K CB)) (c__law_line : Cl P w K mg base CX0 2 "_law_line" ["heap", "room"] spLine) (c__law_shown : Cl P w K mg base CX0 1 "_law_shown" ["rooms"] spShown)
    (c_read_book : Cl P w K mg base CX0 6 "read_book" ["text"] (spRead CB)) (k_read_book_text : Ck P w K mg base CX0 6 "read_book" ["text"] ["text"] kwId (spRead CB)) (c_show_book : Cl P w K mg base CX0 1 "show_book" ["book"] (spShow CB)) (k_show_book_book : Ck P w K mg base CX0 1 "show_book" ["book"] ["book"] kwId (spShow CB)) :
    FnOk P w K mg base CX0 7 f fd ["script"] (spLaw K) := by
  refine F.ok scLaw (fun vs H Q E h => ?_) (fun cdv A outer s H vs Q E hr h => ?_)
  · obtain ⟨a, ns, rfl, _⟩ := h
    rfl
  · obtain ⟨a, ns, rfl, hS, hl, k⟩ := h
    refine ⟨_, (pss_cons (ps_set (i := 1) scLaw.nd rfl (Or.inr rfl) (pe_f c__law_heap hr (by decide) pass0 (pa_cons (pv 0) pa_nil)))
        (pss_cons (ps_set (i := 2) scLaw.nd rfl (Or.inl rfl) (pe_f c__law_rooms hr (by decide) pass0 (pa_cons (pv 1) (pa_cons (pe_f c__law_names hr (by decide) pass0 (pa_cons (pv 1) (pa_cons pe_int pa_nil))) (pa_cons (pe_op op_add pe_int (pe_f c__law_draw hr (by decide) pass0 (pa_cons (pv 1) (pa_cons pe_int pa_nil)))) (pa_cons (pe_op op_add pe_int (pe_f c__law_draw hr (by decide) pass0 (pa_cons (pv 1) (pa_cons pe_int pa_nil)))) pa_nil))))))
        (pss_cons (ps_par (i := 3) (j := 4) (by rfl) scLaw.nd rfl rfl (by decide) rfl rfl (pa_cons (pe_cls c_Book hr (by decide) pass0 (pa_cons (pe_callTy call_tuple_of (by rfl) T.tuple boot_tuple (pa_cons (pv 2) pa_nil)) pa_nil)) (pa_cons (pe_f c__law_shown hr (by decide) pass0 (pa_cons (pv 2) pa_nil)) pa_nil)) (by rfl))
        (pss_cons (ps_for PassesOwn.never rfl (pi_range1 (by rfl) T.range (pa_cons pe_int pa_nil)) (pg_name (i := 5) scLaw.nd rfl (Or.inl rfl))
        (pss_cons (ps_set (i := 6) scLaw.nd rfl (Or.inl rfl) (pe_k k_read_book_text hr (by decide) pass0 (pk_cons (pe_join pe_str (pe_lc (own := [("room", 9)]) (g := gName 9) (tt := tYes) rfl scLaw.nd (pi_list (pv 2)) (blkOk_by (N := nLaw) (sc := defScope sLaw) (by decide +kernel)) (fun _ _ _ _ _ => pg_name (i := 9) scLaw.nd rfl (Or.inl rfl)) (fun _ _ _ _ _ => pts_nil) (fun _ _ _ _ _ => (pe_f c__law_line hr (by decide) pass0 (pa_cons (pv 1) (pa_cons (pv 9) pa_nil)))))) pk_nil)))
        (pss_one (ps_if (PW.pt (pw_or (pt_not (pt_val (pe_callB (r := rIsi K) call_isi (by rfl) T.isi boot_isinstance (pa_cons (pv 6) (pa_cons (C8.pe_gc (by rfl) T.g_Book) pa_nil))))) (pw_or (pt_cmpR (r := rNeD K) (op_neD hr.units) (pe_fld (pv 6) rfl) (pe_callTy call_tuple_of (by rfl) T.tuple boot_tuple (pa_cons (pv 2) pa_nil)) (nomark _)) (pw_or (pt_cmpR (r := rOwnEq K CB (spBEq K CB) E0 true) (op_neO e_Book hr (by decide) pass0) (pv 6) (pv 3) (nomark _)) (pw_or1 (pt_cmpR op_ne (pe_f c_show_book hr (by decide) pass0 (pa_cons (pv 6) pa_nil)) (pv 4) (nomark _))))))) (pss_one (ps_ret pe_bl)) pss_nil))))
        (pss_cons (ps_if (PW.pt (pw_or (pt_not (pt_val (pe_callB (r := rIsi K) call_isi (by rfl) T.isi boot_isinstance (pa_cons (pe_k k_show_book_book hr (by decide) pass0 (pk_cons (pv 3) pk_nil)) (pa_cons (pe_bltn (v := .ty "str") (by rfl) T.str (by decide +kernel) rfl) pa_nil))))) (pw_or (pt_cmpR op_ne (pe_f c_show_book hr (by decide) pass0 (pa_cons (pv 3) pa_nil)) (pv 4) (nomark _)) (pw_or1 (pt_cmpR (r := rOwnEq K CB (spBEq K CB) E0 true) (op_neO e_Book hr (by decide) pass0) (pe_f c_read_book hr (by decide) pass0 (pa_cons (pv 4) pa_nil)) (pv 3) (nomark _)))))) (pss_one (ps_ret pe_bl)) pss_nil)
        (pss_cons (ps_set (i := 7) scLaw.nd rfl (Or.inl rfl) (pe_revL (pv 2)))
        (pss_cons (ps_if (PW.pt (pw_or (pt_cmpR op_ne (pe_f c_show_book hr (by decide) pass0 (pa_cons (pe_cls c_Book hr (by decide) pass0 (pa_cons (pe_callTy call_tuple_of (by rfl) T.tuple boot_tuple (pa_cons (pv 7) pa_nil)) pa_nil)) pa_nil)) (pe_f c__law_shown hr (by decide) pass0 (pa_cons (pv 7) pa_nil)) (nomark _)) (pw_or1 (pt_cmpR (r := rNeD K) (op_neD hr.units) (pe_fld (pe_f c_read_book hr (by decide) pass0 (pa_cons (pe_f c__law_shown hr (by decide) pass0 (pa_cons (pv 7) pa_nil)) pa_nil)) rfl) (pe_callTy call_tuple_of (by rfl) T.tuple boot_tuple (pa_cons (pv 7) pa_nil)) (nomark _))))) (pss_one (ps_ret pe_bl)) pss_nil)
        (pss_cons (ps_set (i := 8) scLaw.nd rfl (Or.inl rfl) (pe_f c__law_draw hr (by decide) pass0 (pa_cons (pv 1) (pa_cons (pe_callB (r := rLenS K) call_lenS (by rfl) T.len PySem.boot_len (pa_cons (pv 2) pa_nil)) pa_nil))))
        (pss_one (ps_ret (pe_and (pe_cmpR (r := rEqD K) (op_eqD hr.units) (pe_fld (pe_f c_read_book hr (by decide) pass0 (pa_cons (pe_f c__law_shown hr (by decide) pass0 (pa_cons (pe_lst (pa_cons (pe_ix (r := rIxL K) ix_list (pv 2) (pv 8) (fun _ _ => rfl)) pa_nil)) pa_nil)) pa_nil)) rfl) (pe_tup (pa_cons (pe_ix (r := rIxL K) ix_list (pv 2) (pv 8) (fun _ _ => rfl)) pa_nil)) (nomark _)) (pe_one (pe_cmpR op_eq (pe_f c_show_book hr (by decide) pass0 (pa_cons (pv 3) pa_nil)) (pv 4) (nomark _)))))))))))))), ?_⟩
    refine ⟨_, rfl, a, ns, rfl, hS, hl, fun h l H1 S1 h0 l0 hH1 => ?_⟩
    refine ⟨_, rfl, _, rfl, h, l, 24, rfl, hH1, by decide, fun Nm names H2 hH2 k2 n0 eN nlen nnd nok => ?_⟩
    obtain ⟨hne, zs, s1, f1, f2, _⟩ := id hH1
    have nh : Nm ≠ h := fun z => by rw [z, f1] at n0; cases n0
    have nl : Nm ≠ l := fun z => by rw [z, f2] at n0; cases n0
    refine ⟨_, rfl, h, l, 9, rfl, hH2, by decide, by decide, fun d1 H4 hd1 hH4 k4 => ⟨_, _, rfl, rfl, _, rfl, h, l, 3, rfl, hH4, by decide, by decide, fun d2 H5 hd2 hH5 k5 => ⟨_, _, rfl, rfl, ?_⟩⟩⟩
    refine ⟨h, l, Nm, names, 1 + d1, 3 + d2, by rw [Int.natCast_add, Int.natCast_add]; rfl, hH5, (k4.trans k5) _ _ eN nh nl, nh, nl, nnd, nok, by omega, by omega, by omega, by omega, by omega, by omega, fun R rs H6 hH6 k6 r0 eR eI ok r9 sub => ?_⟩
    obtain ⟨-, zs5, s5, j1, j2, _⟩ := id hH5
    have rh : R ≠ h := fun z => by rw [z, j1] at r0; cases r0
    have rl : R ≠ l := fun z => by rw [z, j2] at r0; cases r0
    have few := ok.few
    have hml := rms_len rs
    have hrl := refs_len rs
    have rne : rs ≠ [] := fun z => by
      have h1 := few.1
      rw [hml, z] at h1
      exact absurd h1 (by decide)
    have oks := rooms_ok ok
    have bnl : nlS.length = 1 := by decide +kernel
    -- the book, its text
    refine ⟨_, rfl, R, _, rfl, .inl ⟨SqL.of eR, fun p2 hp2 => ?_⟩⟩
    have S7 := RK.Same.upd (o := .tup (refsOf rs)) hp2
    intro b dx hb hdx hbd
    refine make_book hb hdx hbd upd_same (eI.same S7) ok (fun H8 hB8 S8 => ⟨rfl, ?_⟩)
    clear hb hdx hbd
    have S68 := S7.trans S8
    refine ⟨_, rfl, R, rs, rfl, S68 _ _ eR, eI.same S68, rne, by omega, ok.ok, fun H9 S9 => ?_⟩
    have S69 := S68.trans S9
    have hH9 := hH6.same S69
    have B9 := hB8.same S9
    have R9 := S69 _ _ eR
    have I9 := eI.same S69
    have st : ∀ {H'}, Kh h l H9 H' → BookAt CB H' b (rmsOf rs) ∧ H' R = some (.lst (refsOf rs)) ∧ RoomsIn H' rs := fun {H'} kh =>
      ⟨B9.kh hH9 kh, kh _ _ R9 rh rl, RoomsIn.kh hH9 kh I9⟩
    refine ⟨_, _, rfl, (2 : Int), rfl, by omega, by omega, for_range (fun i σ H' => ∃ v5 v6 : Option V, σ = [some (.ref a), some (.ref h), some (.ref R), some (.ref b), some (.str (shownS (rmsOf rs))), v5, v6, none, none, none] ∧ HeapAt H' h l ∧ Kh h l H9 H')
      ⟨_, _, rfl, hH9, Kh.refl h l H9⟩ ?_ ?_⟩
    · rintro i σ H10 hi ⟨v5, v6, rfl, hH10, k10⟩
      obtain ⟨B10, R10, I10⟩ := st k10
      refine ⟨⟨_, rfl⟩, _, rfl, R, rfl, ⟨_, SqL.of R10⟩, fun D hD => ?_⟩
      obtain ⟨-, zsa, sa, a1, a2, _⟩ := id hH10
      have dh : D ≠ h := fun z => by rw [z, a1] at hD; cases hD
      have dl : D ≠ l := fun z => by rw [z, a2] at hD; cases hD
      refine lc_list (K := K) (a := R) (xs := refsOf rs) (fun i H' => ∃ ls : List Str, HeapAt H' h l ∧ Kh h l H10 H' ∧ H' D = some (.lst (ls.map V.str)) ∧ ls.length = i ∧ ∀ (j : Nat) (y : Str) (r : Rm), ls[j]? = some y → (rmsOf rs)[j]? = some r → LineOf y r)
        ⟨[], heap_other hH10 dh dl, fun c o e n m => by rw [upd_ne (ne_of_none e hD)]; exact e, upd_same, rfl, fun j y r hj _ => by simp at hj⟩ (fun i H' _ ⟨_, _, kk, _⟩ => SqL.of (kk _ _ R10 rh rl)) ?_ ?_
      · rintro i v H11 hi ⟨ls, hH11, k11, e11, hll, hli⟩
        obtain ⟨r, hr', rfl⟩ := refs_at hi
        have hrm : (rmsOf rs)[i]? = some r.2 := by
          unfold rmsOf
          rw [List.getElem?_map, hr']
          rfl
        have hil := (List.getElem?_eq_some_iff.mp hr').1
        have hrt := (RoomsIn.kh hH10 k11 I10) r (List.mem_of_getElem? hr')
        refine ⟨rfl, ?_⟩
        unfold tYes
        refine iteT ⟨_, rfl, _, rfl, h, l, r.1, r.2, rfl, hH11, hrt, ok.ok r.2 (List.mem_of_getElem? hrm), fun x H12 hH12 k12 hx => ⟨_, k12 _ _ e11 dh dl, ?_, ls ++ [x], heap_other hH12 dh dl, ?_, ?_, ?_, ?_⟩⟩
        · rw [List.length_map]
          exact Nat.lt_of_lt_of_le (by omega : ls.length < 100) (by decide)
        · exact fun c o e n m => by rw [upd_ne (ne_of_none e hD)]; exact (k11.trans k12) _ _ e n m
        · rw [upd_same, List.map_append]
          rfl
        · rw [List.length_append, hll]
          rfl
        · intro j y r' hj hr2
          by_cases hji : j < ls.length
          · rw [List.getElem?_append_left hji] at hj
            exact hli j y r' hj hr2
          · have := (List.getElem?_eq_some_iff.mp hj).1
            rw [List.length_append, List.length_singleton] at this
            have e : j = ls.length := by omega
            subst e
            rw [List.getElem?_append_right (Nat.le_refl _), Nat.sub_self] at hj
            rw [hll, hrm] at hr2
            cases hj
            cases hr2
            exact hx
      · rintro H11 ⟨ls, hH11, k11, e11, hll, hli⟩
        rw [hrl] at hll
        have hls : ∀ x ∈ ls, x.length ≤ 100 := fun x hx => by
          obtain ⟨j, hj, e⟩ := List.getElem_of_mem hx
          exact (hli j x _ (by rw [List.getElem?_eq_getElem hj, e]) (List.getElem?_eq_getElem (by omega))).len
        have hsum := lines_sum ls hls
        refine ⟨nlS, D, ls, rfl, rfl, .inl (SqL.of e11), by rw [bnl]; omega, ?_⟩
        refine ⟨Txt.join nlS ls, rmsOf rs, rfl, text_join (fun z => by rw [z] at hll; simp at hll; omega) (by omega) (by omega) hli, ok, fun b2 H12 S12 B12 => ?_⟩
        have k912 := (k10.trans k11).trans (Kh.of S12)
        have hH12 := hH11.same S12
        obtain ⟨C12, R12, I12⟩ := st k912
        obtain ⟨dx2, Rb2, D2, bs2, g1, g2, g3, g4, _⟩ := id B12.ex
        obtain ⟨dx1, Rb1, D1, bs1, q1, _⟩ := id C12.ex
        have oks2 : ∀ r ∈ rmsOf bs2, ∀ x ∈ r, PyData.strOk x = true := by rw [g2]; exact oks
        refine ⟨_, rfl, _, .ref CB, _, _, true, rfl, .own CB, T.tyB g1, kit_self, true, rfl, ?_⟩
        refine iteF ⟨_, rfl, b2, CB, dx2, _, _, rfl, g1, T.cl, T.nR, bflds_rooms _ _, _, rfl, R, _, rfl, .inl ⟨SqL.of R12, fun p3 hp3 => ?_⟩⟩
        have S13 := RK.Same.upd (o := .tup (refsOf rs)) hp3
        have e13 : (upd H12 p3 (.tup (refsOf rs))) p3 = some (.tup (refsOf rs)) := upd_same
        generalize upd H12 p3 (.tup (refsOf rs)) = H13 at S13 e13 ⊢
        refine roomsT_ne oks2 oks (S13 _ _ g3) e13 (g4.same S13) (I12.same S13) ⟨_, rfl, ?_⟩
        have e2 : bs2.map (·.2) = rs.map (·.2) := g2
        rw [decide_eq_true e2]
        refine iteF ⟨_, rfl, _, rfl, b2, dx2, _, _, rfl, S13 _ _ g1, .ins (S13 _ _ q1), notFirst_self, b2, _, _, rfl, B12.same S13, .inl ⟨b, _, rfl, C12.same S13, fun H14 S14 => ⟨_, rfl, _, rfl, ?_⟩⟩⟩
        rw [if_pos rfl, decide_eq_true (rfl : rmsOf rs = rmsOf rs)]
        refine iteF ⟨_, rfl, b2, _, rfl, (B12.same S13).same S14, fun H15 S15 => ⟨_, rfl, rfl, _, rfl, ?_⟩⟩
        rw [decide_eq_true (rfl : V.str (shownS (rmsOf rs)) = _)]
        have Sz := (S13.trans S14).trans S15
        exact iteF ⟨_, _, rfl, hH12.same Sz, k912.trans (Kh.of Sz)⟩
    · rintro σ H10 ⟨v5, v6, rfl, hH10, k10⟩
      obtain ⟨B10, R10, I10⟩ := st k10
      obtain ⟨dx1, Rb1, D1, bs1, q1, _⟩ := id B10.ex
      have rmne : rmsOf rs ≠ [] := fun z => by
        have h1 := few.1
        rw [z] at h1
        exact absurd h1 (by decide)
      refine ⟨_, rfl, b, _, rfl, B10, fun H11 S11 => ⟨_, .ty "str", _, _, true, rfl, .ty _, .base (.str _), kit_ty (by decide +kernel), true, rfl, iteF ?_⟩⟩
      refine ⟨_, rfl, b, _, rfl, B10.same S11, fun H12 S12 => ⟨_, rfl, rfl, _, rfl, ?_⟩⟩
      rw [decide_eq_true (rfl : V.str (shownS (rmsOf rs)) = _)]
      have S112 := S11.trans S12
      refine iteF ⟨_, rfl, shownS (rmsOf rs), rmsOf rs, rfl, text_shown rmne few.2 ok.ok, ok, fun b2 H13 S13 B13 => ?_⟩
      obtain ⟨dx2, Rb2, D2, bs2, g1, _⟩ := id B13.ex
      have S113 := S112.trans S13
      refine ⟨_, rfl, b2, dx2, _, _, rfl, g1, .ins (S113 _ _ q1), notFirst_self, b2, _, _, rfl, B13, .inl ⟨b, _, rfl, B10.same S113, fun H14 S14 => ⟨_, rfl, _, rfl, ?_⟩⟩⟩
      rw [if_pos rfl, decide_eq_true (rfl : rmsOf rs = rmsOf rs)]
      refine iteF ?_
      have S114 := S113.trans S14
      have hH14 := hH10.same S114
      obtain ⟨B14, R14, I14⟩ := st (k10.trans (Kh.of S114))
      -- the rooms turned about
      refine ⟨_, rfl, R, _, rfl, SqL.of R14, fun q hq => ?_⟩
      have er : (refsOf rs).reverse = refsOf rs.reverse := by unfold refsOf; rw [List.map_reverse]
      have em : rmsOf rs.reverse = (rmsOf rs).reverse := by unfold rmsOf; rw [List.map_reverse]
      have S15 := RK.Same.upd (o := .lst (refsOf rs).reverse) hq
      have e15 : (upd H14 q (.lst (refsOf rs).reverse)) q = some (.lst (refsOf rs.reverse)) := by rw [upd_same, er]
      generalize upd H14 q (.lst (refsOf rs).reverse) = H15 at S15 e15 ⊢
      have nm24 : names.length ≤ 24 := Nat.le_of_eq nlen
      have subn : ∀ r ∈ rmsOf rs, ∀ x ∈ r, x ∈ names := fun r hr x hx => by
        obtain ⟨a, ha⟩ := rms_mem hr
        exact sub _ ha x hx
      have okr : RoomsOk (rmsOf rs.reverse) := by
        rw [em]
        exact (ok.rms.perm (List.reverse_perm _)).ok' (names := names) (by rw [List.length_reverse]; exact few.1) (by rw [List.length_reverse]; exact few.2) nm24 fun r hr x hx => subn r (List.mem_reverse.mp hr) x hx
      have I15 : RoomsIn H15 rs.reverse := fun r hr => (I14.same S15) r (List.mem_reverse.mp hr)
      have oksr := rooms_ok okr
      have rner : rs.reverse ≠ [] := fun z => rne (List.reverse_eq_nil_iff.mp z)
      have rmner : rmsOf rs.reverse ≠ [] := fun z => by rw [em] at z; exact rmne (List.reverse_eq_nil_iff.mp z)
      have lenr : rs.reverse.length ≤ 10 := by rw [List.length_reverse]; omega
      refine ⟨_, rfl, q, _, rfl, .inl ⟨SqL.of e15, fun p3 hp3 => ?_⟩⟩
      have S16 := RK.Same.upd (o := .tup (refsOf rs.reverse)) hp3
      intro b3 dx3 hb3 hdx3 hbd3
      refine make_book hb3 hdx3 hbd3 upd_same (I15.same S16) okr (fun H17 B17 S17 => ⟨rfl, ?_⟩)
      clear hb3 hdx3 hbd3
      have S157 := S16.trans S17
      refine ⟨b3, _, rfl, B17, fun H18 S18 => ?_⟩
      have S158 := S157.trans S18
      refine ⟨_, rfl, q, rs.reverse, rfl, S158 _ _ e15, I15.same S158, rner, lenr, okr.ok, fun H19 S19 => ⟨rfl, _, rfl, ?_⟩⟩
      rw [decide_eq_true (rfl : V.str (shownS (rmsOf rs.reverse)) = _)]
      have S159 := S158.trans S19
      refine iteF ⟨_, rfl, q, rs.reverse, rfl, S159 _ _ e15, I15.same S159, rner, lenr, okr.ok, fun H20 S20 => ⟨shownS (rmsOf rs.reverse), rmsOf rs.reverse, rfl, text_shown rmner okr.few.2 okr.ok, okr, fun b4 H21 S21 B21 => ?_⟩⟩
      have S1521 := (S159.trans S20).trans S21
      obtain ⟨dx4, Rb4, D4, bs4, g1, g2, g3, g4, _⟩ := id B21.ex
      have oks4 : ∀ r ∈ rmsOf bs4, ∀ x ∈ r, PyData.strOk x = true := by rw [g2]; exact oksr
      refine ⟨b4, CB, dx4, _, _, rfl, g1, T.cl, T.nR, bflds_rooms _ _, _, rfl, q, _, rfl, .inl ⟨SqL.of (S1521 _ _ e15), fun p4 hp4 => ?_⟩⟩
      have S22 := RK.Same.upd (o := .tup (refsOf rs.reverse)) hp4
      have e22 : (upd H21 p4 (.tup (refsOf rs.reverse))) p4 = some (.tup (refsOf rs.reverse)) := upd_same
      generalize upd H21 p4 (.tup (refsOf rs.reverse)) = H22 at S22 e22 ⊢
      have S1522 := S1521.trans S22
      refine roomsT_ne oks4 oksr (S22 _ _ g3) e22 (g4.same S22) (I15.same S1522) ⟨_, rfl, ?_⟩
      have e4 : bs4.map (·.2) = rs.reverse.map (·.2) := g2
      rw [decide_eq_true e4]
      refine iteF ?_
      have S1422 := S15.trans S1522
      have hH22 := hH14.same S1422
      have k22 := (k10.trans (Kh.of S114)).trans (Kh.of S1422)
      obtain ⟨B22, R22, I22⟩ := st k22
      -- one room
      refine ⟨_, rfl, _, rfl, R, _, rfl, .inl (SqL.of R22), h, l, _, rfl, hH22, by rw [hrl]; have := few.1; omega, by rw [hrl]; omega, fun d H23 hd hH23 k23 => ?_⟩
      rw [hrl] at hd
      have hdl : d < rs.length := by omega
      have hg : rs[d]? = some rs[d] := List.getElem?_eq_getElem hdl
      have hgm : rs[d] ∈ rs := List.getElem_mem hdl
      obtain ⟨B23, R23, I23⟩ := st (k22.trans k23)
      refine ⟨_, rfl, _, rfl, R, _, _, _, rfl, rfl, SqL.of R23, atI_nat (refs_get hg), (by show 1 ≤ sizeLine; decide), fun p5 hp5 => ?_⟩
      have S24 := RK.Same.upd (o := .lst [V.ref (rs[d]).1]) hp5
      have e24 : (upd H23 p5 (.lst [V.ref (rs[d]).1])) p5 = some (.lst (refsOf [rs[d]])) := upd_same
      generalize upd H23 p5 (.lst [V.ref (rs[d]).1]) = H24 at S24 e24 ⊢
      have ok1 : RoomsOk (rmsOf [rs[d]]) := (ok.rms.sub (qs := rmsOf [rs[d]]) (by unfold rmsOf; exact (List.singleton_sublist.mpr hgm).map _)).ok' (names := names) (Nat.le_refl 1) (by show 1 ≤ 10; decide) nm24 fun r hr x hx => by
        obtain ⟨a, ha⟩ := rms_mem hr
        rw [List.mem_singleton] at ha
        exact sub _ (ha ▸ hgm) x hx
      have I1 : RoomsIn H24 [rs[d]] := fun r hr => by
        rw [List.mem_singleton.mp hr]
        exact (I23.same S24) _ hgm
      have oks1 := rooms_ok ok1
      refine ⟨p5, [rs[d]], rfl, e24, I1, by simp, by show 1 ≤ 10; decide, ok1.ok, fun H25 S25 => ⟨shownS (rmsOf [rs[d]]), rmsOf [rs[d]], rfl, text_shown (by simp [rmsOf]) ok1.few.2 ok1.ok, ok1, fun b5 H26 S26 B26 => ?_⟩⟩
      have S2426 := S25.trans S26
      have S2326 := S24.trans S2426
      obtain ⟨dx5, Rb5, D5, bs5, g1, g2, g3, g4, _⟩ := id B26.ex
      have oks5 : ∀ r ∈ rmsOf bs5, ∀ x ∈ r, PyData.strOk x = true := by rw [g2]; exact oks1
      refine ⟨b5, CB, dx5, _, _, rfl, g1, T.cl, T.nR, bflds_rooms _ _, _, rfl, _, rfl, R, _, _, _, rfl, rfl, SqL.of (S2326 _ _ R23), atI_nat (refs_get hg), (by show 1 ≤ sizeLine; decide), fun p6 hp6 => ?_⟩
      have S27 := RK.Same.upd (o := .tup [V.ref (rs[d]).1]) hp6
      have e27 : (upd H26 p6 (.tup [V.ref (rs[d]).1])) p6 = some (.tup (refsOf [rs[d]])) := upd_same
      generalize upd H26 p6 (.tup [V.ref (rs[d]).1]) = H27 at S27 e27 ⊢
      refine roomsT_eq oks5 oks1 (S27 _ _ g3) e27 (g4.same S27) ((I1.same S2426).same S27) ⟨_, rfl, ?_⟩
      have e5 : bs5.map (·.2) = [rs[d]].map (·.2) := g2
      rw [decide_eq_true e5]
      refine iteT ⟨_, rfl, b, _, rfl, (B23.same S2326).same S27, fun H28 S28 => ⟨_, rfl, rfl, ?_⟩⟩
      rw [decide_eq_true (rfl : V.str (shownS (rmsOf rs)) = _)]
      exact k H28
end
end K03


set_option Elab.async false
set_option linter.all false
set_option maxRecDepth 100000
set_option maxHeartbeats 4000000
namespace K03
open PySem PySem.Spec PyProof.Rows L2 RK
structure Df (K : PySem.W.Frag) (mg : Str → Option Value) (x : Str) (st : Stmt) : Prop where
  ex : ∃ (f : Addr) (fd : FuncData), Fun K x x st f fd ∧ mg x = some (.ref f)
theorem df_mk {K : PySem.W.Frag} {h : Heap} {mg : Str → Option Value} {x : Str} {st : Stmt} {f : Addr} {oc : Value} {od an : Option Addr} {sl : Array (Option Value)} {kV dc pm cd ct : Value} (X : K.In h) (G : h.Ns mainGlobals mg)
    (a : PySem.W.nsIn K mainGlobals x = some (some (.ref f))) (l : K.lookup f = some ⟨oc, od, .func (PySem.W.fnOf x x (defArgs st) (defBody st) (defScope st) .none kV dc pm an cd ct), sl⟩) (c : PySem.W.codeIn K cd x = true)
    (k : PySem.W.keepIn K (.ref f) = true) : Df K mg x st := ⟨f, _, fun_mk l c k, PySem.W.mg_of X G a⟩
/-- a method of a class, where the top has put it -/
structure Dm (K : PySem.W.Frag) (C : Addr) (m qual : Str) (st : Stmt) : Prop where
  ex : ∃ (f : Addr) (fd : FuncData), Fun K m qual st f fd ∧ L2.Meth K C m f
theorem dm_mk {K : PySem.W.Frag} {C : Addr} {m qual : Str} {st : Stmt} {f : Addr} {oc : Value} {od an : Option Addr} {sl : Array (Option Value)} {kV dc pm cd ct : Value}
    (a : PySem.W.findIn K (.ref C) m = some (some (.ref f))) (t : PySem.W.typeIn K (.ref f) = some (.type "function")) (l : K.lookup f = some ⟨oc, od, .func (PySem.W.fnOf m qual (defArgs st) (defBody st) (defScope st) .none kV dc pm an cd ct), sl⟩) (c : PySem.W.codeIn K cd qual = true)
    (k : PySem.W.keepIn K (.ref f) = true) : Dm K C m qual st := ⟨f, _, fun_mk l c k, ⟨a, beq_iff_eq.mpr t, k⟩⟩
theorem kit_subT {K : PySem.W.Frag} {S : Addr} {T : String} {b : Bool} (hd : PySem.W.hasDictIn K S = true) (ht : PySem.W.typeIn K (.ref S) = some (.type "type"))
    (hs : PySem.W.subIn K (.type T) (.ref S) = some b) : PySem.W.kitOne K (.type T) (.ref S) = some b := by
  obtain ⟨cd, hc, _⟩ := PySem.W.any_some hd
  have e2 : ((PySem.W.clsIn K S).isSome && PySem.W.typeIn K (.ref S) == some (.type "type")) = true := by rw [hc, ht] <;> rfl
  unfold PySem.W.kitOne PySem.W.kitCls
  rw [if_neg (by simp)]
  dsimp only
  rw [if_pos e2]
  exact hs
theorem nf_sub {K : PySem.W.Frag} {S : Addr} {T : Value} (hs : PySem.W.subIn K T (.ref S) = some false) : PySem.W.notFirst K S T = true := by
  unfold PySem.W.notFirst
  rw [hs, Bool.or_eq_true]
  exact .inr (by decide)
theorem exm_self {K : PySem.W.Frag} {S C : Addr} (h1 : PySem.W.subIn K (.ref S) (.type "BaseException") = some true) (hd : PySem.W.hasDictIn K S = true) (h3 : PySem.W.typeIn K (.ref S) = some (.type "type"))
    (h4 : PySem.W.subIn K (.ref C) (.ref S) = some true) : PySem.W.exmOne K (.ref C) (.ref S) = some true := PySem.W.exm_ref h1 hd h3 h4
theorem all_mk {l : PySem.W.OpenLaw} {w : World} {K : PySem.W.Frag} {h : Heap} {mg : Str → Option Value} {fa fL CB : Addr} (X : K.In h) (G : h.Ns mainGlobals mg) (hfa : mg "law" = some (.ref fa))
    {odL anL : Option Addr} {slL : Array (Option Value)} {ocL kVL dcL pmL cdL ctL : Value} {t_LETTERS t_MOST_ROOMS t_MOST_OUTCOMES : Tok}
    (a_CB : PySem.W.nsIn K mainGlobals "Book" = some (some (.ref CB)))
    (pg_CB : PySem.W.plainGet K CB Str.empty = true)
    (hd_CB : PySem.W.hasDictIn K CB = true)
    (po_CB : PySem.W.plainOver K CB = true)
    (sa_CB : PySem.W.findIn K (.ref CB) "__setattr__" = some (some (.builtin "object.__setattr__")))
    (mk_CB : PySem.W.makesIn K CB = true)
    (kp_CB : PySem.W.keepIn K (.ref CB) = true)
    (ty_CB : PySem.W.typeIn K (.ref CB) = some (.type "type"))
    (cc_CB : PySem.W.findIn K (.ref CB) "__class__" = some (some (.builtin "object.__class__")))
    (mo_CB : PySem.W.mroIn K CB (.type "object") = some true)
    (so_CB : PySem.W.subIn K (.ref CB) (.type "object") = some true)
    (na_CB_rooms : PySem.W.findIn K (.ref CB) "rooms" = some none)
    (na_CB__homes : PySem.W.findIn K (.ref CB) "_homes" = some none)
    (ne_CB : PySem.W.findIn K (.ref CB) "__ne__" = some (some (.builtin "object.__ne__")))
    (sp : PySem.W.specialIn K (.builtin "object.__class__") "__get__" = some (some (.builtin "getset_descriptor.__get__")))
    (ti : PySem.W.takesIn K (.builtin "object.__class__") = some true)
    (v_LETTERS : PySem.W.nsIn K mainGlobals "LETTERS" = some (some (.str "abcdefghijklmnopqrstuvwxyz" t_LETTERS)))
    (v_MOST_ROOMS : PySem.W.nsIn K mainGlobals "MOST_ROOMS" = some (some (.int 10 t_MOST_ROOMS)))
    (v_MOST_OUTCOMES : PySem.W.nsIn K mainGlobals "MOST_OUTCOMES" = some (some (.int 24 t_MOST_OUTCOMES)))
    (z_isinstance : PySem.W.nsIn K mainGlobals "isinstance" = some none)
    (z_str : PySem.W.nsIn K mainGlobals "str" = some none)
    (z_tuple : PySem.W.nsIn K mainGlobals "tuple" = some none)
    (z_len : PySem.W.nsIn K mainGlobals "len" = some none)
    (z_all : PySem.W.nsIn K mainGlobals "all" = some none)
    (z_any : PySem.W.nsIn K mainGlobals "any" = some none)
    (z_range : PySem.W.nsIn K mainGlobals "range" = some none)
    (z_enumerate : PySem.W.nsIn K mainGlobals "enumerate" = some none)
    (z_sorted : PySem.W.nsIn K mainGlobals "sorted" = some none)
    (z_abs : PySem.W.nsIn K mainGlobals "abs" = some none)
    (z_int : PySem.W.nsIn K mainGlobals "int" = some none)
    (z_list : PySem.W.nsIn K mainGlobals "list" = some none)
    (aL : PySem.W.nsIn K mainGlobals "law" = some (some (.ref fL)))
    (lL : K.lookup fL = some ⟨ocL, odL, .func (PySem.W.fnOf "law" "law" (defArgs sLaw) (defBody sLaw) (defScope sLaw) .none kVL dcL pmL anL cdL ctL), slL⟩)
    (cL : PySem.W.codeIn K cdL "law" = true)
    (kL : PySem.W.keepIn K (.ref fL) = true)
    (d0 : Df K mg "is_name" sName)
    (d1 : Df K mg "is_ascending" sAsc)
    (d2 : Df K mg "_is_room" sIsRoom)
    (d3 : Df K mg "_crosses_twice" sCross)
    (d4 : Df K mg "_common" sCommon)
    (d5 : Df K mg "_homes_of" sHomes)
    (d6 : Df K mg "_words" sWords)
    (d7 : Df K mg "_book_of" sBookOf)
    (d8 : Df K mg "read_book" sRead)
    (d9 : Df K mg "show_book" sShow)
    (d10 : Df K mg "_law_heap" sHeap)
    (d11 : Df K mg "_law_draw" sDraw)
    (d12 : Df K mg "_law_pick" sPick)
    (d13 : Df K mg "_law_names" sNames)
    (d14 : Df K mg "_law_apart" sApart)
    (d15 : Df K mg "_law_rooms" sRooms)
    (d16 : Df K mg "_law_line" sLine)
    (d17 : Df K mg "_law_shown" sShown)
    (m0 : Dm K CB "__init__" "Book.__init__" sBInit)
    (m1 : Dm K CB "__eq__" "Book.__eq__" sBEq) :
    ∃ fd : FuncData, (∀ (s : Shared) (v : Value), BindsTo s fd ⟨[v], []⟩ [("script", v)]) ∧ ∀ base : Heap, K.In base → base.Ns mainGlobals mg → FnOk l.prog w K mg base CX0 7 fa fd ["script"] (spLaw K) := by
  have e := hfa.symm.trans (PySem.W.mg_of X G aL)
  cases e
  have cl_CB : Cls K CB := ⟨pg_CB, hd_CB, po_CB, sa_CB⟩
  have tyB_CB : ∀ {H : Hp} {a dx : Addr} {fs : List (Str × V)}, H a = some (.ins CB dx fs) → TyX K H (.ref a) (.ref CB) := fun e => .base (.ins e cl_CB cc_CB sp ti mo_CB)
  have g_LETTERS := PySem.W.mg_of X G v_LETTERS
  have g_MOST_ROOMS := PySem.W.mg_of X G v_MOST_ROOMS
  have g_MOST_OUTCOMES := PySem.W.mg_of X G v_MOST_OUTCOMES
  have b_isinstance := PySem.W.mg_none_of X G z_isinstance
  have b_str := PySem.W.mg_none_of X G z_str
  have b_tuple := PySem.W.mg_none_of X G z_tuple
  have b_len := PySem.W.mg_none_of X G z_len
  have b_all := PySem.W.mg_none_of X G z_all
  have b_any := PySem.W.mg_none_of X G z_any
  have b_range := PySem.W.mg_none_of X G z_range
  have b_enumerate := PySem.W.mg_none_of X G z_enumerate
  have b_sorted := PySem.W.mg_none_of X G z_sorted
  have b_abs := PySem.W.mg_none_of X G z_abs
  have b_int := PySem.W.mg_none_of X G z_int
  have b_list := PySem.W.mg_none_of X G z_list
  have FL := fun_mk (st := sLaw) lL cL kL
  obtain ⟨f0, fd0, F0, g0⟩ := d0.ex
  have b0 := F0.binds (ps := ["value"]) fun _ _ _ _ _ _ us hl => match us, hl with | [_], _ => rfl
  obtain ⟨f1, fd1, F1, g1⟩ := d1.ex
  have b1 := F1.binds (ps := ["values"]) fun _ _ _ _ _ _ us hl => match us, hl with | [_], _ => rfl
  obtain ⟨f2, fd2, F2, g2⟩ := d2.ex
  have b2 := F2.binds (ps := ["value"]) fun _ _ _ _ _ _ us hl => match us, hl with | [_], _ => rfl
  obtain ⟨f3, fd3, F3, g3⟩ := d3.ex
  have b3 := F3.binds (ps := ["room", "earlier"]) fun _ _ _ _ _ _ us hl => match us, hl with | [_, _], _ => rfl
  obtain ⟨f4, fd4, F4, g4⟩ := d4.ex
  have b4 := F4.binds (ps := ["room", "other"]) fun _ _ _ _ _ _ us hl => match us, hl with | [_, _], _ => rfl
  obtain ⟨f5, fd5, F5, g5⟩ := d5.ex
  have b5 := F5.binds (ps := ["rooms"]) fun _ _ _ _ _ _ us hl => match us, hl with | [_], _ => rfl
  obtain ⟨f6, fd6, F6, g6⟩ := d6.ex
  have b6 := F6.binds (ps := ["line"]) fun _ _ _ _ _ _ us hl => match us, hl with | [_], _ => rfl
  obtain ⟨f7, fd7, F7, g7⟩ := d7.ex
  have b7 := F7.binds (ps := ["lines"]) fun _ _ _ _ _ _ us hl => match us, hl with | [_], _ => rfl
  obtain ⟨f8, fd8, F8, g8⟩ := d8.ex
  have b8 := F8.binds (ps := ["text"]) fun _ _ _ _ _ _ us hl => match us, hl with | [_], _ => rfl
  obtain ⟨f9, fd9, F9, g9⟩ := d9.ex
  have b9 := F9.binds (ps := ["book"]) fun _ _ _ _ _ _ us hl => match us, hl with | [_], _ => rfl
  obtain ⟨f10, fd10, F10, g10⟩ := d10.ex
  have b10 := F10.binds (ps := ["script"]) fun _ _ _ _ _ _ us hl => match us, hl with | [_], _ => rfl
  obtain ⟨f11, fd11, F11, g11⟩ := d11.ex
  have b11 := F11.binds (ps := ["heap", "many"]) fun _ _ _ _ _ _ us hl => match us, hl with | [_, _], _ => rfl
  obtain ⟨f12, fd12, F12, g12⟩ := d12.ex
  have b12 := F12.binds (ps := ["heap", "some"]) fun _ _ _ _ _ _ us hl => match us, hl with | [_, _], _ => rfl
  obtain ⟨f13, fd13, F13, g13⟩ := d13.ex
  have b13 := F13.binds (ps := ["heap", "many"]) fun _ _ _ _ _ _ us hl => match us, hl with | [_, _], _ => rfl
  obtain ⟨f14, fd14, F14, g14⟩ := d14.ex
  have b14 := F14.binds (ps := ["rooms", "taken", "one"]) fun _ _ _ _ _ _ us hl => match us, hl with | [_, _, _], _ => rfl
  obtain ⟨f15, fd15, F15, g15⟩ := d15.ex
  have b15 := F15.binds (ps := ["heap", "names", "many", "most"]) fun _ _ _ _ _ _ us hl => match us, hl with | [_, _, _, _], _ => rfl
  obtain ⟨f16, fd16, F16, g16⟩ := d16.ex
  have b16 := F16.binds (ps := ["heap", "room"]) fun _ _ _ _ _ _ us hl => match us, hl with | [_, _], _ => rfl
  obtain ⟨f17, fd17, F17, g17⟩ := d17.ex
  have b17 := F17.binds (ps := ["rooms"]) fun _ _ _ _ _ _ us hl => match us, hl with | [_], _ => rfl
  obtain ⟨mf0, mfd0, M0, h0⟩ := m0.ex
  have mb0 := M0.binds (ps := ["self", "rooms"]) fun _ _ _ _ _ _ us hl => match us, hl with | [_, _], _ => rfl
  obtain ⟨mf1, mfd1, M1, h1⟩ := m1.ex
  have mb1 := M1.binds (ps := ["self", "other"]) fun _ _ _ _ _ _ us hl => match us, hl with | [_, _], _ => rfl
  refine ⟨PySem.W.fnOf "law" "law" (defArgs sLaw) (defBody sLaw) (defScope sLaw) .none kVL dcL pmL anL cdL ctL, fun s v => .of_eq rfl, fun base _ _ => ?_⟩
  have TB1 : TB K mg CB := ⟨cl_CB, na_CB_rooms, na_CB__homes, ⟨_, g_LETTERS, ⟨_, rfl⟩⟩, ⟨_, g_MOST_ROOMS, ⟨_, rfl⟩⟩, ⟨_, g_MOST_OUTCOMES, ⟨_, rfl⟩⟩, b_isinstance, b_str, b_tuple, b_len, b_all, b_any, b_range, b_enumerate, b_sorted⟩
  have TL1 : TL mg := ⟨b_abs, b_int, b_len, b_range, b_tuple, b_list, b_sorted, b_any, b_all⟩
  have TK1 : TBk K mg CB := ⟨cl_CB, na_CB_rooms, na_CB__homes, ⟨_, PySem.W.mg_of X G a_CB, rfl⟩, tyB_CB, b_isinstance, b_int, b_len, b_range, b_tuple, b_list, b_sorted, b_any, b_all⟩
  have TX1 : TTx K mg CB := ⟨cl_CB, na_CB_rooms, b_isinstance, b_str, b_tuple, b_sorted⟩
  have TW1 : TLw K mg CB := ⟨cl_CB, na_CB_rooms, ⟨_, PySem.W.mg_of X G a_CB, rfl⟩, tyB_CB, b_isinstance, b_str, b_len, b_range, b_tuple⟩
  have c_is_name := Cl.of F0 g0 (ok_name (P := l.prog) (w := w) (base := base) F0 TB1) b0
  have c_is_ascending := Cl.of F1 g1 (ok_asc (P := l.prog) (w := w) (base := base) F1 TB1) b1
  have c__is_room := Cl.of F2 g2 (ok_isRoom (P := l.prog) (w := w) (base := base) F2 TB1 c_is_name c_is_ascending) b2
  have c__common := Cl.of F4 g4 (ok_common (P := l.prog) (w := w) (base := base) F4 TB1) b4
  have c__crosses_twice := Cl.of F3 g3 (ok_cross (P := l.prog) (w := w) (base := base) F3 TB1 c__common) b3
  have c__homes_of := Cl.of F5 g5 (ok_homes (P := l.prog) (w := w) (base := base) F5 TB1) b5
  have c_Book : Cc l.prog w K mg base CX0 _ "Book" CB _ _ := ⟨_, _, ok_binit (P := l.prog) (w := w) (base := base) M0 TB1 c__is_room c__crosses_twice c__homes_of, PySem.W.mg_of X G a_CB, ⟨mk_CB, h0.at_, h0.fn, kp_CB⟩, mb0⟩
  have e_Book : Ce l.prog w K mg base CX0 _ CB _ _ := ⟨_, _, ok_beq (P := l.prog) (w := w) (base := base) M1 TK1, mb1, h1.at_, h1.fn, ne_CB, so_CB⟩
  have c__words := Cl.of F6 g6 (ok_words (P := l.prog) (w := w) (base := base) F6 TX1) b6
  have c__book_of := Cl.of F7 g7 (ok_bookOf (P := l.prog) (w := w) (base := base) F7 TX1 c__words c_Book) b7
  have c_read_book := Cl.of F8 g8 (ok_read (P := l.prog) (w := w) (base := base) F8 TX1 c__book_of) b8
  have k_read_book_text := Ck.of F8 g8 (ok_read (P := l.prog) (w := w) (base := base) F8 TX1 c__book_of) (fun_kb (ks := ["text"]) (g := kwId) (gV := kwId) F8 kwId_rel fun _ _ _ _ _ _ us ws hl => match us, ws, hl with | [], [_], _ => rfl)
  have c_show_book := Cl.of F9 g9 (ok_show (P := l.prog) (w := w) (base := base) F9 TX1) b9
  have k_show_book_book := Ck.of F9 g9 (ok_show (P := l.prog) (w := w) (base := base) F9 TX1) (fun_kb (ks := ["book"]) (g := kwId) (gV := kwId) F9 kwId_rel fun _ _ _ _ _ _ us ws hl => match us, ws, hl with | [], [_], _ => rfl)
  have c__law_heap := Cl.of F10 g10 (ok_heap (P := l.prog) (w := w) (base := base) F10 TL1) b10
  have c__law_draw := Cl.of F11 g11 (ok_draw (P := l.prog) (w := w) (base := base) F11 TL1) b11
  have c__law_pick := Cl.of F12 g12 (ok_pick (P := l.prog) (w := w) (base := base) F12 TL1 c__law_draw) b12
  have c__law_names := Cl.of F13 g13 (ok_names (P := l.prog) (w := w) (base := base) F13 TL1 c__law_draw c__law_pick) b13
  have c__law_apart := Cl.of F14 g14 (ok_apart (P := l.prog) (w := w) (base := base) F14 TL1) b14
  have c__law_rooms := Cl.of F15 g15 (ok_rooms (P := l.prog) (w := w) (base := base) F15 TL1 c__law_draw c__law_pick c__law_apart) b15
  have c__law_line := Cl.of F16 g16 (ok_line (P := l.prog) (w := w) (base := base) F16 TL1 c__law_draw) b16
  have c__law_shown := Cl.of F17 g17 (ok_shown (P := l.prog) (w := w) (base := base) F17 ) b17
  exact ok_law FL TW1 c__law_heap c__law_draw c__law_names c__law_rooms c_Book e_Book c__law_line c__law_shown c_read_book k_read_book_text c_show_book k_show_book_book
theorem walk {l : PySem.W.OpenLaw} {q : Program} {loose : List Str} {XP : (Str → Option Value) → Heap → Prop} {YP : World → Heap → Prop} {d : DefRec} {K : Params → PySem.W.Frag} (hn : l.most = some 63) (hdf : d.params.defaults = [])
    (hY : ∀ (w : World) (h : Heap), YP w h → (K w.params).In h)
    (F : ∀ (w : World) (mg : Str → Option Value) (fa : Addr) (h : Heap), (K w.params).In h → h.Ns mainGlobals mg → mg d.name = some (.ref fa) →
      ∃ fd : FuncData, (∀ (s : Shared) (u : Value), BindsTo s fd ⟨[u], []⟩ [("script", u)]) ∧ ∀ base : Heap, (K w.params).In base → base.Ns mainGlobals mg → FnOk l.prog w (K w.params) mg base CX0 7 fa fd ["script"] (spLaw (K w.params))) :
    PySem.W.WalkO q loose XP YP l.row.toRowW d [] (fun f vs => PySem.call f vs) :=
  L2.walk_of (n := 63) (k := 7) (x := "script") (CX := fun _ => CX0) (sp := fun w => spLaw (K w.params)) hn (by decide) hdf ⟨rfl, by decide, by decide⟩ hY F (fun _ _ a ns hl _ hS => ⟨a, ns, rfl, hS, hl, fun _ => rfl⟩) fun _ _ _ _ _ z => z
end K03
open PySem PySem.W PyProof.Rows
set_option maxRecDepth 100000 in
set_option maxHeartbeats 0 in
theorem PySem.Challenge.cw_roomlooks_k03_whole_texts_there_and_back_holds : PySem.Challenge.rw_roomlooks_k03_whole_texts_there_and_back.Holds := by
  w_on; o_law; k_head; (case hw => w_witness2)
  k_fill
  refine K03.walk (l := PySem.Challenge.rw_roomlooks_k03_whole_texts_there_and_back) rfl rfl (fun w h Y => PySem.W.kIn_of Y) ?F
  case F =>
    intro w mg fa h KX G hmg
    refine' K03.all_mk KX G hmg ?a_CB ?pg_CB ?hd_CB ?po_CB ?sa_CB ?mk_CB ?kp_CB ?ty_CB ?cc_CB ?mo_CB ?so_CB ?na_CB_rooms ?na_CB__homes ?ne_CB ?sp ?ti ?v_LETTERS ?v_MOST_ROOMS ?v_MOST_OUTCOMES ?z_isinstance ?z_str ?z_tuple ?z_len ?z_all ?z_any ?z_range ?z_enumerate ?z_sorted ?z_abs ?z_int ?z_list ?aL ?lL ?cL ?kL ?d0 ?d1 ?d2 ?d3 ?d4 ?d5 ?d6 ?d7 ?d8 ?d9 ?d10 ?d11 ?d12 ?d13 ?d14 ?d15 ?d16 ?d17 ?m0 ?m1
    case a_CB => first | k_is | rfl | decide
    case pg_CB => first | k_is | rfl | decide
    case hd_CB => first | k_is | rfl | decide
    case po_CB => first | k_is | rfl | decide
    case sa_CB => first | k_is | rfl | decide
    case mk_CB => first | k_is | rfl | decide
    case kp_CB => first | k_is | rfl | decide
    case ty_CB => first | k_is | rfl | decide
    case cc_CB => first | k_is | rfl | decide
    case mo_CB => first | k_is | rfl | decide
    case so_CB => first | k_is | rfl | decide
    case na_CB_rooms => first | k_is | rfl | decide
    case na_CB__homes => first | k_is | rfl | decide
    case ne_CB => first | k_is | rfl | decide
    case sp => first | k_is | rfl | decide
    case ti => first | k_is | rfl | decide
    case v_LETTERS => first | k_is | rfl | decide
    case v_MOST_ROOMS => first | k_is | rfl | decide
    case v_MOST_OUTCOMES => first | k_is | rfl | decide
    case z_isinstance => first | k_is | rfl | decide
    case z_str => first | k_is | rfl | decide
    case z_tuple => first | k_is | rfl | decide
    case z_len => first | k_is | rfl | decide
    case z_all => first | k_is | rfl | decide
    case z_any => first | k_is | rfl | decide
    case z_range => first | k_is | rfl | decide
    case z_enumerate => first | k_is | rfl | decide
    case z_sorted => first | k_is | rfl | decide
    case z_abs => first | k_is | rfl | decide
    case z_int => first | k_is | rfl | decide
    case z_list => first | k_is | rfl | decide
    case aL => first | k_is | rfl | decide
    case lL => first | k_is | rfl | decide
    case cL => first | k_is | rfl | decide
    case kL => first | k_is | rfl | decide
    case d0 => (refine' K03.df_mk KX G ?a ?l ?c ?k; (case a => k_is); (case l => k_is); (case c => k_is); (case k => k_is))
    case d1 => (refine' K03.df_mk KX G ?a ?l ?c ?k; (case a => k_is); (case l => k_is); (case c => k_is); (case k => k_is))
    case d2 => (refine' K03.df_mk KX G ?a ?l ?c ?k; (case a => k_is); (case l => k_is); (case c => k_is); (case k => k_is))
    case d3 => (refine' K03.df_mk KX G ?a ?l ?c ?k; (case a => k_is); (case l => k_is); (case c => k_is); (case k => k_is))
    case d4 => (refine' K03.df_mk KX G ?a ?l ?c ?k; (case a => k_is); (case l => k_is); (case c => k_is); (case k => k_is))
    case d5 => (refine' K03.df_mk KX G ?a ?l ?c ?k; (case a => k_is); (case l => k_is); (case c => k_is); (case k => k_is))
    case d6 => (refine' K03.df_mk KX G ?a ?l ?c ?k; (case a => k_is); (case l => k_is); (case c => k_is); (case k => k_is))
    case d7 => (refine' K03.df_mk KX G ?a ?l ?c ?k; (case a => k_is); (case l => k_is); (case c => k_is); (case k => k_is))
    case d8 => (refine' K03.df_mk KX G ?a ?l ?c ?k; (case a => k_is); (case l => k_is); (case c => k_is); (case k => k_is))
    case d9 => (refine' K03.df_mk KX G ?a ?l ?c ?k; (case a => k_is); (case l => k_is); (case c => k_is); (case k => k_is))
    case d10 => (refine' K03.df_mk KX G ?a ?l ?c ?k; (case a => k_is); (case l => k_is); (case c => k_is); (case k => k_is))
    case d11 => (refine' K03.df_mk KX G ?a ?l ?c ?k; (case a => k_is); (case l => k_is); (case c => k_is); (case k => k_is))
    case d12 => (refine' K03.df_mk KX G ?a ?l ?c ?k; (case a => k_is); (case l => k_is); (case c => k_is); (case k => k_is))
    case d13 => (refine' K03.df_mk KX G ?a ?l ?c ?k; (case a => k_is); (case l => k_is); (case c => k_is); (case k => k_is))
    case d14 => (refine' K03.df_mk KX G ?a ?l ?c ?k; (case a => k_is); (case l => k_is); (case c => k_is); (case k => k_is))
    case d15 => (refine' K03.df_mk KX G ?a ?l ?c ?k; (case a => k_is); (case l => k_is); (case c => k_is); (case k => k_is))
    case d16 => (refine' K03.df_mk KX G ?a ?l ?c ?k; (case a => k_is); (case l => k_is); (case c => k_is); (case k => k_is))
    case d17 => (refine' K03.df_mk KX G ?a ?l ?c ?k; (case a => k_is); (case l => k_is); (case c => k_is); (case k => k_is))
    case m0 => (refine' K03.dm_mk ?a ?t ?l ?c ?k; (case a => k_is); (case t => k_is); (case l => k_is); (case c => k_is); (case k => k_is))
    case m1 => (refine' K03.dm_mk ?a ?t ?l ?c ?k; (case a => k_is); (case t => k_is); (case l => k_is); (case c => k_is); (case k => k_is))

