import PyProof.Rows.All
import Wide.All
import OpenK.AllK
import Wide.FinOn
import HandS.ForMost
import HandS.ForExc
import HandS.ExcInit
import HandS.ExcField
import HandS.ExcIs
import HandS.IsInst
import HandS.Style
import HandS.Wide
import HandS.Gcd
import HandS.Codes
import KE.GoesEnum
import HandS.TupAny
import HandS.Walk
import HandS.Iter
import HandS.ExcValue
import HandS.MakeKwOnly
import HandS.MakeKw
import PySem.Challenge.RW_roomlooks_k01_books_refused_at_their_fir
import HandS.More
import HandS.Text
import HandS.TryMany
import HandS.List
import HandS.Sort
import HandS.ExcBuiltin
import HandS.Dict
set_option Elab.async false
set_option linter.all false
set_option maxRecDepth 100000
set_option maxHeartbeats 2000000
/-! RKit: what several laws share. -/
namespace RK
open PySem PySem.Spec PyProof.Rows L2
/-! ### division of great ints by any divisor -/
def DivAny (_ j : Int) : Prop := j ≠ 0 ∧ j.natAbs.log2 < 9000
section
variable {X : Cx}
theorem op_fdivA : OpR X (binaryOp .FloorDiv) (rI DivAny fun i j => .int (Int.fdiv i j)) :=
  opI fun _ _ _ _ _ _ _ hc q => floordiv_int hc.1 q (.inl (PyProof.noPylong_of_log2 hc.2))
end
theorem divAny {i j : Int} {b : Nat} (h : j ≠ 0) (hb : j.natAbs < 2 ^ b) (h0 : 0 < b) (h9 : b ≤ 9000) : DivAny i j :=
  ⟨h, Nat.lt_of_lt_of_le (PySem.Flt.log2_lt_of h0 hb) h9⟩
/-! ### calls by keywords alone; the same where what is raised is wished for at the slots -/
section
variable {X : Cx} {CXt : CXT} {k : Nat} {f : Addr} {fd : FuncData} {ps ks : List Str} {sp : Sp} {x : Str} {p pos : Pos} {kws : List Keyword} {tk : TA}
  {g : List Value → List Value → List Value} {gV : List V → List V → List V}
theorem pe_kw0 {E : XK} (F : FnOk X.prog X.w X.K X.mg X.base CXt k f fd ps sp) (hr : Room k X.A) (hg : Gl X x) (hm : X.mg x = some (.ref f))
    (hk : PySem.W.keepIn X.K (.ref f) = true) (hb : KBinds X.K fd ps ks g gV) (hx : Passes CXt X E) (hkw : PK X kws tk)
    (hall : (backToKw pos (keywordEach kws X.env)).all (·.1.isSome) = true := by rfl)
    (hks : (backToKw pos (keywordEach kws X.env)).filterMap (·.1) = ks := by rfl)
    (hdb : (x == ("__debug__" : Str)) = false := by decide)
    (hpl : ((backTo pos (starEach [] X.env)).any (·.1) || (backToKw pos (keywordEach kws X.env)).any (·.1.isNone)) = false := by rfl) :
    PE X (.Call (.Name x p) [] kws pos) (tCallK sp gV E tNil tk) := ⟨fun pins s σ H Q I h => by
  refine wpAny_Call_Name_kw (ld_glob I hg hm ?_ hdb)
  refine PySem.W.callWith_KW0 (h₀ := X.base) I.ok.mod.kin hk hall ?_ hpl
  refine thn (hkw.run pos pins s σ H _ I h) fun ws s2 ⟨zs, H2, I2, rz, q2⟩ => ⟨I2.kIn, ?_⟩
  rw [hks]
  exact run_fnk F hr hb hx I2 .nil rz q2⟩
def tCallKS (sp : Sp) (gV : List V → List V → List V) (E : L2.St → XK) (t tk : TA) : TE := fun σ H Q => t σ H fun vs H1 => tk σ H1 fun zs H2 => sp (gV vs zs) H2 Q (E σ)
theorem run_kwS {E : L2.St → XK} {pins : List (Addr × Obj)} {σ : L2.St} {H : Hp} {s : Shared} {Q : VK} {us ws : List Value} {vs zs : List V}
    (F : FnOk X.prog X.w X.K X.mg X.base CXt k f fd ps sp) (hr : Room k X.A) (hb : KBinds X.K fd ps ks g gV) (hx : PassesAt CXt X σ (E σ))
    (I : Inv X pins σ H s) (r : Vals vs us) (rz : Vals zs ws) (h : sp (gV vs zs) H Q (E σ)) : wpAny (model X.prog X.w) X.A (call (.ref f) us (ks.zip ws)) (EP X pins σ Q) X.xe s := by
  have r2 := hb.rel r rz
  have hl : (g us ws).length = ps.length := r2.length.symm.trans (F.len _ _ _ _ h)
  have b := hb.to s us ws I.kIn hl
  refine wpAny_call (codeAny_mono (F.run X.A X.stack s H ⟨us, ks.zip ws⟩ (g us ws) (gV vs zs) Q (E σ) hr I.env0 b r2 h) ?_)
  intro r s' hq
  match r, hq with
  | .error e, hq => exact hx pins H s e s' I hq
  | .ok (.ret u), hq => exact I.after hq
theorem pe_kw0S {E : L2.St → XK} (F : FnOk X.prog X.w X.K X.mg X.base CXt k f fd ps sp) (hr : Room k X.A) (hg : Gl X x) (hm : X.mg x = some (.ref f))
    (hk : PySem.W.keepIn X.K (.ref f) = true) (hb : KBinds X.K fd ps ks g gV) (hx : ∀ σ, PassesAt CXt X σ (E σ)) (hkw : PK X kws tk)
    (hall : (backToKw pos (keywordEach kws X.env)).all (·.1.isSome) = true := by rfl)
    (hks : (backToKw pos (keywordEach kws X.env)).filterMap (·.1) = ks := by rfl)
    (hdb : (x == ("__debug__" : Str)) = false := by decide)
    (hpl : ((backTo pos (starEach [] X.env)).any (·.1) || (backToKw pos (keywordEach kws X.env)).any (·.1.isNone)) = false := by rfl) :
    PE X (.Call (.Name x p) [] kws pos) (tCallKS sp gV E tNil tk) := ⟨fun pins s σ H Q I h => by
  refine wpAny_Call_Name_kw (ld_glob I hg hm ?_ hdb)
  refine PySem.W.callWith_KW0 (h₀ := X.base) I.ok.mod.kin hk hall ?_ hpl
  refine thn (hkw.run pos pins s σ H _ I h) fun ws s2 ⟨zs, H2, I2, rz, q2⟩ => ⟨I2.kIn, ?_⟩
  rw [hks]
  exact run_kwS F hr hb (hx σ) I2 .nil rz q2⟩
end
/-! ### own errors of one field -/
/-- what is known of the class at C of errors with the one field f, whose __init__ stands at fI -/
structure ErrC (K : PySem.W.Frag) (mg : Str → Option Value) (x f : Str) (C fI : Addr) : Prop where
  gC : mg x = some (.ref C)
  oex : OexC K C
  xf : XfC K C
  exc : ExcC K C
  no : PySem.W.findIn K (.ref C) f = some none
  ini : PySem.W.findIn K (.ref C) "__init__" = some (some (.ref fI))
  tyI : PySem.W.typeIn K (.ref fI) = some (.type "function")
/-- __init__'s promise -/
def spIni (K : PySem.W.Frag) (f : Str) : Sp := fun vs H Q _ => ∃ (a C : Addr) (w : V), vs = [.ref a, w] ∧ OexC K C ∧ PySem.W.findIn K (.ref C) f = some none ∧ H a = some (exo a C none) ∧
  ∀ dx, H dx = none → dx ≠ a → Q .non (upd (upd H dx (exd dx [(f, w)])) a (exo a C (some dx)))
theorem upd_back {H : Hp} {a d : Addr} {o u w z : HO} (ha : H a = none) (hd : d ≠ a) : upd (del (upd (upd (upd H a o) d u) a w) a) d z = upd H d z := by
  funext b
  by_cases e : b = d
  · rw [e, upd_same, upd_same]
  · rw [upd_ne e, upd_ne e]
    by_cases e2 : b = a
    · rw [e2, del_same, ha]
    · rw [del_ne e2, upd_ne e2, upd_ne e, upd_ne e2]
/-- raise X(e): what stands behind e's reading, from what the error's new dict d leaves -/
theorem raise1 {K : PySem.W.Frag} {f : Str} {C : Addr} {H : Hp} {v : V} {Wd : XK} (T : OexC K C) (no : PySem.W.findIn K (.ref C) f = some none)
    (h : ∀ d, H d = none → Wd (.ref C) (some d) (upd H d (.xd [(f, v)]))) :
    ([v] : List V).length ≤ 1000 ∧ ∀ a, H a = none → spIni K f (.ref a :: ([v] ++ [])) (upd H a (exo a C none))
      (fun u H2 => u = .non ∧ ∃ (d : Addr) (fs : List (Str × V)), H2 a = some (exo a C (some d)) ∧ H2 d = some (exd d fs) ∧ H d = none ∧ Wd (.ref C) (some d) (upd (del H2 a) d (.xd fs))) (fun _ _ _ => False) := by
  refine ⟨by show 1 ≤ 1000; decide, fun a ha => ⟨a, C, v, rfl, T, no, upd_same, fun dx hdx hne => ⟨rfl, dx, [(f, v)], upd_same, ?_, ?_, ?_⟩⟩⟩
  · rw [upd_ne hne, upd_same]
  · rw [upd_ne hne] at hdx
    exact hdx
  · rw [upd_ne hne] at hdx
    rw [upd_back ha hne]
    exact h dx hdx
section
variable {X : Cx} {CXt : CXT} {C fI : Addr} {fd : FuncData} {f x : Str} {p pos pos' : Pos} {k : Nat} {e : Expr} {te : TE} {W : WX}
theorem ps_raise1 (T : ErrC X.K X.mg x f C fI) (F1 : FnOk X.prog X.w X.K X.mg X.base CXt k fI fd ["self", f] (spIni X.K f)) (hr : Room (k + 1) X.A)
    (hb : L2.Binds X.K fd ["self", f] []) (hx : Passes CXt X (fun _ _ _ => False)) (hc : X.calm = true) (tk : Takes X W) (he : PE X e te) (hg : Gl X x := by rfl)
    (hdb : (x == ("__debug__" : Str)) = false := by decide)
    (hst : starEach [e] X.env = (false, eval e X.env) :: starEach [] X.env := by rfl) (hpl : (backTo pos (starEach [] X.env)).any (·.1) = false := by rfl) :
    PS X (.Raise (some (.Call (.Name x p) [e] [] pos)) none pos') (fun _ σ H => tMkO C (spIni X.K f) [] (tCons te tNil) σ H fun cls d H' => W cls d σ H') :=
  ps_raise (pos := pos') hc tk (pmk_oex (p := p) T.oex T.ini T.tyI F1 hr hb .nil hx hg T.gC (pa_cons he (pa_nil) (hs := hst)) hdb hst hpl)
end
/-! ### isinstance of a caught error that has its own dict -/
section
open PySem.W PySem.Calls
variable {prog : Program} {w : World} {A : Around} {E : Value → Shared → Prop} {s : Shared} {K : Frag} {x D : Addr} {ox : Obj} {od : Option Obj}
theorem find_data {C : Addr} {nm : Str} {at_ gt : Value} (hc : (clsIn K C).isSome = true) (ha : findIn K (.ref C) nm = some (some at_)) (hg : specialIn K at_ "__get__" = some (some gt))
    (ht : takesIn K at_ = some true) : findObj K C od nm = some (.bind gt at_) := by
  obtain ⟨cd, e⟩ := Option.isSome_iff_exists.mp hc; unfold findObj; rw [e, Option.bind_some, ha]
  simp only [Option.bind_some, hg, ht]
/-- err.__class__, err an error of the own class at D with its dict -/
theorem cls_of_err {Q : Option Value → Shared → Prop} (T : ExcC K D) (X : K.In s.heap) (I : InstAt s.heap x ox D od) (h : Q (some (.ref D)) { s with toks := s.toks + 1 }) :
    wpAny (model prog w) A (getAttr? (.ref x) "__class__") Q E s := by
  have ic : (clsIn K D).isSome = true := by obtain ⟨cd, hc, _⟩ := any_some T.hd; rw [hc]; rfl
  have hf : findObj K D od "__class__" = some (.bind (.builtin "getset_descriptor.__get__") (.builtin "object.__class__")) := find_data ic T.ha T.hn T.ht
  obtain ⟨hp, g, dr, t, os⟩ := s
  have l0 := I.type (M := model prog w); have l1 := looks_findIn (M := model prog w) X T.hg; have l2 := looks_findIn (M := model prog w) X T.hk
  have l3 := looks_find (M := model prog w) X I hf
  have sb : Looks (model prog w) hp (isInstance (.ref x) (.type "BaseException")) true := l0.andThen (looks_subIn X T.hs)
  have n0 : (false && onTheHeap (Value.builtin "BaseException.__getattribute__")) = false := rfl
  have n1 : (onTheHeap (Value.ref D) && Value.builtin "BaseException.__getattribute__" == Value.builtin "object.__getattribute__") = false := by
    have n2 : (Value.builtin "BaseException.__getattribute__" == Value.builtin "object.__getattribute__") = false := by decide +kernel
    rw [n2, Bool.and_false]
  unfold getAttr? getAttrBy? getAttrBy; refine wpAny_bind (wpAny_mkText ?_)
  refine wpAny_bind (wpAny_attempt (wpAny_holding (wpAny_bind (l0.at (wpAny_bind (l1.at ?_))))))
  change wpAny _ _ (if (onTheHeap (Value.ref D) && Value.builtin "BaseException.__getattribute__" == Value.builtin "object.__getattribute__") = true then _ else _) _ _ _
  rw [n1, if_neg Bool.false_ne_true]; unfold getAttrByItsOwn hookBefore; refine wpAny_bind ?_
  rw [if_pos (show onTheHeap (Value.ref D) = true from rfl)]; refine l2.at (wpAny_bind (wpAny_attempt (wpAny_holding ?_)))
  unfold callGetattribute; rw [n0, if_neg Bool.false_ne_true]; unfold boundAndCalled
  rw [PySem.F.excAttr_ValueError.ga.bind (.ref x)]; refine wpAny_bind (wpAny_pure ?_)
  change wpAny _ _ (call (.builtin "BaseException.__getattribute__") [.ref x, .str "__class__" t]) _ _ _
  refine wpAny_call (codeAny_call_builtin PySem.F.excAttr_ValueError.ga.plain PySem.F.entry_bexc_ga
    (@check_slot (model prog w) _ _ ⟨hp, g, dr, t + 1, os⟩ "BaseException.__getattribute__" "BaseException" "__getattribute__" (.ref x) [.str "__class__" t] [] _
      (by decide +kernel) (by decide +kernel) sb (PySem.F.args_bexc_ga (.ref x) (.str "__class__" t)) ?_))
  unfold Builtin.«object.__getattribute__»
  refine wpAny_bind (wpAny_of_eq (a := ((Value.ref x : Value), [Value.str "__class__" t])) (by first | rfl | (simp only [slotArgs]; rfl)) (wpAny_bind (wpAny_pure (wpAny_bind (l0.at (wpAny_bind (l3.at ?_)))))))
  change wpAny _ _ (holding [Value.builtin "object.__class__"] (call (.builtin "getset_descriptor.__get__") [.builtin "object.__class__", .ref x, .ref D]) >>= ret) _ _ _
  refine wpAny_bind (wpAny_holding (wpAny_call (class_get (s := ⟨hp, g, dr, t + 1, os⟩) (ox := ox) (od := od) X I T.hm (wpAny_pure ?_))))
  change wpAny _ _ (handedOut (.ref D)) _ _ _
  rw [handedOut_of (v := .ref D) rfl]
  first | exact wpAny_pure (wpAny_pure h) | exact wpAny_pure h | exact wpAny_pure (wpAny_bind (wpAny_pure (wpAny_pure h)))
theorem kit_err (T : ExcC K D) : KitX K (.ref x) (.ref D) (fun h => InstAt h x ox D od) where
  ty := fun _ _ _ I => I.type
  it := fun _ _ X _ => by
    obtain ⟨cd, hc, _⟩ := any_some T.hd
    unfold clsIn at hc; split at hc
    · rename_i c' d' cd' sl' ho
      intro A' Q' E' s' kk q; unfold isType loadHead; exact wpAny_bind (wpAny_loadPart (kk _ _ (X _ _ ho)) (wpAny_pure q))
    · cases hc
  ne := fun h tp dd its n sl X htp => by
    obtain ⟨cd, hc, _⟩ := any_some T.hd
    cases q : (Value.ref D == Value.ref tp) with
    | false => rfl
    | true =>
      cases (Value.ref.inj (beq_iff_eq.mp q) : D = tp)
      unfold clsIn at hc; split at hc
      · rename_i c' d' cd' sl' ho
        cases (X _ _ ho).symm.trans htp
      · cases hc
  ca := fun X I kk => cls_of_err T X I kk
end
/-- isinstance(e, c), e the error that the suite holds (its class cls, its own dict d) -/
def rIsErr (K : PySem.W.Frag) (D a : Addr) (cls : Value) (d : Option Addr) : List V → Hp → VK → Prop := fun xs H Q => ∃ (c : V) (cv : Value) (b : Bool) (dd : Addr) (fs : List (Str × V)),
  xs = [.ref a, c] ∧ cls = .ref D ∧ d = some dd ∧ ClsV c cv ∧ H dd = some (.xd fs) ∧ PySem.W.kitOne K (.ref D) cv = some b ∧ Q (.bl b) H
theorem call_isErr {X : Cx} {a D : Addr} {cls : Value} {d : Option Addr} {oe : Obj} {pn : List (Addr × Obj)} (C : ExcC X.K D) (hz : Zc cls d oe) (hf : ∃ vs, oe.data = .fields vs) :
    CallR (X.suite a ((a, oe) :: pn)) (.builtin "isinstance") (rIsErr X.K D a cls d) := by
  intro pins s σ H xs us Q I r h
  obtain ⟨c, cv, b, dd, fs, rfl, ec, ed, hcv, hx, e, q⟩ := h
  subst ec ed
  obtain ⟨u1, u2, rfl, r1, r2⟩ := vals2 r
  cases (show u1 = Value.ref a from r1)
  have e2 := hcv.eq r2
  subst e2
  obtain ⟨hget, _⟩ := I.pin (a, oe) (List.mem_append.mpr (.inl List.mem_cons_self))
  obtain ⟨vs, hv⟩ := hf
  obtain ⟨mA, hns, hr⟩ := (show ObjOk X.prog X.w H s.heap dd (.xd fs) from I.hok dd _ hx)
  obtain ⟨od, ho, _⟩ := lookIn_ns hns
  have J : PySem.W.InstAt s.heap a oe D (some od) := ⟨hget, hz.1, by unfold PySem.W.notCls; rw [hv] <;> rfl, by rw [hz.2]; exact ho⟩
  exact PySem.W.kia_one (kit_err C) I.kIn J e (fun z => nomatch z) fun tk => ⟨.bl b, H, I.kept (t' := tk) fun _ _ z => z, rfl, q⟩
/-! ### heaps -/
/-- all that was tracked is as it was, but at p -/
def Kp (p : Addr) (H H' : Hp) : Prop := ∀ b o, H b = some o → b ≠ p → H' b = some o
theorem Kp.refl (p : Addr) (H : Hp) : Kp p H H := fun _ _ h _ => h
theorem Kp.trans {p : Addr} {H H1 H2 : Hp} (a : Kp p H H1) (b : Kp p H1 H2) : Kp p H H2 := fun c o h n => b c o (a c o h n) n
theorem Kp.of {p : Addr} {H H1 : Hp} (a : Same H H1) : Kp p H H1 := fun c o h _ => a c o h
theorem Kp.seqL {K : PySem.W.Frag} {p a : Addr} {H H' : Hp} {xs : List V} (e : Kp p H H') (h : SqL K H a xs) (n : a ≠ p) : SqL K H' a xs := by
  rcases h with (h | ⟨o, h⟩) | h
  · exact .inl (.inl (e _ _ h n))
  · exact .inl (.inr ⟨o, e _ _ h n⟩)
  · exact .inr h
theorem Same.upd {H : Hp} {p : Addr} {o : HO} (h : H p = none) : Same H (L2.upd H p o) := fun b u e => by
  rw [upd_ne (ne_of_none e h)]
  exact e
theorem Same.updAt {H H1 : Hp} {p : Addr} {o : HO} (s : Same H H1) (h : H p = none) : Same H (L2.upd H1 p o) := fun b u e => by
  rw [upd_ne (ne_of_none e h)]
  exact s b u e
end RK
namespace RK
open PySem PySem.Spec PyProof.Rows L2
/-- what is known of a value's kind stays known -/
theorem TyX.mono {K : PySem.W.Frag} {H H' : Hp} (S : Same H H') {v : V} {t : Value} (h : TyX K H v t) : TyX K H' v t := by
  cases h with
  | base b =>
    refine .base ?_
    cases b with
    | non => exact .non
    | bl x => exact .bl x
    | int i => exact .int i
    | str x => exact .str x
    | flt x => exact .flt x
    | lst e => exact .lst (S _ _ e)
    | frz e => exact .frz (S _ _ e)
    | tup e => exact .tup (S _ _ e)
    | dK e => exact .dK (S _ _ e)
    | dT e => exact .dT (S _ _ e)
    | ins e cl ha hn ht hm => exact .ins (S _ _ e) cl ha hn ht hm
  | byt b => exact .byt b
  | set e => exact .set (S _ _ e)
  | kList e c => exact .kList e c
  | kTuple e c => exact .kTuple e c
  | kDict e c => exact .kDict e c
  | fTuple e => exact .fTuple (S _ _ e)
  | fDict e => exact .fDict (S _ _ e)
end RK
/-! ### a def that is called, in one piece: where it stands, its promise, how its arguments bind -/
namespace RK
open PySem PySem.Spec PyProof.Rows L2
structure Cl (P : Program) (w : World) (K : PySem.W.Frag) (mg : Str → Option Value) (base : Heap) (CXt : CXT) (k : Nat) (x : Str) (ps : List Str) (sp : Sp) : Prop where
  ex : ∃ (f : Addr) (fd : FuncData), FnOk P w K mg base CXt k f fd ps sp ∧ mg x = some (.ref f) ∧ PySem.W.keepIn K (.ref f) = true ∧ L2.Binds K fd ps []
/-- the same, called by keywords ks alone -/
structure Ck (P : Program) (w : World) (K : PySem.W.Frag) (mg : Str → Option Value) (base : Heap) (CXt : CXT) (k : Nat) (x : Str) (ps ks : List Str) (gV : List V → List V → List V) (sp : Sp) : Prop where
  ex : ∃ (f : Addr) (fd : FuncData) (g : List Value → List Value → List Value), FnOk P w K mg base CXt k f fd ps sp ∧ mg x = some (.ref f) ∧ PySem.W.keepIn K (.ref f) = true ∧ KBinds K fd ps ks g gV
section
variable {X : Cx} {CXt : CXT} {j k : Nat} {ps ks : List Str} {sp : Sp} {x : Str} {p pos : Pos} {e : Expr} {es : List Expr} {t tk : TA} {kws : List Keyword} {gV : List V → List V → List V}
theorem pe_f {E : XK} (c : Cl X.prog X.w X.K X.mg X.base CXt k x ps sp) (hr : Room j X.A) (hk : k ≤ j) (hx : Passes CXt X E) (ha : PA X (e :: es) t) (hg : Gl X x := by rfl)
    (hdb : (x == ("__debug__" : Str)) = false := by decide) (he : starEach (e :: es) X.env = (false, eval e X.env) :: starEach es X.env := by rfl) (hpl : (backTo pos (starEach es X.env)).any (·.1) = false := by rfl) :
    PE X (.Call (.Name x p) (e :: es) [] pos) (tCall sp [] E t) := by
  obtain ⟨f, fd, F, hm, kp, b⟩ := c.ex
  exact pe_call F (hr.mono hk) hg hm kp b .nil hx ha hdb he hpl
theorem pe_fS {E : L2.St → XK} (c : Cl X.prog X.w X.K X.mg X.base CXt k x ps sp) (hr : Room j X.A) (hk : k ≤ j) (hx : ∀ σ, PassesAt CXt X σ (E σ)) (ha : PA X (e :: es) t) (hg : Gl X x := by rfl)
    (hdb : (x == ("__debug__" : Str)) = false := by decide) (he : starEach (e :: es) X.env = (false, eval e X.env) :: starEach es X.env := by rfl) (hpl : (backTo pos (starEach es X.env)).any (·.1) = false := by rfl) :
    PE X (.Call (.Name x p) (e :: es) [] pos) (tCallS sp E t) := by
  obtain ⟨f, fd, F, hm, kp, b⟩ := c.ex
  exact pe_callS F (hr.mono hk) hg hm kp b hx ha hdb he hpl
theorem pe_k {E : XK} (c : Ck X.prog X.w X.K X.mg X.base CXt k x ps ks gV sp) (hr : Room j X.A) (hk : k ≤ j) (hx : Passes CXt X E) (hkw : PK X kws tk) (hg : Gl X x := by rfl)
    (hall : (backToKw pos (keywordEach kws X.env)).all (·.1.isSome) = true := by rfl)
    (hks : (backToKw pos (keywordEach kws X.env)).filterMap (·.1) = ks := by rfl)
    (hdb : (x == ("__debug__" : Str)) = false := by decide)
    (hpl : ((backTo pos (starEach [] X.env)).any (·.1) || (backToKw pos (keywordEach kws X.env)).any (·.1.isNone)) = false := by rfl) :
    PE X (.Call (.Name x p) [] kws pos) (tCallK sp gV E tNil tk) := by
  obtain ⟨f, fd, g, F, hm, kp, b⟩ := c.ex
  exact pe_kw0 F (hr.mono hk) hg hm kp b hx hkw hall hks hdb hpl
theorem pe_kS {E : L2.St → XK} (c : Ck X.prog X.w X.K X.mg X.base CXt k x ps ks gV sp) (hr : Room j X.A) (hk : k ≤ j) (hx : ∀ σ, PassesAt CXt X σ (E σ)) (hkw : PK X kws tk) (hg : Gl X x := by rfl)
    (hall : (backToKw pos (keywordEach kws X.env)).all (·.1.isSome) = true := by rfl)
    (hks : (backToKw pos (keywordEach kws X.env)).filterMap (·.1) = ks := by rfl)
    (hdb : (x == ("__debug__" : Str)) = false := by decide)
    (hpl : ((backTo pos (starEach [] X.env)).any (·.1) || (backToKw pos (keywordEach kws X.env)).any (·.1.isNone)) = false := by rfl) :
    PE X (.Call (.Name x p) [] kws pos) (tCallKS sp gV E tNil tk) := by
  obtain ⟨f, fd, g, F, hm, kp, b⟩ := c.ex
  exact pe_kw0S F (hr.mono hk) hg hm kp b hx hkw hall hks hdb hpl
end
/-- keywords in the parameters' own order, nothing else -/
def kwId {α : Type} : List α → List α → List α
  | [], ws => ws
  | _ :: _, _ => []
/-- two keywords, the second parameter's first -/
def kwSw {α : Type} : List α → List α → List α
  | [], [y, x] => [x, y]
  | _, _ => []
theorem kwId_rel {vs : List V} {us : List Value} {zs : List V} {ws : List Value} (r : Vals vs us) (rz : Vals zs ws) : Vals (kwId vs zs) (kwId us ws) := by
  cases r with
  | nil => exact rz
  | cons _ _ => exact .nil
theorem kwSw_rel {vs : List V} {us : List Value} {zs : List V} {ws : List Value} (r : Vals vs us) (rz : Vals zs ws) : Vals (kwSw vs zs) (kwSw us ws) := by
  cases r with
  | cons _ _ => exact .nil
  | nil =>
    cases rz with
    | nil => exact .nil
    | cons a rz =>
      cases rz with
      | nil => exact .nil
      | cons b rz =>
        cases rz with
        | nil => exact .cons b (.cons a .nil)
        | cons _ _ => exact .nil
theorem fun_kb {K : PySem.W.Frag} {x qual : Str} {st : Stmt} {f : Addr} {fd : FuncData} {ps ks : List Str} {g : List Value → List Value → List Value} {gV : List V → List V → List V} (F : Fun K x qual st f fd)
    (rel : ∀ {vs : List V} {us : List Value} {zs : List V} {ws : List Value}, Vals vs us → Vals zs ws → Vals (gV vs zs) (g us ws))
    (h : ∀ (kV doc pm : Value) (an : Option Addr) (cdv ct : Value) (us ws : List Value), (g us ws).length = ps.length →
      bindArgs (PySem.W.fnOf x qual (defArgs st) (defBody st) (defScope st) .none kV doc pm an cdv ct) ⟨us, ks.zip ws⟩ = pure (ps.zip (g us ws))) : KBinds K fd ps ks g gV := by
  obtain ⟨oc, od, kV, doc, pm, an, cdv, ct, osl, rfl, lk, hcd⟩ := F.ex
  exact ⟨fun s us ws _ hl => .of_eq (h kV doc pm an cdv ct us ws hl), rel⟩
theorem Cl.of {P : Program} {w : World} {K : PySem.W.Frag} {mg : Str → Option Value} {base : Heap} {CXt : CXT} {k : Nat} {x : Str} {ps : List Str} {sp : Sp} {f : Addr} {fd : FuncData} {qual : Str} {st : Stmt}
    (F : Fun K x qual st f fd) (hm : mg x = some (.ref f)) (G : FnOk P w K mg base CXt k f fd ps sp) (b : L2.Binds K fd ps []) : Cl P w K mg base CXt k x ps sp := ⟨f, fd, G, hm, F.kp, b⟩
theorem Ck.of {P : Program} {w : World} {K : PySem.W.Frag} {mg : Str → Option Value} {base : Heap} {CXt : CXT} {k : Nat} {x : Str} {ps ks : List Str} {gV : List V → List V → List V} {sp : Sp} {f : Addr} {fd : FuncData} {qual : Str} {st : Stmt} {g : List Value → List Value → List Value}
    (F : Fun K x qual st f fd) (hm : mg x = some (.ref f)) (G : FnOk P w K mg base CXt k f fd ps sp) (b : KBinds K fd ps ks g gV) : Ck P w K mg base CXt k x ps ks gV sp := ⟨f, fd, g, G, hm, F.kp, b⟩
end RK
/-! ### what is sure of an expression, a test, from a heap on: it only adds objects -/
namespace RK
open PySem PySem.Spec PyProof.Rows L2
/-- te gives from H on some v with R v, and what was tracked stays -/
def Go (σ : L2.St) (H : Hp) (te : TE) (R : V → Hp → Prop) : Prop := ∀ H1, L2.Same H H1 → ∀ Q : VK, (∀ v H2, L2.Same H1 H2 → R v H2 → Q v H2) → te σ H1 Q
/-- a test's answer is b -/
def GoT (σ : L2.St) (H : Hp) (t : TT) (b : Bool) : Prop := ∀ H1, L2.Same H H1 → ∀ Q : Bool → Hp → Prop, (∀ H2, L2.Same H1 H2 → Q b H2) → t σ H1 Q
def IsB (b : Bool) : V → Hp → Prop := fun v _ => v = .bl b
def IsZ (z : Int) : V → Hp → Prop := fun v _ => v = .int z
section
variable {σ : L2.St} {H H' : Hp} {te ta tb : TE} {t u : TT} {b c : Bool} {i : Nat} {v : V} {R : V → Hp → Prop} {x y z : Int}
theorem Go.mono (a : Go σ H te R) (S : L2.Same H H') : Go σ H' te R := fun H1 S1 => a H1 (S.trans S1)
theorem Go.imp {R' : V → Hp → Prop} (a : Go σ H te R) (h : ∀ v H, R v H → R' v H) : Go σ H te R' := fun H1 S Q q => a H1 S Q fun v H2 S2 r => q v H2 S2 (h v H2 r)
theorem GoT.mono (a : GoT σ H t b) (S : L2.Same H H') : GoT σ H' t b := fun H1 S1 => a H1 (S.trans S1)
theorem go_var (hs : σ[i]? = some (some v)) (h : ∀ H1, L2.Same H H1 → R v H1) : Go σ H (tVar i) R := fun H1 S _ q => ⟨v, hs, q v H1 (L2.Same.refl H1) (h H1 S)⟩
theorem go_c (h : ∀ H1, L2.Same H H1 → R v H1) : Go σ H (tC v) R := fun H1 S _ q => q v H1 (L2.Same.refl H1) (h H1 S)
theorem goz_var (hs : σ[i]? = some (some (.int z))) : Go σ H (tVar i) (IsZ z) := go_var hs fun _ _ => rfl
theorem goz_c : Go σ H (tC (.int z)) (IsZ z) := go_c fun _ _ => rfl
theorem gob_c : Go σ H (tC (.bl b)) (IsB b) := go_c fun _ _ => rfl
theorem goz_add (a : Go σ H ta (IsZ x)) (b : Go σ H tb (IsZ y)) : Go σ H (tOp (rI0 fun i j => .int (i + j)) ta tb) (IsZ (x + y)) := fun H1 S Q q =>
  a H1 S _ fun _ H2 S2 e => b H2 (S.trans S2) _ fun _ H3 S3 e2 => ⟨x, y, e, e2, q _ H3 (S2.trans S3) rfl⟩
theorem goz_sub (a : Go σ H ta (IsZ x)) (b : Go σ H tb (IsZ y)) : Go σ H (tOp (rI0 fun i j => .int (i - j)) ta tb) (IsZ (x - y)) := fun H1 S Q q =>
  a H1 S _ fun _ H2 S2 e => b H2 (S.trans S2) _ fun _ H3 S3 e2 => ⟨x, y, e, e2, q _ H3 (S2.trans S3) rfl⟩
theorem goz_mulW (a : Go σ H ta (IsZ x)) (b : Go σ H tb (IsZ y)) (h : CMulW x y) : Go σ H (tOp (rI CMulW fun i j => .int (i * j)) ta tb) (IsZ (x * y)) := fun H1 S Q q =>
  a H1 S _ fun _ H2 S2 e => b H2 (S.trans S2) _ fun _ H3 S3 e2 => ⟨x, y, e, e2, h, q _ H3 (S2.trans S3) rfl⟩
theorem gob_lt (a : Go σ H ta (IsZ x)) (b : Go σ H tb (IsZ y)) : Go σ H (tOp (rI0 fun i j => .bl (decide (i < j))) ta tb) (IsB (decide (x < y))) := fun H1 S Q q =>
  a H1 S _ fun _ H2 S2 e => b H2 (S.trans S2) _ fun _ H3 S3 e2 => ⟨x, y, e, e2, q _ H3 (S2.trans S3) rfl⟩
theorem got_B (a : Go σ H te (IsB b)) : GoT σ H (tB te) b := fun H1 S Q q => a H1 S _ fun v H2 S2 e => ⟨b, e, q H2 S2⟩
theorem got_test (a : Go σ H te (IsB b)) : GoT σ H (tTest te) b := fun H1 S Q q => a H1 S _ fun v H2 S2 e => ⟨b, e, q H2 S2⟩
theorem got_not (a : GoT σ H t b) : GoT σ H (tNot t) (!b) := fun H1 S Q q => a H1 S _ fun H2 S2 => q H2 S2
theorem got_or (a : GoT σ H t b) (h : b = false → GoT σ H u c) : GoT σ H (tOr t u) (b || c) := fun H1 S Q q => a H1 S _ fun H2 S2 => by
  cases b with
  | true => exact iteT (q H2 S2)
  | false => exact iteF (h rfl H2 (S.trans S2) _ fun H3 S3 => q H3 (S2.trans S3))
theorem got_orF (a : GoT σ H t false) (h : GoT σ H u false) : GoT σ H (tOr t u) false := got_or a fun _ => h
theorem got_and (a : GoT σ H t b) (h : b = true → GoT σ H u c) : GoT σ H (tAnd t u) (b && c) := fun H1 S Q q => a H1 S _ fun H2 S2 => by
  cases b with
  | true => exact iteT (h rfl H2 (S.trans S2) _ fun H3 S3 => q H3 (S2.trans S3))
  | false => exact iteF (q H2 S2)
theorem got_notT (a : GoT σ H t true) : GoT σ H (tNot t) false := got_not a
theorem gob_notB (a : Go σ H ta (IsB b)) (c : Bool) : Go σ H (tOp rNotB ta (tC (.bl c))) (IsB (!decide (b = c))) := fun H1 S Q q => a H1 S _ fun v H2 S2 e => ⟨b, c, e, rfl, q _ H2 S2 rfl⟩
theorem gob_neB (a : Go σ H ta (IsB b)) (d : Go σ H tb (IsB c)) : Go σ H (tOp rNe ta tb) (IsB (!decide (V.bl b = V.bl c))) := fun H1 S Q q => a H1 S _ fun v H2 S2 e => d H2 (S.trans S2) _ fun w H3 S3 e2 => by
  cases (show v = .bl b from e)
  cases (show w = .bl c from e2)
  exact ⟨rfl, q _ H3 (S2.trans S3) rfl⟩
theorem gob_neZ (a : Go σ H ta (IsZ x)) (d : Go σ H tb (IsZ y)) : Go σ H (tOp rNe ta tb) (IsB (!decide (x = y))) := fun H1 S Q q => a H1 S _ fun v H2 S2 e => d H2 (S.trans S2) _ fun w H3 S3 e2 => by
  cases (show v = .int x from e)
  cases (show w = .int y from e2)
  refine ⟨rfl, q _ H3 (S2.trans S3) ?_⟩
  show V.bl _ = V.bl _
  rw [dec_int]
  rfl
/-- an if whose test is known -/
theorem if_no {tt uu : TS} {D : Ends} (a : GoT σ H t false) (h : ∀ H2, L2.Same H H2 → uu D σ H2) : tIfS t tt uu D σ H := a H (L2.Same.refl H) _ fun H2 S => iteF (h H2 S)
theorem if_yes {tt uu : TS} {D : Ends} (a : GoT σ H t true) (h : ∀ H2, L2.Same H H2 → tt D σ H2) : tIfS t tt uu D σ H := a H (L2.Same.refl H) _ fun H2 S => iteT (h H2 S)
theorem sif {tt rest : TS} {D : Ends} (a : GoT σ H t false) (h : ∀ H2, L2.Same H H2 → rest D σ H2) : tSeq (tIfS t tt tNext) rest D σ H := a H (L2.Same.refl H) _ fun H2 S => iteF (h H2 S)
theorem sset {rest : TS} {D : Ends} (a : Go σ H te R) (h : ∀ v H2, L2.Same H H2 → R v H2 → rest D (σ.set i (some v)) H2) : tSeq (tAsg te (gName i)) rest D σ H := a H (L2.Same.refl H) _ fun v H2 S r => h v H2 S r
theorem got_andF (a : GoT σ H t b) (h : b = true → GoT σ H u false) : GoT σ H (tAnd t u) false := fun H1 S Q q => a H1 S _ fun H2 S2 => by
  cases b with
  | true => exact iteT (h rfl H2 (S.trans S2) _ fun H3 S3 => q H3 (S2.trans S3))
  | false => exact iteF (q H2 S2)
theorem gob_eq (a : Go σ H te (IsB b)) (h : b = c) : Go σ H te (IsB c) := h ▸ a
theorem got_eq (a : GoT σ H t b) (h : b = c) : GoT σ H t c := h ▸ a
theorem spar {j : Nat} {R' : V → Hp → Prop} {rest : TS} {D : Ends} (a : Go σ H ta R) (b : ∀ v H2, L2.Same H H2 → R v H2 → Go σ H2 tb R')
    (h : ∀ v w H2 H3, L2.Same H H2 → R v H2 → L2.Same H2 H3 → R' w H3 → rest D ((σ.set i (some v)).set j (some w)) H3) : tSeq (tPar i j (tCons ta (tCons tb tNil))) rest D σ H :=
  a H (L2.Same.refl H) _ fun v H2 S2 r => b v H2 S2 r H2 (L2.Same.refl H2) _ fun w H3 S3 r3 => ⟨v, w, rfl, h v w H2 H3 S2 r S3 r3⟩
theorem stup4 {K : PySem.W.Frag} {i1 i2 i3 i4 : Nat} {tc td : TE} {z w : Int} {rest : TS} {D : Ends} (a : Go σ H ta (IsZ x)) (b : Go σ H tb (IsZ y)) (c : Go σ H tc (IsZ z)) (d : Go σ H td (IsZ w))
    (h : ∀ H2, L2.Same H H2 → rest D ((((σ.set i1 (some (.int x))).set i2 (some (.int y))).set i3 (some (.int z))).set i4 (some (.int w))) H2) :
    tSeq (tAsg (tTup (tCons ta (tCons tb (tCons tc (tCons td tNil))))) (gTup K 4 (gCons (gName i1) (gCons (gName i2) (gCons (gName i3) (gCons (gName i4) gNil)))))) rest D σ H :=
  a H (L2.Same.refl H) _ fun v1 H1 S1 e1 => b H1 S1 _ fun v2 H2 S2 e2 => c H2 (S1.trans S2) _ fun v3 H3 S3 e3 => d H3 (S1.trans (S2.trans S3)) _ fun v4 H4 S4 e4 =>
    ⟨(by show 4 ≤ sizeLine; decide), fun p hp => ⟨p, _, rfl, SqT.of upd_same, rfl, v1, _, rfl, v2, _, rfl, v3, _, rfl, v4, _, rfl, rfl, by
      cases (show v1 = .int x from e1)
      cases (show v2 = .int y from e2)
      cases (show v3 = .int z from e3)
      cases (show v4 = .int w from e4)
      exact h _ (S1.trans (S2.trans (S3.trans (S4.trans (RK.Same.upd hp)))))⟩⟩
end
theorem kit_self {K : PySem.W.Frag} {C : Addr} : PySem.W.kitOne K (.ref C) (.ref C) = some true := by
  unfold PySem.W.kitOne
  rw [if_pos (beq_iff_eq.mpr rfl)]
theorem kit_sub {K : PySem.W.Frag} {C S : Addr} {b : Bool} (ne : (Value.ref C == Value.ref S) = false) (hd : PySem.W.hasDictIn K S = true) (ht : PySem.W.typeIn K (.ref S) = some (.type "type"))
    (hs : PySem.W.subIn K (.ref C) (.ref S) = some b) : PySem.W.kitOne K (.ref C) (.ref S) = some b := by
  obtain ⟨cd, hc, _⟩ := PySem.W.any_some hd
  have e2 : ((PySem.W.clsIn K S).isSome && PySem.W.typeIn K (.ref S) == some (.type "type")) = true := by rw [hc, ht] <;> rfl
  unfold PySem.W.kitOne PySem.W.kitCls
  rw [ne, if_neg Bool.false_ne_true]
  dsimp only
  rw [if_pos e2]
  exact hs
end RK


set_option Elab.async false
set_option linter.all false
set_option maxRecDepth 100000
/-! methods of an own class, in one piece -/
namespace RK
open PySem PySem.Spec PyProof.Rows L2
structure Cm (P : Program) (w : World) (K : PySem.W.Frag) (mg : Str → Option Value) (base : Heap) (CXt : CXT) (k : Nat) (C : Addr) (m : Str) (ps : List Str) (sp : Sp) : Prop where
  ex : ∃ (f : Addr) (fd : FuncData), FnOk P w K mg base CXt k f fd ps sp ∧ Meth K C m f ∧ L2.Binds K fd ps []
section
variable {X : Cx} {CXt : CXT} {j k : Nat} {ps : List Str} {sp : Sp} {m : Str} {p pos apos : Pos} {o e : Expr} {es : List Expr} {ta : TE} {t : TA} {C : Addr}
theorem pe_m {E : XK} {pl : Sem Bool} (c : Cm X.prog X.w X.K X.mg X.base CXt k C m ps sp) (cl : Cls X.K C) (hr : Room j X.A) (hk : k ≤ j) (hx : Passes CXt X E) (he : PE X o ta) (ha : PA X (e :: es) t)
    (hst : starEach (e :: es) X.env = (false, eval e X.env) :: starEach es X.env := by rfl) (hpl : (backTo pos (starEach es X.env)).any (·.1) = false := by rfl)
    (ht : eval (.Call (.Attribute o m apos) (e :: es) [] pos) X.env = (do
      let ov ← eval o X.env
      standAt apos.atName
      let (f, first) ← holding [ov] (getMethod ov m pl)
      callWith pos f first (backTo pos (starEach (e :: es) X.env)) (backToKw pos (keywordEach [] X.env))) := by rfl) :
    PE X (.Call (.Attribute o m apos) (e :: es) [] pos) (tMeth C m sp [] E ta t) := by
  obtain ⟨f, fd, F, M, b⟩ := c.ex
  exact pe_meth he cl M F (hr.mono hk) b .nil hx ha hst hpl ht
theorem pe_m0 {E : XK} {pl : Sem Bool} (c : Cm X.prog X.w X.K X.mg X.base CXt k C m ps sp) (cl : Cls X.K C) (hr : Room j X.A) (hk : k ≤ j) (hx : Passes CXt X E) (he : PE X o ta)
    (ht : eval (.Call (.Attribute o m apos) [] [] pos) X.env = (do
      let ov ← eval o X.env
      standAt apos.atName
      let (f, first) ← holding [ov] (getMethod ov m pl)
      callWith pos f first (backTo pos (starEach [] X.env)) (backToKw pos (keywordEach [] X.env))) := by rfl) :
    PE X (.Call (.Attribute o m apos) [] [] pos) (tMeth C m sp [] E ta tNil) := by
  obtain ⟨f, fd, F, M, b⟩ := c.ex
  exact pe_meth0 he cl M F (hr.mono hk) b .nil hx ht
end
/-- a class that is made by its own __init__, in one piece -/
structure Cc (P : Program) (w : World) (K : PySem.W.Frag) (mg : Str → Option Value) (base : Heap) (CXt : CXT) (k : Nat) (x : Str) (C : Addr) (ps : List Str) (sp : Sp) : Prop where
  ex : ∃ (f : Addr) (fd : FuncData), FnOk P w K mg base CXt k f fd ps sp ∧ mg x = some (.ref C) ∧ Mk K C f ∧ L2.Binds K fd ps []
theorem pe_cls {X : Cx} {CXt : CXT} {j k : Nat} {ps : List Str} {sp : Sp} {x : Str} {p pos : Pos} {e : Expr} {es : List Expr} {t : TA} {C : Addr} {E : XK} (c : Cc X.prog X.w X.K X.mg X.base CXt k x C ps sp)
    (hr : Room j X.A) (hk : k + 1 ≤ j) (hx : Passes CXt X E) (ha : PA X (e :: es) t) (hg : Gl X x := by rfl) (hdb : (x == ("__debug__" : Str)) = false := by decide)
    (he : starEach (e :: es) X.env = (false, eval e X.env) :: starEach es X.env := by rfl) (hpl : (backTo pos (starEach es X.env)).any (·.1) = false := by rfl) :
    PE X (.Call (.Name x p) (e :: es) [] pos) (tMake C sp [] E t) := by
  obtain ⟨f, fd, F, hm, M, b⟩ := c.ex
  exact pe_make M F (hr.mono hk) hg hm b .nil hx ha hdb he hpl
/-- an attribute inside a comprehension: its K is the def's -/
theorem pe_fldK {X : Cx} (K : PySem.W.Frag) {e : Expr} {f : Str} {pos : Pos} {ta : TE} (h : PE X e ta) (ha : attributeBase e f X.env (eval e X.env) = eval e X.env) (hK : X.K = K := by rfl) : PE X (.Attribute e f pos) (tFld K ta f) := by
  subst hK
  exact pe_fld h ha
/-- len of a list or tuple -/
def rLenS (K : PySem.W.Frag) : List V → Hp → VK → Prop := fun xs H Q => ∃ (p : Addr) (ys : List V), xs = [.ref p] ∧ (SqL K H p ys ∨ SqT K H p ys) ∧ Q (.int ys.length) H
theorem call_lenS {X : Cx} : CallR X (.builtin "len") (rLenS X.K) := call_len_seq
end RK


set_option Elab.async false
set_option linter.all false
set_option maxRecDepth 100000
/-! methods by keywords; an own == -/
namespace RK
open PySem PySem.Spec PyProof.Rows L2
/-- an instance as the heap has it -/
theorem ins_look {P : Program} {w : World} {H : Hp} {h : Heap} {a C dx : Addr} {fs : List (Str × V)} (o : ObjOk P w H h a (.ins C dx fs)) : ∃ od, PySem.W.InstAt h a (PySem.W.instObj C dx) C (some od) ∧ ∀ m, fs.lookup m = none → PySem.W.lookIn m od = some none := by
  obtain ⟨-, -, hne, hget, mA, hns, hrel, -⟩ := o
  obtain ⟨od, hi, hl⟩ := (ObjM.mk hget hns hne).look
  refine ⟨od, hi, fun m hm => ?_⟩
  have := hrel m
  rw [hm] at this
  rw [hl m]
  cases e : mA m with
  | none => rfl
  | some v =>
    rw [e] at this
    exact this.elim
def tMethK (C : Addr) (m : Str) (sp : Sp) (gV : List V → List V → List V) (E : XK) (ta : TE) (tk : TA) : TE := fun σ H Q => ta σ H fun x H1 => ∃ a dx fs, x = .ref a ∧ H1 a = some (.ins C dx fs) ∧ fs.lookup m = none ∧ tk σ H1 fun zs H2 => sp (gV [x] zs) H2 Q E
section
variable {X : Cx} {CXt : CXT} {k : Nat} {f C : Addr} {fd : FuncData} {ps ks : List Str} {sp : Sp} {m : Str} {pos apos : Pos} {o : Expr} {ta : TE} {kws : List Keyword} {tk : TA}
  {g : List Value → List Value → List Value} {gV : List V → List V → List V}
theorem pe_methK {E : XK} {pl : Sem Bool} (he : PE X o ta) (c : Cls X.K C) (hm : Meth X.K C m f) (F : FnOk X.prog X.w X.K X.mg X.base CXt k f fd ps sp) (hr : Room k X.A) (hb : KBinds X.K fd ps ks g gV) (hx : Passes CXt X E) (hkw : PK X kws tk)
    (ht : eval (.Call (.Attribute o m apos) [] kws pos) X.env = (do
      let ov ← eval o X.env
      standAt apos.atName
      let (f, first) ← holding [ov] (getMethod ov m pl)
      callWith pos f first (backTo pos (starEach [] X.env)) (backToKw pos (keywordEach kws X.env))) := by rfl)
    (hall : (backToKw pos (keywordEach kws X.env)).all (·.1.isSome) = true := by rfl)
    (hks : (backToKw pos (keywordEach kws X.env)).filterMap (·.1) = ks := by rfl)
    (hpl : ((backTo pos (starEach [] X.env)).any (·.1) || (backToKw pos (keywordEach kws X.env)).any (·.1.isNone)) = false := by rfl) :
    PE X (.Call (.Attribute o m apos) [] kws pos) (tMethK C m sp gV E ta tk) := ⟨fun pins s σ H Q I h => by
  rw [ht]
  refine wpAny_bind (thn (he.run pins s σ H _ I h) fun u s1 ⟨x, H1, I1, rx, a, dx, fs, ex, ha, hl, h2⟩ => ?_)
  subst ex
  cases (show u = Value.ref a from rx)
  obtain ⟨od, hi, hlk⟩ := ins_look (I1.hok a _ ha)
  have pg := c.pg
  unfold PySem.W.plainGet at pg
  rw [Bool.and_eq_true, beq_iff_eq, beq_iff_eq] at pg
  refine wpAny_bind (wpAny_standAt (wpAny_bind (wpAny_holding (PySem.W.method_fn I1.kIn hi pg.1 pg.2 hm.at_ ?_ ?_ ?_))))
  · exact beq_iff_eq.mp hm.fn
  · show Option.map (fun x => x.isSome) (PySem.W.lookIn m od) = some false
    rw [hlk m hl]
    rfl
  · refine PySem.W.callWith_KW0 (h₀ := X.base) I1.ok.mod.kin hm.kp hall ?_ hpl
    refine thn (hkw.run pos pins s1 σ H1 _ I1 h2) fun ws s2 ⟨zs, H2, I2, rz, q2⟩ => ⟨I2.kIn, ?_⟩
    rw [hks]
    exact run_fnk F hr hb hx I2 (.cons (show RelV (.ref a) (Value.ref a) from rfl) .nil) rz q2⟩
end
/-- a method called by keywords alone, in one piece -/
structure Cmk (P : Program) (w : World) (K : PySem.W.Frag) (mg : Str → Option Value) (base : Heap) (CXt : CXT) (k : Nat) (C : Addr) (m : Str) (ps ks : List Str) (gV : List V → List V → List V) (sp : Sp) : Prop where
  ex : ∃ (f : Addr) (fd : FuncData) (g : List Value → List Value → List Value), FnOk P w K mg base CXt k f fd ps sp ∧ Meth K C m f ∧ KBinds K fd ps ks g gV
def kwApp {α : Type} : List α → List α → List α
  | [a], ws => a :: ws
  | _, _ => []
theorem kwApp_rel {vs : List V} {us : List Value} {zs : List V} {ws : List Value} (r : Vals vs us) (rz : Vals zs ws) : Vals (kwApp vs zs) (kwApp us ws) := by
  cases r with
  | nil => exact .nil
  | cons a r => cases r with
    | nil => exact .cons a rz
    | cons _ _ => exact .nil
theorem pe_mk {X : Cx} {CXt : CXT} {j k : Nat} {C : Addr} {ps ks : List Str} {sp : Sp} {m : Str} {pos apos : Pos} {o : Expr} {ta : TE} {kws : List Keyword} {tk : TA} {gV : List V → List V → List V} {E : XK} {pl : Sem Bool}
    (c : Cmk X.prog X.w X.K X.mg X.base CXt k C m ps ks gV sp) (cl : Cls X.K C) (hr : Room j X.A) (hk : k ≤ j) (hx : Passes CXt X E) (he : PE X o ta) (hkw : PK X kws tk)
    (ht : eval (.Call (.Attribute o m apos) [] kws pos) X.env = (do
      let ov ← eval o X.env
      standAt apos.atName
      let (f, first) ← holding [ov] (getMethod ov m pl)
      callWith pos f first (backTo pos (starEach [] X.env)) (backToKw pos (keywordEach kws X.env))) := by rfl)
    (hall : (backToKw pos (keywordEach kws X.env)).all (·.1.isSome) = true := by rfl)
    (hks : (backToKw pos (keywordEach kws X.env)).filterMap (·.1) = ks := by rfl)
    (hpl : ((backTo pos (starEach [] X.env)).any (·.1) || (backToKw pos (keywordEach kws X.env)).any (·.1.isNone)) = false := by rfl) :
    PE X (.Call (.Attribute o m apos) [] kws pos) (tMethK C m sp gV E ta tk) := by
  obtain ⟨f, fd, g, F, M, b⟩ := c.ex
  exact pe_methK he cl M F (hr.mono hk) b hx hkw ht hall hks hpl
end RK


set_option Elab.async false
set_option linter.all false
set_option maxRecDepth 100000
set_option maxHeartbeats 4000000
/-! enumerate over a tuple -/
namespace RK
open PySem PySem.Spec PyProof.Rows L2
section
open Builtin Builtin.ObjectAttr
theorem enum1_meets {v : Value} {o : Obj} {Hq : Heap → Prop} (B : Begins v o Hq) :
    Meets (Builtin.«enumerate.__new__» ⟨[.type "enumerate", v], []⟩) (fun _ R s => Hq s.heap ∧
      R (.ok (.ret (.ref (s.heap.push o).objs.size))) { s with heap := (s.heap.push o).push { cls := .type "enumerate", data := .fields #[.none, .bool false, .ref s.heap.objs.size, rawInt 0, .none, .none] } }) :=
  .of_wp fun prog w A R s hh => by
    obtain ⟨hp, g, d, tk, os⟩ := s; obtain ⟨hB, hR⟩ := hh; have sb := sub_enumerate
    have it1 : ∀ {A' : Around} {E : Value → Shared → Prop} {Q : Value → Shared → Prop}, Q (.ref hp.objs.size) ⟨hp.push o, g, d, tk, os⟩ → wpAny (model prog w) A' (pyIter v) Q E ⟨hp, g, d, tk, os⟩ := by
      intro A' E Q q; exact B.iter prog w _ _ ⟨hp, g, d, tk, os⟩ _ hB q
    wp_walk using it1
    refine wpAny_stack_any fun st => ?_; refine wpAny_pure ?_
    split
    · rename_i c _ _ _ _ _
      by_cases hc : (c == Value.type "enumerate") = true
      · rw [hc]; wp_walk using it1; exact ⟨_, rfl, hR⟩
      · rw [Bool.eq_false_iff.mpr hc]; wp_walk using it1; exact ⟨_, rfl, hR⟩
    · wp_walk using it1; exact ⟨_, rfl, hR⟩
theorem enum1_call {prog : Program} {w : World} {A : Around} {E : Value → Shared → Prop} {s : Shared} {v : Value} {o : Obj} {Hq : Heap → Prop} {Q : Value → Shared → Prop} (B : Begins v o Hq) (h1 : Hq s.heap)
    (h : ∀ h', IsEnum h' (s.heap.objs.size + 1) s.heap.objs.size 0 .none → h'.get? s.heap.objs.size = some o → (∀ b ob, s.heap.get? b = some ob → h'.get? b = some ob) →
      Q (.ref (s.heap.objs.size + 1)) { s with heap := h' }) : wpAny (model prog w) A (call (.type "enumerate") [v]) Q E s := by
  refine callType_new F.called_enumerate (by decide) (F.typeCall_enumerate_1 _) (F.newCall_enumerate_1 _) (fun obj => F.args_object_init_2 obj _) F.entry_enumerate_new (enum1_meets B) ⟨h1, ?_⟩
  have sz : (s.heap.push o).objs.size = s.heap.objs.size + 1 := Heap.size_push ..
  show _ ∧ _; rw [sz]
  have ie : IsEnum ((s.heap.push o).push { cls := .type "enumerate", data := .fields #[.none, .bool false, .ref s.heap.objs.size, rawInt 0, .none, .none] }) (s.heap.objs.size + 1) s.heap.objs.size 0 .none := by
    have q := Heap.get?_push_size (s.heap.push o) (o := { cls := .type "enumerate", data := .fields #[.none, .bool false, .ref s.heap.objs.size, rawInt 0, .none, .none] }) rfl
    rw [sz] at q; exact q
  refine ⟨⟨_, ie, rfl⟩, h _ ie (Heap.get?_push_of_some _ (Heap.get?_push_size _ B.free)) fun b ob x => ?_⟩
  exact Heap.get?_push_of_some _ (Heap.get?_push_of_some _ x)
end
/-- the tuple at a as it stands at each turn, each item in a new pair -/
def IteT (K : PySem.W.Frag) (a : Addr) : It :=
  ⟨fun i H => ∃ (xs : List V) (x : V), SqT K H a xs ∧ xs[i]? = some x, fun i H v H' => ∃ (T : Addr) (x : V), v = .ref T ∧ H T = none ∧ H' = L2.upd H T (.tup [.int (i : Nat), x]) ∧ ∀ xs, SqT K H a xs → xs[i]? = some x,
   fun i H => ∃ xs : List V, SqT K H a xs ∧ xs.length = i⟩
theorem isTup_at {h : Heap} {a : Addr} {items : Array Value} (x : IsTup h a items) : h.IsTuple a items := by
  obtain ⟨o, e, c, n, d⟩ := x
  exact ⟨o, e, c, n, d⟩
theorem turnE {P : Program} {w : World} {K : PySem.W.Frag} {elts : List Expr} {kk : Nat} {tpos : Pos} (a e it : Addr) (hai : a ≠ it) :
    Turn P w K (.Tuple elts kk tpos) (IteT K a) [e, it] e (fun i h => (∃ old, IsEnum h e it ((i : Nat) : Int) old) ∧ h.IsTupleIter it a i ∧ e ≠ it ∧ e ≠ a) where
  mem := List.mem_cons_self
  obj := fun i h st b hb => by
    obtain ⟨⟨old, he⟩, ⟨o, ho, _, hd⟩, _⟩ := st
    rcases List.mem_cons.mp hb with rfl | hb
    · exact ⟨_, he, fun v q => nomatch q⟩
    · obtain rfl := List.mem_singleton.mp hb
      exact ⟨o, ho, fun v q => by rw [hd] at q; cases q⟩
  keep := fun i h h' st k => ⟨⟨st.1.choose, k e (by simp) _ st.1.choose_spec⟩, st.2.1.at fun o q => k it (by simp) o q, st.2.2⟩
  item := by
    intro X hP hw hK hc i pins s σ H E I hf st hg
    subst hP hw hK
    obtain ⟨⟨old, he⟩, hit, hne, hea⟩ := st
    obtain ⟨xs, x, hq, hx⟩ := hg
    obtain ⟨its, rv, p, hz⟩ := I.tuple hq
    obtain ⟨u, hu, ru⟩ := rv.get hx
    have he0 : e < s.heap.objs.size := Heap.lt_size he
    have hi0 : it < s.heap.objs.size := by obtain ⟨_, q, _⟩ := hit; exact Heap.lt_size q
    have hlt : i < its.toArray.size := by
      have := (List.getElem?_eq_some_iff.mp hu).1
      simpa using this
    have D := Draws.tuple (prog := X.prog) (w := X.w) (A := X.A.in1) (I.ok.hd hc) it a hai its.toArray
    refine wpAny_pyNext_enum_itemD D he ⟨hit, isTup_at p⟩ hlt hne (by simp [hne, hea]) fun x' h' tk hP ho st' hT hsz hk => ?_
    have ex : x' = u := by
      have q : its.toArray[i]? = some u := by simpa using hu
      exact Option.some.inj (hP.symm.trans q)
    subst ex
    refine ⟨_, rfl, wpAny_letOwnedTupleGo_enum (s := { s with heap := h', toks := tk + 1 }) ho fun h2 he2 sb => ?_⟩
    obtain ⟨old', hx2⟩ : ∃ y, y = s.heap.objs.size := ⟨_, rfl⟩
    have nT : s.heap.objs.size ≠ e := Nat.ne_of_gt he0
    have tT : h2.get? s.heap.objs.size = some { cls := .type "tuple", data := .seq #[.int i tk, x'] } := (sb.2 _ nT).trans hT
    have nw : ObjOk X.prog X.w (L2.upd H s.heap.objs.size (.tup [.int (i : Nat), x])) h2 s.heap.objs.size (.tup [.int (i : Nat), x]) :=
      ⟨by show 2 ≤ sizeLine; decide, [.int i tk, x'], .cons ⟨_, rfl⟩ (.cons ru .nil), ⟨_, tT, rfl, _, rfl⟩⟩
    have kp : ∀ b ob, b ∉ [e, it] → s.heap.get? b = some ob → h2.get? b = some ob := fun b ob hb q =>
      (sb.2 b fun z => hb (by simp [z])).trans (hk b ob (fun z => hb (by simp [z])) (fun z => hb (by simp [z])) q)
    have J : Inv X pins σ (L2.upd H s.heap.objs.size (.tup [.int (i : Nat), x])) { s with heap := h2, toks := tk + 1 } := I.turnedNew (ch := [e, it]) kp hf (Nat.le_refl _) nw
    refine ⟨.ref s.heap.objs.size, _, J, rfl, ⟨_, x, rfl, I.hok.fresh (Nat.le_refl _), rfl, fun ys hy => ?_⟩, ⟨⟨x', ?_⟩, st'.1.at fun o q => (sb.2 it (Ne.symm hne)).trans q, hne, hea⟩, fun b hb => ?_⟩
    · rw [I.tuple_inj hy hq]
      exact hx
    · rw [show ((i + 1 : Nat) : Int) = (i : Int) + 1 by omega]
      exact he2
    · have hb' : b < s.heap.objs.size := by
        rcases List.mem_cons.mp hb with rfl | hb
        · exact he0
        · rw [List.mem_singleton.mp hb]
          exact hi0
      rw [upd_ne (Nat.ne_of_lt hb')]
      exact (hf b hb).1
  done := by
    intro X hP hw hK hc i pins s σ H E I hf st hg
    subst hP hw hK
    obtain ⟨⟨old, he⟩, hit, hne, hea⟩ := st
    obtain ⟨xs, hq, hx⟩ := hg
    obtain ⟨its, rv, p, hz⟩ := I.tuple hq
    obtain ⟨f0, f1, f2, f3, f4, f5⟩ := hf it (by simp)
    have hl := rv.length
    have hs : i = its.toArray.size := by simp; omega
    subst hs
    have D := Draws.tuple (prog := X.prog) (w := X.w) (A := X.A.in1) (I.ok.hd hc) it a hai its.toArray
    exact wpAny_pyNext_enum_endD D he ⟨hit, isTup_at p⟩ fun h' eb => ⟨rfl, I.turned (t' := s.toks) (fun b o hb q => eb b o hb q) f0 f1 f3 f4 f5⟩
  self := fun A i s Q E st h => wpAny_pyIter_enum st.1.choose_spec h
def iEnumT (K : PySem.W.Frag) (ta : TA) : TI := fun σ H R => ta σ H fun vs H1 => ∃ (a : Addr) (xs : List V), vs = [.ref a] ∧ SqT K H1 a xs ∧ R (IteT K a) H1
theorem pi_enumT {X : Cx} {e : Expr} {ta : TA} {p pos tpos : Pos} {elts : List Expr} {kk : Nat} (hg : Gl X "enumerate") (hm : X.mg "enumerate" = none) (ha : PA X [e] ta)
    (hs : starEach [e] X.env = [(false, eval e X.env)] := by rfl) : PI X (.Tuple elts kk tpos) (.Call (.Name "enumerate" p) [e] [] pos) (iEnumT X.K ta) := ⟨fun pins s σ H R I h => by
  refine Call_ (ld_blt I hg hm boot_enumerate (PyProof.Rows.callWith_type1 (thn (ha.run pos pins s σ H _ I h) ?_) hs rfl))
  rintro us s1 ⟨vs, H1, I1, r1, a, xs, rfl, hq, q⟩
  obtain ⟨u, rfl, ru⟩ := vals1 r1
  cases (show u = Value.ref a from ru)
  obtain ⟨its, rv, p', hz⟩ := I1.tuple hq
  have ha1 : a < s1.heap.objs.size := by obtain ⟨o, e, _⟩ := p'; exact Heap.lt_size e
  refine enum1_call (begins_tuple a its.toArray) (isTup_at p') fun h' he hit hk => wpAny_pyIter_enum he ?_
  have I2 : Inv X pins σ H1 { s1 with heap := h' } := I1.kept (t' := s1.toks) hk
  refine ⟨s1.heap.objs.size + 1, [s1.heap.objs.size + 1, s1.heap.objs.size], _, _, H1, rfl, I2, turnE a (s1.heap.objs.size + 1) s1.heap.objs.size (Nat.ne_of_lt ha1),
    ⟨⟨.none, he⟩, ⟨_, hit, rfl, rfl⟩, Nat.succ_ne_self _, Ne.symm (Nat.ne_of_lt (Nat.lt_succ_of_lt ha1))⟩, fun b hb => ?_, q⟩
  have hle : s1.heap.objs.size ≤ b := by
    rcases List.mem_cons.mp hb with rfl | hb
    · exact Nat.le_succ _
    · rw [List.mem_singleton.mp hb]
      exact Nat.le_refl _
  exact I1.fpOk hle (I1.hok.fresh hle)⟩
theorem walk_enumT {K : PySem.W.Frag} {a : Addr} {xs : List V} : Walk (IteT K a) xs.length (fun H => SqT K H a xs) (YPair (fun i => some (.int (i : Nat))) (fun i => xs[i]?)) := by
  refine ⟨fun i _ hi q => ⟨xs, xs[i], q, by simp [hi]⟩, fun _ q => ⟨xs, q, rfl⟩, ?_⟩
  rintro i H v H' _ q ⟨T, x, h1, h2, h3, h4⟩
  exact ⟨T, .int (i : Nat), x, h1, h2, h3, rfl, h4 xs q⟩
end RK


set_option Elab.async false
set_option linter.all false
set_option maxRecDepth 100000
/-! an own == and what != makes of it -/
namespace RK
open PySem PySem.Spec PyProof.Rows L2
/-- what a value's type is, of the kinds that are met -/
inductive TyO (H : Hp) : V → Value → Prop
  | non : TyO H .non (.type "NoneType")
  | int (i : Int) : TyO H (.int i) (.type "int")
  | str (x : Str) : TyO H (.str x) (.type "str")
  | tup {a : Addr} {xs : List V} (h : H a = some (.tup xs)) : TyO H (.ref a) (.type "tuple")
  | lst {a : Addr} {xs : List V} (h : H a = some (.lst xs)) : TyO H (.ref a) (.type "list")
  | ins {a C dx : Addr} {fs : List (Str × V)} (h : H a = some (.ins C dx fs)) : TyO H (.ref a) (.ref C)
theorem TyO.looks {P : Program} {w : World} {H : Hp} {h : Heap} {v : V} {T u : Value} {M : Model} (ok : HOk P w H h) (t : TyO H v T) (r : RelV v u) : PySem.W.Looks M h (typeOf u) T := by
  cases t with
  | non =>
    cases (show u = .none from r)
    exact fun A Q E s _ q => wpAny_of_eq (a := Value.type "NoneType") (by rfl) q
  | int i =>
    obtain ⟨t, rfl⟩ : ∃ t, u = .int i t := r
    exact fun A Q E s _ q => wpAny_of_eq (a := Value.type "int") (by rfl) q
  | str x =>
    obtain ⟨t, rfl⟩ : ∃ t, u = .str x t := r
    exact fun A Q E s _ q => wpAny_of_eq (a := Value.type "str") (by rfl) q
  | @tup a xs e =>
    cases (show u = .ref a from r)
    have o := ok a _ e
    obtain ⟨_, items, _, hg⟩ := o
    obtain ⟨o, e, c, _⟩ := isTup_at hg
    exact PySem.W.kitAt_ty M h ⟨o, e, c⟩
  | @lst a xs e =>
    cases (show u = .ref a from r)
    have o := ok a _ e
    obtain ⟨_, items, n, _, hg⟩ := o
    exact PySem.W.kitAt_ty M h ⟨_, hg, rfl⟩
  | @ins a C dx fs e =>
    cases (show u = .ref a from r)
    obtain ⟨od, hi, _⟩ := ins_look (ok a _ e)
    exact hi.type
/-- x == y by x's own __eq__ -/
def rOwnEq (K : PySem.W.Frag) (C : Addr) (sp : Sp) (E : XK) (neg : Bool) : R2 := fun x y H Q => ∃ (a dx : Addr) (fs : List (Str × V)) (T : Value), x = .ref a ∧ H a = some (.ins C dx fs) ∧ TyO H y T ∧ PySem.W.notFirst K C T = true ∧
  sp [.ref a, y] H (fun v H' => ∃ b, v = .bl b ∧ Q (.bl (if neg = true then !b else b)) H') E
section
variable {X : Cx} {CXt : CXT} {k : Nat} {f C : Addr} {fd : FuncData} {ps : List Str} {sp : Sp}
theorem op_eqOwn {E : XK} (F : FnOk X.prog X.w X.K X.mg X.base CXt k f fd ps sp) (hr : Room k X.A) (hb : L2.Binds X.K fd ps []) (hx : Passes CXt X E) (hu : X.A.units < cLine)
    (hs : PySem.W.findIn X.K (.ref C) "__eq__" = some (some (.ref f))) (hf : PySem.W.isFn X.K (.ref f) = true) : OpR X (compareOp .Eq) (rOwnEq X.K C sp E false) := by
  intro pins s σ H x y v u Q I rx ry ⟨a, dx, fs, T, ex, ha, hT, hn, q⟩
  subst ex
  cases (show v = Value.ref a from rx)
  obtain ⟨od, hi, _⟩ := ins_look (I.hok a _ ha)
  obtain ⟨m, fr⟩ := I.fr
  refine PySem.W.cmp_ofEq (PySem.W.cmp_K hu fr I.ok.mod.kin hi (hT.looks I.hok ry) hn hs hf ?_)
  refine thn (run_fn (vs := [.ref a, y]) (Q := fun v H' => ∃ b, v = .bl b ∧ Q (.bl (if false = true then !b else b)) H') F hr hb .nil hx I (.cons rx (.cons ry .nil)) (by simpa using q)) fun z s2 ⟨vz, H2, I2, rz, b, ez, q2⟩ => ?_
  subst ez
  cases (show z = Value.bool b from rz)
  exact ⟨.bl b, H2, I2, rfl, q2⟩
end
end RK


set_option Elab.async false
set_option linter.all false
set_option maxRecDepth 100000
/-! what != makes of an own == -/
namespace RK
open PySem PySem.Spec PyProof.Rows L2
open PySem.W PySem.Calls in
theorem cmp_neOwn {prog : Program} {w : World} {A : Around} {E : Value → Shared → Prop} {Q : Value → Shared → Prop} {s : Shared} {K : Frag} {x C f : Addr} {ox : Obj} {od : Option Obj} {b tb : Value} (hu : A.units + 1 < cLine) (X : K.In s.heap) (I : InstAt s.heap x ox C od)
    (lt : Looks (model prog w) s.heap (typeOf b) tb) (hn : notFirst K C tb = true) (hne : findIn K (.ref C) "__ne__" = some (some (.builtin "object.__ne__"))) (heq : findIn K (.ref C) "__eq__" = some (some (.ref f)))
    (hf : typeIn K (.ref f) = some (.type "function")) (so : subIn K (.ref C) (.type "object") = some true)
    (h : wpAny (model prog w) A.in1 (call (.ref f) [.ref x, b]) (fun v s' => ∃ k, v = .bool k ∧ Q (.bool !k) s') E s) : wpAny (model prog w) A (richCompare .NotEq (.ref x) b) Q E s := by
  unfold richCompare
  refine wpAny_holding (wpAny_bind (wpAny_cRoomFor (by omega) ?_))
  rw [oneThing_ref]
  dsimp only
  have e : cmpInfo CmpOp.NotEq = ("!=", (Str.ofString "__ne__" : Str), (Str.ofString "__ne__" : Str)) := rfl
  rw [e]
  dsimp only
  obtain ⟨hp, g, dr, t, os⟩ := s
  have core : wpAny (model prog w) A (tryCompare (.ref x) "__ne__" b) (fun r s' => ∃ k, r = some (Value.bool k) ∧ Q (.bool k) s') E ⟨hp, g, dr, t, os⟩ := by
    unfold tryCompare callSpecialIfBound?
    refine wpAny_bind (wpAny_holding ?_)
    unfold bindSpecialIfBound? specialOf
    refine wpAny_bind (wpAny_bind (wpAny_bind (I.type.at ((looks_findIn (M := model prog w) X hne).at ?_))))
    have bd : bindSpecial (.builtin "object.__ne__") (.ref x) = pure (.builtin "object.__ne__", [.ref x]) := PySem.F.slot_object_ne.bind (.ref x)
    have inner : wpAny (model prog w) A (call (.builtin "object.__ne__") [.ref x, b]) (fun v s' => ∃ k, v = .bool k ∧ Q (.bool k) s') E ⟨hp, g, dr, t, os⟩ := by
      have sb : Looks (model prog w) hp (isInstance (.ref x) (.type "object")) true := (I.type (M := model prog w)).andThen (looks_subIn X so)
      refine wpAny_call (codeAny_call_builtin (by decide +kernel) PySem.F.entry_object_ne
        (@check_slot (model prog w) _ _ ⟨hp, g, dr, t, os⟩ "object.__ne__" "object" "__ne__" (.ref x) [b] [] _ (by decide +kernel) (by decide +kernel) sb (PySem.F.args_object_ne_2 (.ref x) b) ?_))
      unfold Builtin.«object.__ne__»
      refine wpAny_bind (wpAny_of_eq (a := ((Value.ref x : Value), [b])) (by first | rfl | (simp only [slotArgs]; rfl)) ?_)
      dsimp only
      refine wpAny_bind (wpAny_cRoomFor hu (wpAny_bind (ifBound_K X I heq (beq_iff_eq.mpr hf) (thn h fun v s' ⟨k, hv, hq⟩ => ?_))))
      subst hv
      dsimp only
      refine wpAny_bind (wpAny_of_eq (a := k) (by rfl) ?_)
      exact wpAny_pure ⟨!k, rfl, hq⟩
    dsimp only
    rw [bd]
    refine wpAny_bind (wpAny_askSetting (wpAny_ite_split (fun _ => ?_) (fun _ => ?_)))
    · refine wpAny_of_eq (a := some (Value.builtin "object.__ne__", [Value.ref x])) (by rfl) ?_
      refine wpAny_bind (thn inner fun v s' ⟨k, hv, hq⟩ => ?_)
      subst hv
      exact wpAny_pure (wpAny_pure ⟨k, rfl, hq⟩)
    · refine wpAny_of_eq (a := some (Value.builtin "object.__ne__", [Value.ref x])) (by rfl) ?_
      refine wpAny_bind (thn inner fun v s' ⟨k, hv, hq⟩ => ?_)
      subst hv
      exact wpAny_pure (wpAny_pure ⟨k, rfl, hq⟩)
  have fin : ∀ {R : Option Value → Sem Value}, (∀ v, R (some v) = pure v) → wpAny (model prog w) A (tryCompare (.ref x) "__ne__" b >>= R) Q E ⟨hp, g, dr, t, os⟩ := fun {R} hR => by
    refine wpAny_bind (thn core fun r s' ⟨k, hr, hq⟩ => ?_)
    subst hr
    rw [hR]
    exact wpAny_pure hq
  refine wpAny_bind (I.type.at (wpAny_bind (lt.at ?_)))
  unfold notFirst at hn
  by_cases ht : tb = .ref C
  · subst ht
    rw [if_neg (by simp)]
    refine wpAny_bind (wpAny_pure ?_)
    rw [if_neg Bool.false_ne_true]
    exact fin fun _ => rfl
  · have hs : subIn K tb (.ref C) = some false := by
      rw [Bool.or_eq_true, beq_iff_eq, beq_iff_eq] at hn
      exact hn.resolve_left ht
    rw [if_pos (by simp; exact fun z => ht z.symm)]
    refine wpAny_bind ((looks_subIn (M := model prog w) X hs).at ?_)
    rw [if_neg Bool.false_ne_true]
    exact fin fun _ => rfl
section
variable {X : Cx} {CXt : CXT} {k : Nat} {f C : Addr} {fd : FuncData} {ps : List Str} {sp : Sp}
theorem op_neOwn {E : XK} (F : FnOk X.prog X.w X.K X.mg X.base CXt k f fd ps sp) (hr : Room (k + 1) X.A) (hb : L2.Binds X.K fd ps []) (hx : Passes CXt X E)
    (hne : PySem.W.findIn X.K (.ref C) "__ne__" = some (some (.builtin "object.__ne__"))) (hs : PySem.W.findIn X.K (.ref C) "__eq__" = some (some (.ref f))) (hf : PySem.W.isFn X.K (.ref f) = true)
    (so : PySem.W.subIn X.K (.ref C) (.type "object") = some true) : OpR X (compareOp .NotEq) (rOwnEq X.K C sp E true) := by
  intro pins s σ H x y v u Q I rx ry ⟨a, dx, fs, T, ex, ha, hT, hn, q⟩
  subst ex
  cases (show v = Value.ref a from rx)
  obtain ⟨od, hi, _⟩ := ins_look (I.hok a _ ha)
  obtain ⟨m, fr⟩ := I.fr
  have r1 : Room k X.A.in1 := ⟨hr.hd, by have := hr.dp; show X.A.depth + 3 * k + 5 < _; omega, by have := hr.un; show X.A.units + 1 + 16 * k + 200 < _; omega⟩
  have hu1 : X.A.units + 1 < cLine := by have := hr.un; omega
  refine PySem.W.cmp_ofNotEq (cmp_neOwn hu1 I.kIn hi (hT.looks I.hok ry) hn hne hs (beq_iff_eq.mp hf) so ?_)
  have e0 : Env0 X.prog X.w X.K X.mg X.base X.A.in1 X.stack s H := by
    have := I.env0
    exact ⟨this.frames, this.mod, this.bs, this.bsz, this.funs, this.frf, this.hok, this.bare⟩
  have hv : Vals [.ref a, y] [Value.ref a, u] := .cons rx (.cons ry .nil)
  have hl : ([Value.ref a, u] ++ []).length = ps.length := F.len _ _ _ _ q
  have b := hb s [Value.ref a, u] I.kIn hl
  refine wpAny_call (codeAny_mono (F.run X.A.in1 X.stack s H ⟨[Value.ref a, u], []⟩ ([Value.ref a, u] ++ []) [.ref a, y] _ E r1 e0 b hv q) ?_)
  intro r s' hq
  match r, hq with
  | .error e, hq => exact hx pins σ H s e s' I hq
  | .ok (.ret z), hq =>
    obtain ⟨vz, H2, I2, rz, k, ez, q2⟩ := I.after hq
    subst ez
    cases (show z = Value.bool k from rz)
    exact ⟨k, rfl, .bl (!k), H2, I2, rfl, q2⟩
end
end RK
namespace RK
open PySem PySem.Spec PyProof.Rows L2
/-- a class's own == (and no !=), in one piece -/
structure Ce (P : Program) (w : World) (K : PySem.W.Frag) (mg : Str → Option Value) (base : Heap) (CXt : CXT) (k : Nat) (C : Addr) (ps : List Str) (sp : Sp) : Prop where
  ex : ∃ (f : Addr) (fd : FuncData), FnOk P w K mg base CXt k f fd ps sp ∧ L2.Binds K fd ps [] ∧ PySem.W.findIn K (.ref C) "__eq__" = some (some (.ref f)) ∧ PySem.W.isFn K (.ref f) = true ∧
    PySem.W.findIn K (.ref C) "__ne__" = some (some (.builtin "object.__ne__")) ∧ PySem.W.subIn K (.ref C) (.type "object") = some true
section
variable {X : Cx} {CXt : CXT} {j k : Nat} {C : Addr} {ps : List Str} {sp : Sp} {E : XK}
theorem op_eqO (c : Ce X.prog X.w X.K X.mg X.base CXt k C ps sp) (hr : Room j X.A) (hk : k + 1 ≤ j) (hx : Passes CXt X E) : OpR X (compareOp .Eq) (rOwnEq X.K C sp E false) := by
  obtain ⟨f, fd, F, b, h1, h2, _, _⟩ := c.ex
  exact op_eqOwn F (hr.mono (by omega)) b hx (by have := hr.un; omega) h1 h2
theorem op_neO (c : Ce X.prog X.w X.K X.mg X.base CXt k C ps sp) (hr : Room j X.A) (hk : k + 1 ≤ j) (hx : Passes CXt X E) : OpR X (compareOp .NotEq) (rOwnEq X.K C sp E true) := by
  obtain ⟨f, fd, F, b, h1, h2, h3, h4⟩ := c.ex
  exact op_neOwn F (hr.mono hk) b hx h3 h1 h2 h4
end
end RK


set_option Elab.async false
set_option linter.all false
set_option maxRecDepth 100000
set_option maxHeartbeats 4000000
/-! own errors as values: made by place or by keyword, their field, isinstance of them -/
namespace PySem
namespace RKE
open PySem.HandSPX
section
variable {M : Model} {prog : Program} {w : World} {A : Around} {E : Value → Shared → Prop} {R : Result → Shared → Prop} {hp : Heap} {gs : Array GenState} {dr : Drawn} {tk : Nat} {os : OsState}
variable {nm q : Str} {C N : Addr} {bs bm bb : List Value} {hdct : Bool} {sn : List Str} {sub : List Value} {ab : Bool} {col : Option Bool} {dd : Option Addr} {k0 k1 k2 k3 k5 : Option Value} {B ni ii : String} {kw : List (Str × Value)} {Q1 : Unit → Shared → Prop}
/-- the class, called with keywords alone: __new__'s arguments are looked at -/
theorem kw_check (F : ExcBaseFacts B ni ii bb) (has : ∀ T : String, bm.contains (.type T) = bb.contains (.type T)) (oC : hp.get? C = some (excClassObj nm q C N bs bm hdct sn sub ab col dd k0 k1 k2 k3 k5 ni)) (go : Q1 () ⟨hp, gs, dr, tk, os⟩) :
    wpAny M A (checkBuiltinCall ni ⟨[.ref C], kw⟩) Q1 E ⟨hp, gs, dr, tk, os⟩ := by
  have isB : (Value.ref C :: bm).contains (.type B) = true := (List.contains_cons).trans (by rw [has, F.hasB, Bool.or_true])
  have nostar := F.noStar
  simp only [checkBuiltinCall, F.newKind, F.newSplit, F.newRow]
  repeat (first | refine wpAny_loadPart_at oC ?_ | (refine wpAny_isSubtype_exc oC ?_; rw [isB]) | refine wpAny_staticBase_exc oC ?_ | refine wpAny_madeBy_exc oC ?_ | simp only [bne_self_eq_false, Bool.false_eq_true, if_false] | wp_step)
  exact go
theorem kw_new (F : ExcBaseFacts B ni ii bb) (has : ∀ T : String, bm.contains (.type T) = bb.contains (.type T)) (oC : hp.get? C = some (excClassObj nm q C N bs bm hdct sn sub ab col dd k0 k1 k2 k3 k5 ni))
    (go : R (.ok (.ret (.ref (hp.objs.size + 1)))) ⟨(hp.push { cls := .type "tuple", data := .seq #[] }).push { cls := .ref C, data := .fields #[.ref hp.objs.size, .none, .none, .none, .bool false, .none] }, gs, dr, tk, os⟩) (k : Str) (v : Value) :
    codeAny (model prog w) A (.builtin ni ⟨[.ref C], [(k, v)]⟩) R ⟨hp, gs, dr, tk, os⟩ := by
  have fin := F.ends
  have isB : (Value.ref C :: bm).contains (.type B) = true := (List.contains_cons).trans (by rw [has, F.hasB, Bool.or_true])
  have isA : (Value.ref C :: bm).contains (.type "AttributeError") = false := (List.contains_cons).trans (by rw [has, F.noAttr]; rfl)
  have isN : (Value.ref C :: bm).contains (.type "NameError") = false := (List.contains_cons).trans (by rw [has, F.noName]; rfl)
  refine codeAny_builtinAt F.entry ?_
  unfold Builtin.«BaseException.__new__»
  refine wpAt_bind ?_
  show wpAt _ _ _ (stack >>= _) _ _ _
  refine wpAt_bind (wpAt_stack fun _ _ => wpAt_of_wpAny ?_)
  wp_walk
  refine wpAt_of_wpAny ?_
  rw [F.owner]
  repeat (first | with_reducible refine wpAny_madeHere_exc F.canon oC ?_ | with_reducible refine wpAny_loadPart_at oC ?_ | (with_reducible refine wpAny_isSubtype_exc oC ?_; first | rw [isB] | rw [isA] | rw [isN]) | wp_step)
  show R _ _
  rw [Heap.size_push]
  exact go
/-- type.__call__ of such a class with one keyword -/
theorem kw_type (F : ExcBaseFacts B ni ii bb) (has : ∀ T : String, bm.contains (.type T) = bb.contains (.type T)) {fi : Addr} {Qf : Fin → Shared → Prop} {k : Str} {v : Value} (oC : hp.get? C = some (excClassObj nm q C N bs bm hdct sn sub ab col dd k0 k1 k2 k3 k5 ni))
    (lk : W.Looks (model prog w) hp (typeLookup (.ref C) "__init__") (some (.ref fi))) (bd : ∀ self, W.Looks (model prog w) hp (bindSpecial (.ref fi) self) (.ref fi, [self]))
    (go : codeAny (model prog w) A (.call (.ref fi) ⟨[.ref (hp.objs.size + 1)], [(k, v)]⟩) (fun r sx => match r with | .ok (.ret u) => u = .none ∧ Qf (.done (.ret (.ref (hp.objs.size + 1)))) sx | .ok _ => False | .error e => E e sx)
      ⟨(hp.push (W.kdv_tup [])).push (excO C hp.objs.size), gs, dr, tk, os⟩) :
    wpAny (model prog w) A (Builtin.«type.__call__» ⟨[.ref C], [(k, v)]⟩) Qf E ⟨hp, gs, dr, tk, os⟩ := by
  repeat (first | with_reducible refine wpAny_loadPart_at oC ?_ | with_reducible refine wpAny_madeBy_exc oC ?_ | wp_step)
  refine codeAny_call_builtin_code (Code.quiet_builtin _ F.quiet) (kw_check F has oC (kw_new F has oC ?_ k v))
  show wpAny _ _ _ _ _ _
  have stay : ∀ b o, hp.get? b = some o → ((hp.push (W.kdv_tup [])).push (excO C hp.objs.size)).get? b = some o := fun _ _ e => Heap.get?_push_of_some _ (Heap.get?_push_of_some _ e)
  have oC2 := stay _ _ oC
  have mine : ((hp.push (W.kdv_tup [])).push (excO C hp.objs.size)).get? (hp.objs.size + 1) = some (excO C hp.objs.size) := by heap_get
  have self_ : (Value.ref C :: bm).contains (.ref C) = true := by simp
  have lk2 := lk.keeps stay
  have bd2 := (bd (.ref (hp.objs.size + 1))).keeps stay
  unfold isInstance
  repeat (first | with_reducible refine wpAny_loadPart_at mine ?_ | (with_reducible refine wpAny_isSubtype_exc oC2 ?_; rw [self_]) | wp_step)
  show wpAny _ _ (typeLookup (.ref C) _) _ _ _
  refine lk2.at (wpAny_holding (wpAny_bind (bd2.at (wpAny_bind (wpAny_call (codeAny_mono go fun r sx got => ?_))))))
  rcases r with e | (u | _ | _ | _) <;> first | exact got | exact got.elim | skip
  obtain ⟨eu, go2⟩ := got
  subst eu
  first | exact wpAny_pure (wpAny_pure go2) | (wp_walk; exact go2)
theorem kw_call (F : ExcBaseFacts B ni ii bb) (has : ∀ T : String, bm.contains (.type T) = bb.contains (.type T)) {fi : Addr} {k : Str} {v : Value} (oC : hp.get? C = some (excClassObj nm q C N bs bm hdct sn sub ab col dd k0 k1 k2 k3 k5 ni))
    (lk : W.Looks (model prog w) hp (typeLookup (.ref C) "__init__") (some (.ref fi))) (bd : ∀ self, W.Looks (model prog w) hp (bindSpecial (.ref fi) self) (.ref fi, [self]))
    (go : codeAny (model prog w) (A.under (.builtin "type.__call__" ⟨[.ref C], [(k, v)]⟩)) (.call (.ref fi) ⟨[.ref (hp.objs.size + 1)], [(k, v)]⟩) (W.InitBack (hp.objs.size + 1) R)
      ⟨(hp.push (W.kdv_tup [])).push (excO C hp.objs.size), gs, dr, tk, os⟩) :
    codeAny (model prog w) A (.call (.ref C) ⟨[], [(k, v)]⟩) R ⟨hp, gs, dr, tk, os⟩ := by
  have g1 := tc_lookup
  have g2 := tc_bind (.ref C)
  have isT : (⟨hp, gs, dr, tk, os⟩ : Shared).TypeIs (.ref C) "type" := ⟨_, oC, rfl⟩
  refine codeAny_of_tree (show wpAny _ _ (callAny (.ref C) _) _ _ _ from ?_)
  repeat (any_goals (first | assumption | with_reducible refine wpAny_loadPart_at oC ?_ | wp_step))
  refine ⟨rfl, codeAny_call_builtin_at (Code.quiet_builtin _ (by decide +kernel)) entry_typeCall (wpAny_check_type_call_sub oC (kw_type F has oC lk bd (codeAny_mono go fun r sx got => ?_)))⟩
  rcases r with e | (u | _ | _ | _) <;> exact got
end
end RKE
end PySem


set_option Elab.async false
set_option linter.all false
set_option maxRecDepth 100000
set_option maxHeartbeats 4000000
/-! rules for own errors as values -/
namespace RK
open PySem PySem.Spec PyProof.Rows L2
/-- C(e): a new error with the field f -/
def tErr1 (C : Addr) (f : Str) (te : TE) : TE := fun σ H Q => te σ H fun v H1 => ∀ (a d : Addr) (H2 : Hp), L2.Same H1 H2 → H1 a = none → H1 d = none → H2 a = some (exo a C (some d)) → H2 d = some (exd d [(f, v)]) → Q (.ref a) H2
theorem ini_of {K : PySem.W.Frag} {f : Str} {C a : Addr} {H1 : Hp} {v : V} {Q : VK} (T : OexC K C) (no : PySem.W.findIn K (.ref C) f = some none) (ha : H1 a = none)
    (q : ∀ (a d : Addr) (H2 : Hp), L2.Same H1 H2 → H1 a = none → H1 d = none → H2 a = some (exo a C (some d)) → H2 d = some (exd d [(f, v)]) → Q (.ref a) H2) :
    spIni K f [.ref a, v] (upd H1 a (exo a C none)) (fun u H2 => u = .non ∧ Q (.ref a) H2) (fun _ _ _ => False) := by
  refine ⟨a, C, v, rfl, T, no, upd_same, fun dx hdx hne => ⟨rfl, q a dx _ ?_ ha ?_ upd_same ?_⟩⟩
  · intro b u e
    have hb := ne_of_none e ha
    rw [upd_ne hb]
    have hd : b ≠ dx := fun z => by
      rw [z] at e
      rw [upd_ne hne] at hdx
      rw [e] at hdx
      cases hdx
    rw [upd_ne hd, upd_ne hb]
    exact e
  · rw [upd_ne hne] at hdx
    exact hdx
  · rw [upd_ne hne, upd_same]
/-- an error as it is tracked: its class, its fields -/
def ErrAt (H : Hp) (a C : Addr) (fs : List (Str × V)) : Prop := ∃ d, H a = some (exo a C (some d)) ∧ H d = some (exd d fs)
theorem ErrAt.same {H H' : Hp} {a C : Addr} {fs : List (Str × V)} (S : L2.Same H H') (h : ErrAt H a C fs) : ErrAt H' a C fs := by
  obtain ⟨d, e1, e2⟩ := h
  exact ⟨d, S _ _ e1, S _ _ e2⟩
section
variable {X : Cx} {CXt : CXT} {C fI : Addr} {fd : FuncData} {f x : Str} {p pos : Pos} {k : Nat} {e : Expr} {te : TE} {kws : List Keyword} {tk : TA}
/-- the heap at the moment at which __init__ is called -/
theorem err_laid {pins : List (Addr × Obj)} {σ : L2.St} {H1 : Hp} {hp : Heap} {g : Array GenState} {dr : Drawn} {t : Nat} {os : OsState} {us : List Value} (I1 : L2.Inv X pins σ H1 ⟨hp, g, dr, t, os⟩) :
    L2.Inv X pins σ (upd H1 (hp.objs.size + 1) (exo (hp.objs.size + 1) C none)) ⟨(hp.push (PySem.W.kdv_tup us)).push (PySem.HandSPX.excO C hp.objs.size), g, dr, t, os⟩ := by
  have got : ((hp.push (PySem.W.kdv_tup us)).push (PySem.HandSPX.excO C hp.objs.size)).get? (hp.objs.size + 1) = some (PySem.HandSPX.excO C hp.objs.size) := by heap_get
  exact I1.laid (t' := t) (a := hp.objs.size + 1) (fun b o z => Heap.get?_push_of_some _ (Heap.get?_push_of_some _ z)) (Nat.le_succ _) (exo_ok got)
def errQ (C : Addr) (f : Str) (Q : VK) : List V → Hp → Prop := fun vs H1 => match vs with
  | [v] => ∀ (a d : Addr) (H2 : Hp), L2.Same H1 H2 → H1 a = none → H1 d = none → H2 a = some (exo a C (some d)) → H2 d = some (exd d [(f, v)]) → Q (.ref a) H2
  | _ => False
theorem errQ_one {Q : VK} {vs : List V} {H1 : Hp} (h : errQ C f Q vs H1) : ∃ v, vs = [v] ∧ ∀ (a d : Addr) (H2 : Hp), L2.Same H1 H2 → H1 a = none → H1 d = none → H2 a = some (exo a C (some d)) → H2 d = some (exd d [(f, v)]) → Q (.ref a) H2 :=
  match vs, h with
  | [v], h => ⟨v, rfl, h⟩
theorem pe_err1 (T : ErrC X.K X.mg x f C fI) (F1 : FnOk X.prog X.w X.K X.mg X.base CXt k fI fd ["self", f] (spIni X.K f)) (hr : Room (k + 1) X.A) (hb : L2.Binds X.K fd ["self", f] []) (hx : Passes CXt X (fun _ _ _ => False)) (he : PE X e te) (hg : Gl X x := by rfl)
    (hdb : (x == ("__debug__" : Str)) = false := by decide) (hst : starEach [e] X.env = (false, eval e X.env) :: starEach [] X.env := by rfl) (hpl : (backTo pos (starEach [] X.env)).any (·.1) = false := by rfl) :
    PE X (.Call (.Name x p) [e] [] pos) (tErr1 C f te) := by
  refine ⟨fun pins s σ H Q I h => ?_⟩
  obtain ⟨nm, q, N, bs, bm, sn, sub, ab, col, dd, k0, k1, k2, k3, k5, oC, mro⟩ := T.oex.cls
  refine wpAny_Call_Name_kw (ld_glob I hg T.gC ?_ hdb)
  have args : PA X [e] (tCons te tNil) := pa_cons he pa_nil (hs := hst)
  refine PySem.W.callWith_K (h₀ := X.base) I.ok.mod.kin T.oex.kC (thn (args.run pos pins s σ H (errQ C f Q) I h) fun us s1 ⟨vs, H1, I1, r1, q1⟩ => ⟨I1.kIn, ?_⟩) hst hpl
  · obtain ⟨v, rfl, q1⟩ := errQ_one q1
    show wpAny _ _ (call (.ref C) us) _ _ _
    obtain ⟨hp, g, dr, t, os⟩ := s1
    have hn : H1 (hp.objs.size + 1) = none := I1.hok.fresh (Nat.le_succ _)
    have hq := ini_of T.oex T.no hn q1
    have I2 := err_laid (C := C) (us := us) I1
    have r2 : Vals (V.ref (hp.objs.size + 1) :: [v]) (Value.ref (hp.objs.size + 1) :: us) := .cons rfl r1
    have ul : us.length = 1 := r1.length.symm
    refine wpAny_call (PySem.HandSPX.call_own F.excBase_ValueError (fun Y => PySem.HandSPX.refsVE_contains Y bm mro) (I1.kIn _ _ oC) (PySem.W.looks_findIn I1.kIn T.ini) (fun self => PySem.W.bind_fn I1.kIn self T.tyI) (by rw [ul, sizeLine_eq]; omega)
      (codeAny_mono (F1.run _ X.stack _ _ ⟨Value.ref (hp.objs.size + 1) :: us, []⟩ (Value.ref (hp.objs.size + 1) :: us ++ []) _ _ (fun _ _ _ => False) (hr.make C us []) (I2.env0.make C us []) (hb _ (Value.ref (hp.objs.size + 1) :: us) I2.kIn (by simp [ul])) (by rw [List.append_nil]; exact r2) hq) fun r s' got => ?_))
    cases r with
    | error er => exact hx pins σ _ _ er s' I2 got
    | ok fl =>
      cases fl with
      | ret u =>
        obtain ⟨vz, H3, I3, rv, ev, q3⟩ := I2.after got
        subst ev
        exact ⟨rv, ⟨V.ref (hp.objs.size + 1), H3, I3, rfl, q3⟩⟩
      | next => exact got.elim
      | brk => exact got.elim
      | cont => exact got.elim
/-- the same by its keyword -/
theorem pe_errK (T : ErrC X.K X.mg x f C fI) (F1 : FnOk X.prog X.w X.K X.mg X.base CXt k fI fd ["self", f] (spIni X.K f)) (hr : Room (k + 1) X.A) (hb : KBinds X.K fd ["self", f] [f] kwApp kwApp) (hx : Passes CXt X (fun _ _ _ => False)) (hkw : PK X kws (tCons te tNil)) (hg : Gl X x := by rfl)
    (hall : (backToKw pos (keywordEach kws X.env)).all (·.1.isSome) = true := by rfl) (hks : (backToKw pos (keywordEach kws X.env)).filterMap (·.1) = [f] := by rfl) (hdb : (x == ("__debug__" : Str)) = false := by decide)
    (hpl : ((backTo pos (starEach [] X.env)).any (·.1) || (backToKw pos (keywordEach kws X.env)).any (·.1.isNone)) = false := by rfl) :
    PE X (.Call (.Name x p) [] kws pos) (tErr1 C f te) := by
  refine ⟨fun pins s σ H Q I h => ?_⟩
  obtain ⟨nm, q, N, bs, bm, sn, sub, ab, col, dd, k0, k1, k2, k3, k5, oC, mro⟩ := T.oex.cls
  refine wpAny_Call_Name_kw (ld_glob I hg T.gC ?_ hdb)
  refine PySem.W.callWith_KW0 (h₀ := X.base) I.ok.mod.kin T.oex.kC hall (thn (hkw.run pos pins s σ H (errQ C f Q) I h) fun us s1 ⟨vs, H1, I1, r1, q1⟩ => ⟨I1.kIn, ?_⟩) hpl
  obtain ⟨v, rfl, q1⟩ := errQ_one q1
  rw [hks]
  obtain ⟨u, rfl, ru⟩ : ∃ u, us = [u] ∧ RelV v u := by
    cases r1 with
    | cons a r => cases r; exact ⟨_, rfl, a⟩
  show wpAny _ _ (call (.ref C) [] [(f, u)]) _ _ _
  obtain ⟨hp, g, dr, t, os⟩ := s1
  have hn : H1 (hp.objs.size + 1) = none := I1.hok.fresh (Nat.le_succ _)
  have hq := ini_of T.oex T.no hn q1
  have I2 := err_laid (C := C) (us := []) I1
  have r2 : Vals (kwApp [V.ref (hp.objs.size + 1)] [v]) (kwApp [Value.ref (hp.objs.size + 1)] [u]) := .cons rfl (.cons ru .nil)
  refine wpAny_call (PySem.RKE.kw_call F.excBase_ValueError (fun Y => PySem.HandSPX.refsVE_contains Y bm mro) (I1.kIn _ _ oC) (PySem.W.looks_findIn I1.kIn T.ini) (fun self => PySem.W.bind_fn I1.kIn self T.tyI)
    (codeAny_mono (F1.run _ X.stack _ _ ⟨[Value.ref (hp.objs.size + 1)], [(f, u)]⟩ (kwApp [Value.ref (hp.objs.size + 1)] [u]) _ _ (fun _ _ _ => False) (hr.make C [] [(f, u)]) (I2.env0.make C [] [(f, u)]) (hb.to _ [Value.ref (hp.objs.size + 1)] [u] I2.kIn rfl) r2 hq) fun r s' got => ?_))
  cases r with
  | error er => exact hx pins σ _ _ er s' I2 got
  | ok fl =>
    cases fl with
    | ret u =>
      obtain ⟨vz, H3, I3, rv, ev, q3⟩ := I2.after got
      subst ev
      exact ⟨rv, ⟨V.ref (hp.objs.size + 1), H3, I3, rfl, q3⟩⟩
    | next => exact got.elim
    | brk => exact got.elim
    | cont => exact got.elim
end
/-! ### its field -/
def tErrF (K : PySem.W.Frag) (f : Str) (te : TE) : TE := fun σ H Q => te σ H fun x H1 => ∃ (a C : Addr) (fs : List (Str × V)) (v : V), x = .ref a ∧ XfC K C ∧ PySem.W.findIn K (.ref C) f = some none ∧ ErrAt H1 a C fs ∧ fs.lookup f = some v ∧ Q v H1
section
variable {X : Cx} {f : Str} {pos : Pos} {e : Expr} {te : TE}
/-- what the heap has of an error -/
theorem err_look {pins : List (Addr × Obj)} {σ : L2.St} {H : Hp} {s : Shared} {a C : Addr} {fs : List (Str × V)} (I : L2.Inv X pins σ H s) (h : ErrAt H a C fs) :
    ∃ (oe od : Obj), PySem.W.InstAt s.heap a oe C (some od) ∧ ∀ n, ∃ o, PySem.W.lookIn n od = some o ∧ RelO (fs.lookup n) o := by
  obtain ⟨d, e1, e2⟩ := h
  obtain ⟨t1, g1⟩ := exo_at I.hok e1
  obtain ⟨mA, ns, rel⟩ := exd_at I.hok e2
  obtain ⟨od, ho, hl⟩ := lookIn_ns ns
  exact ⟨_, od, ⟨g1, rfl, rfl, ho⟩, fun n => ⟨mA n, hl n, rel n⟩⟩
theorem pe_errF (K : PySem.W.Frag) (he : PE X e te) (hb : attributeBase e f X.env (eval e X.env) = eval e X.env := by rfl) (hK : X.K = K := by rfl) : PE X (.Attribute e f pos) (tErrF K f te) := by
  subst hK
  refine ⟨fun pins s σ H Q I h => attr_of hb (thn (he.run pins s σ H _ I h) fun u s1 ⟨x, H1, I1, rx, a, C, fs, v, ex, T, no, hE, l, q⟩ => ?_)⟩
  subst ex
  cases (show u = Value.ref a from rx)
  obtain ⟨oe, od, J, hl⟩ := err_look I1 hE
  obtain ⟨o, hlo, ro⟩ := hl f
  obtain ⟨u, hu, ru⟩ := RelO.some_of (v := v) (o := o) (by rw [← l]; exact ro)
  exact HandSPX.exc_get I1.kIn J T.ga T.gg T.exC (PySem.W.findObj_own T.hdC no rfl (by rw [hlo, hu])) (handed_of ru) ⟨v, H1, I1.tok _, ru, q⟩
end
/-! ### isinstance of it -/
def rIsX (K : PySem.W.Frag) : List V → Hp → VK → Prop := fun xs H Q => ∃ (a C : Addr) (c : V) (cv : Value) (b : Bool), xs = [.ref a, c] ∧ ClsV c cv ∧ ExcC K C ∧ ((∃ fs, ErrAt H a C fs) ∨ H a = some (ExO (.ref C) a)) ∧ PySem.W.kitOne K (.ref C) cv = some b ∧ Q (.bl b) H
theorem call_isX {X : Cx} : CallR X (.builtin "isinstance") (rIsX X.K) := by
  intro pins s σ H xs us Q I r h
  obtain ⟨a, C, c, cv, b, rfl, hcv, hC, hE, e, q⟩ := h
  obtain ⟨u1, u2, rfl, r1, r2⟩ := vals2 r
  cases (show u1 = Value.ref a from r1)
  have e2 := hcv.eq r2
  subst e2
  rcases hE with ⟨fs, hE⟩ | hE
  · obtain ⟨oe, od, J, _⟩ := err_look I hE
    exact PySem.W.kia_one (kit_err hC) I.kIn J e (fun z => nomatch z) fun tk => ⟨.bl b, H, I.kept (t' := tk) fun _ _ z => z, rfl, q⟩
  · obtain ⟨⟨oe, vs, ho, hz, hd, _⟩, _⟩ := I.hok a _ hE
    have J : PySem.W.InstAt s.heap a oe C none := by
      obtain ⟨oc, od, oda, osl⟩ := oe
      obtain ⟨h1, h2⟩ := hz
      dsimp only at h1 h2 hd
      subst h1 h2 hd
      exact ⟨ho, rfl, rfl, trivial⟩
    exact PySem.W.kia_one (PySem.W.handS_kitx_exc hC.hg hC.hk hC.hs hC.hd hC.ha hC.hn hC.ht hC.hm) I.kIn J e (fun z => nomatch z) fun tk => ⟨.bl b, H, I.kept (t' := tk) fun _ _ z => z, rfl, q⟩
/-- C(), an own error class without own __init__ -/
theorem pe_err0 {X : Cx} {C : Addr} {bmB : List Value} {B newId initId : String} {x : Str} {p pos : Pos} (F : ExcBaseFacts B newId initId bmB) (q : PySem.W.excIn X.K C bmB newId = true) (gC : X.mg x = some (.ref C)) (kC : PySem.W.keepIn X.K (.ref C) = true) (hg : Gl X x := by rfl)
    (hdb : (x == ("__debug__" : Str)) = false := by decide) : PE X (.Call (.Name x p) [] [] pos) (fun σ H Q => ∀ a, H a = none → Q (.ref a) (upd H a (ExO (.ref C) a))) := by
  refine ⟨fun pins s σ H Q I h => ?_⟩
  refine wpAny_Call_Name_kw (ld_glob I hg gC ?_ hdb)
  refine PySem.W.callWith_K0 I.kIn kC ?_
  show wpAny _ _ (call (.ref C) []) _ _ _
  obtain ⟨bm, N, nm, qn, bs, hdct, sn, sub, ab, col, dd, k0, k1, k2, k3, k5, mN, hC, hN, hni, T⟩ := exc_obj I.kIn q
  refine wpAny_call_exc_subT F T hC hN hni (fun hp a hm => ?_) (by show 0 ≤ sizeLine; exact Nat.zero_le _)
  have hn : H a = none := I.hok.gone hm.new
  obtain ⟨t, ht, _, _⟩ := hm.there
  exact ⟨.ref a, _, I.laidN hm.keeps hm.new hn (exO_ok ht ⟨rfl, rfl⟩ rfl rfl rfl (show 4 < 6 by decide)), rfl, h a hn⟩
end RK


set_option Elab.async false
set_option linter.all false
set_option maxRecDepth 100000
/-! a class called by keywords alone, whose __init__ may raise -/
namespace RK
open PySem PySem.Spec PyProof.Rows L2
def tMakeKS (C : Addr) (sp : Sp) (gV : List V → List V → List V) (E : L2.St → XK) (tk : TA) : TE := fun σ H Q => tk σ H fun zs H2 => ∀ x dx, H2 x = none → H2 dx = none → dx ≠ x →
  sp (gV [.ref x] zs) (upd (upd H2 dx (.own x)) x (.ins C dx [])) (fun v H3 => v = .non ∧ Q (.ref x) H3) (E σ)
/-- such a class, in one piece -/
structure Cck (P : Program) (w : World) (K : PySem.W.Frag) (mg : Str → Option Value) (base : Heap) (CXt : CXT) (k : Nat) (x : Str) (C : Addr) (ps ks : List Str) (gV : List V → List V → List V) (sp : Sp) : Prop where
  ex : ∃ (f : Addr) (fd : FuncData) (g : List Value → List Value → List Value), FnOk P w K mg base CXt k f fd ps sp ∧ mg x = some (.ref C) ∧ L2.Mk K C f ∧ KBinds K fd ps ks g gV
section
variable {X : Cx} {CXt : CXT} {j k : Nat} {C : Addr} {ps ks : List Str} {sp : Sp} {x : Str} {p pos : Pos} {kws : List Keyword} {tk : TA} {gV : List V → List V → List V}
theorem pe_makeKS {E : L2.St → XK} (c : Cck X.prog X.w X.K X.mg X.base CXt k x C ps ks gV sp) (hr : Room j X.A) (hk : k + 1 ≤ j) (hx : ∀ σ, PassesAt CXt X σ (E σ)) (hkw : PK X kws tk) (hg : Gl X x := by rfl)
    (hall : (backToKw pos (keywordEach kws X.env)).all (·.1.isSome) = true := by rfl) (hks : (backToKw pos (keywordEach kws X.env)).filterMap (·.1) = ks := by rfl) (hdb : (x == ("__debug__" : Str)) = false := by decide)
    (hpl : ((backTo pos (starEach [] X.env)).any (·.1) || (backToKw pos (keywordEach kws X.env)).any (·.1.isNone)) = false := by rfl) : PE X (.Call (.Name x p) [] kws pos) (tMakeKS C sp gV E tk) := by
  obtain ⟨f, fd, g, F, hm, M, hb⟩ := c.ex
  refine ⟨fun pins s σ H Q I h => wpAny_Call_Name_kw (ld_glob I hg hm ?_ hdb)⟩
  refine PySem.W.callWith_KW0 (h₀ := X.base) I.ok.mod.kin M.kp hall (thn (hkw.run pos pins s σ H _ I h) fun ws s2 ⟨zs, H2, I2, rz, q2⟩ => ⟨I2.kIn, ?_⟩) hpl
  rw [hks]
  have q := q2 (s2.heap.objs.size + 1) s2.heap.objs.size (I2.hok.fresh (Nat.le_succ _)) (I2.hok.fresh (Nat.le_refl _)) (Nat.ne_of_lt (Nat.lt_succ_self _))
  have I3 := Inv.made (C := C) I2
  have r1 : Vals [V.ref (s2.heap.objs.size + 1)] [Value.ref (s2.heap.objs.size + 1)] := .cons rfl .nil
  have r2 := hb.rel r1 rz
  have hl : (g [Value.ref (s2.heap.objs.size + 1)] ws).length = ps.length := r2.length.symm.trans (F.len _ _ _ _ q)
  refine wpAny_call (make_map (f := f) I2.kIn M.makes M.init (beq_iff_eq.mp M.fn) (codeAny_mono (F.run _ X.stack _ _ ⟨[Value.ref (s2.heap.objs.size + 1)], ks.zip ws⟩ (g [Value.ref (s2.heap.objs.size + 1)] ws) _ _ (E σ) ((hr.mono hk).make C [] (ks.zip ws))
    (I3.env0.make C [] (ks.zip ws)) (hb.to _ [Value.ref (s2.heap.objs.size + 1)] ws I3.kIn hl) r2 q) fun r s3 got => ?_))
  cases r with
  | error e => exact hx σ pins _ _ e s3 I3 got
  | ok fl =>
    cases fl with
    | ret u =>
      obtain ⟨v, H3, I4, rv, ev, q3⟩ := I3.after got
      subst ev
      exact ⟨rv, ⟨V.ref (s2.heap.objs.size + 1), H3, I4, rfl, q3⟩⟩
    | next => exact got.elim
    | brk => exact got.elim
    | cont => exact got.elim
end
end RK


set_option Elab.async false
set_option linter.all false
set_option maxRecDepth 100000
/-! texts in order; rooms, their outcomes and the rooms of an outcome -/
namespace RK
open PySem PySem.Spec PyProof.Rows L2
/-! ### texts in order -/
def ltS (a b : Str) : Prop := a.cps.toList < b.cps.toList
instance (a b : Str) : Decidable (ltS a b) := inferInstanceAs (Decidable (a.cps.toList < b.cps.toList))
theorem ltS_irrefl (a : Str) : ¬ ltS a a := List.lt_irrefl _
theorem ltS_trans {a b c : Str} (h : ltS a b) (k : ltS b c) : ltS a c := List.lt_trans h k
theorem str_ext {a b : Str} (h : a.cps.toList = b.cps.toList) : a = b := by
  cases a with
  | mk x =>
    cases b with
    | mk y =>
      congr 1
      exact Array.ext' h
theorem ltS_tri {a b : Str} (h : ¬ ltS a b) (k : ¬ ltS b a) : a = b := str_ext (List.le_antisymm (List.not_lt.mp k) (List.not_lt.mp h))
theorem ltS_asymm {a b : Str} (h : ltS a b) : ¬ ltS b a := fun k => ltS_irrefl a (ltS_trans h k)
theorem ltCps_iff : ∀ a b : List Nat, ltCps a b = true ↔ a < b
  | [], [] => by simp [ltCps]
  | [], _ :: _ => by simp [ltCps]
  | _ :: _, [] => by simp [ltCps]
  | a :: r, b :: t => by
    unfold ltCps
    rw [Bool.or_eq_true, Bool.and_eq_true, ltCps_iff r t, List.cons_lt_cons_iff]
    simp
/-- not falling -/
def LeS (a b : Str) : Prop := ¬ ltS b a
theorem LeS.trans {a b c : Str} (h : LeS a b) (k : LeS b c) : LeS a c := fun z => by
  by_cases e : ltS c b
  · exact k e
  · by_cases e2 : ltS b c
    · exact h (ltS_trans e2 z)
    · have := ltS_tri e e2
      subst this
      exact h z
theorem risingS_le : ∀ (p : Str) (l : List Str), risingS p l = true → (p :: l).Pairwise LeS
  | p, [], _ => by simp
  | p, x :: r, h => by
    have h : (!ltCps x.cps.toList p.cps.toList && risingS x r) = true := h
    rw [Bool.and_eq_true] at h
    have h1 : LeS p x := fun z => by
      have := (ltCps_iff _ _).mpr z
      rw [this] at h
      exact absurd h.1 (by decide)
    have ih := risingS_le x r h.2
    rw [List.pairwise_cons]
    refine ⟨fun y hy => ?_, ih⟩
    rcases List.mem_cons.mp hy with rfl | hy
    · exact h1
    · exact h1.trans ((List.pairwise_cons.mp ih).1 y hy)
theorem sortedS_le {l : List Str} (h : sortedS l = true) : l.Pairwise LeS := by
  cases l with
  | nil => exact List.Pairwise.nil
  | cons x r => exact risingS_le x r h
/-- rising without doubles -/
abbrev Asc (l : List Str) : Prop := l.Pairwise ltS
theorem asc_of {l : List Str} (h : sortedS l = true) (nd : l.Nodup) : Asc l := by
  have h1 := sortedS_le h
  clear h
  induction l with
  | nil => exact List.Pairwise.nil
  | cons x r ih =>
    rw [List.pairwise_cons] at h1
    rw [List.nodup_cons] at nd
    refine List.pairwise_cons.mpr ⟨fun y hy => ?_, ih nd.2 h1.2⟩
    by_cases e : ltS x y
    · exact e
    · exact absurd (ltS_tri e (h1.1 y hy)) (fun z => nd.1 (z ▸ hy))
theorem Asc.nodup {l : List Str} (h : Asc l) : l.Nodup := List.Pairwise.imp (S := fun a b : Str => a ≠ b) (fun {a b} hab e => ltS_irrefl b (by rw [e] at hab; exact hab)) h
theorem snoc_ind {α : Type} {P : List α → Prop} (h0 : P []) (h1 : ∀ l x, P l → P (l ++ [x])) (l : List α) : P l := by
  have key : ∀ m : List α, P m.reverse := by
    intro m
    induction m with
    | nil => exact h0
    | cons x m ih =>
      rw [List.reverse_cons]
      exact h1 _ _ ih
  have := key l.reverse
  rwa [List.reverse_reverse] at this
theorem asc_eq : ∀ {l m : List Str}, Asc l → Asc m → (∀ x, x ∈ l ↔ x ∈ m) → l = m
  | [], [], _, _, _ => rfl
  | [], y :: m, _, _, h => absurd ((h y).mpr List.mem_cons_self) List.not_mem_nil
  | x :: l, [], _, _, h => absurd ((h x).mp List.mem_cons_self) List.not_mem_nil
  | x :: l, y :: m, a, b, h => by
    replace a := List.pairwise_cons.mp a
    replace b := List.pairwise_cons.mp b
    have e : x = y := by
      rcases List.mem_cons.mp ((h x).mp List.mem_cons_self) with e | hx
      · exact e
      · rcases List.mem_cons.mp ((h y).mpr List.mem_cons_self) with e | hy
        · exact e.symm
        · exact absurd (a.1 y hy) (ltS_asymm (b.1 x hx))
    subst e
    congr 1
    refine asc_eq a.2 b.2 fun z => ⟨fun hz => ?_, fun hz => ?_⟩
    · rcases List.mem_cons.mp ((h z).mp (List.mem_cons_of_mem _ hz)) with e | hz'
      · exact absurd (e ▸ a.1 z hz) (ltS_irrefl x)
      · exact hz'
    · rcases List.mem_cons.mp ((h z).mpr (List.mem_cons_of_mem _ hz)) with e | hz'
      · exact absurd (e ▸ b.1 z hz) (ltS_irrefl x)
      · exact hz'
theorem perm_asc_eq {l m k : List Str} (a : l.Perm k) (sa : sortedS l = true) (b : m.Perm k) (sb : sortedS m = true) (nd : k.Nodup) : l = m :=
  asc_eq (asc_of sa (a.nodup_iff.mpr nd)) (asc_of sb (b.nodup_iff.mpr nd)) fun x => (a.mem_iff).trans b.mem_iff.symm
/-! ### texts in a list, as == finds them -/
theorem inV_str (x : Str) (ys : List Str) : inV (.str x) (ys.map V.str) = decide (x ∈ ys) := by
  unfold inV
  rw [List.any_map, Bool.eq_iff_iff, List.any_eq_true, decide_eq_true_eq]
  constructor
  · rintro ⟨y, hy, e⟩
    have e : (y == x) = true := e
    exact (beq_iff_eq.mp e) ▸ hy
  · intro h
    exact ⟨x, h, show (x == x) = true from beq_self_eq_true x⟩
theorem flat_strs (ys : List Str) : (ys.map V.str).all flatV = true := by rw [List.all_map]; simp [Function.comp_def, flatV]
theorem inV_int (x : Int) (ys : List Int) : inV (.int x) (ys.map V.int) = decide (x ∈ ys) := by
  unfold inV
  rw [List.any_map, Bool.eq_iff_iff, List.any_eq_true, decide_eq_true_eq]
  constructor
  · rintro ⟨y, hy, e⟩
    have e : (y == x) = true := e
    exact (beq_iff_eq.mp e) ▸ hy
  · intro h
    exact ⟨x, h, show (x == x) = true from beq_self_eq_true x⟩
theorem flat_ints (ys : List Int) : (ys.map V.int).all flatV = true := by rw [List.all_map]; simp [Function.comp_def, flatV]
/-! ### rooms -/
abbrev Rm := List Str
/-- a..z -/
def lowB (c : Nat) : Bool := decide (97 ≤ c) && decide (c ≤ 122)
def NameOk (x : Str) : Prop := 1 ≤ x.length ∧ x.length ≤ 5 ∧ ∀ c ∈ x.cps.toList, lowB c = true
def RoomOk (r : Rm) : Prop := 3 ≤ r.length ∧ r.length ≤ 5 ∧ (∀ x ∈ r, NameOk x) ∧ Asc r
/-- what two rooms share -/
def common (r s : Rm) : Rm := r.filter fun x => decide (x ∈ s)
/-- the outcomes with the numbers of their rooms, as they are met -/
def occs : Nat → List Rm → List (Str × Nat)
  | _, [] => []
  | n, r :: rs => r.map (fun x => (x, n)) ++ occs (n + 1) rs
/-- the outcomes in the order in which they are first met -/
def firsts (o : List (Str × Nat)) : List Str := o.foldl (fun acc p => if p.1 ∈ acc then acc else acc ++ [p.1]) []
def numsOf (o : List (Str × Nat)) (x : Str) : List Nat := (o.filter fun p => decide (p.1 = x)).map (·.2)
theorem firsts_snoc (o : List (Str × Nat)) (p : Str × Nat) : firsts (o ++ [p]) = if p.1 ∈ firsts o then firsts o else firsts o ++ [p.1] := by
  unfold firsts
  rw [List.foldl_append]
  rfl
theorem mem_firsts (o : List (Str × Nat)) (x : Str) : x ∈ firsts o ↔ x ∈ o.map (·.1) := by
  refine snoc_ind (P := fun o => x ∈ firsts o ↔ x ∈ o.map (·.1)) Iff.rfl (fun o p ih => ?_) o
  · rw [firsts_snoc, List.map_append, List.mem_append]
    split
    · rename_i h
      rw [ih]
      constructor
      · exact .inl
      · rintro (h1 | h1)
        · exact h1
        · have e : x = p.1 := by simpa using h1
          subst e
          exact ih.mp h
    · rw [List.mem_append, ih]
      simp
theorem nodup_firsts (o : List (Str × Nat)) : (firsts o).Nodup := by
  refine snoc_ind (P := fun o => (firsts o).Nodup) List.nodup_nil (fun o p ih => ?_) o
  · rw [firsts_snoc]
    split
    · exact ih
    · rename_i h
      rw [List.nodup_append]
      refine ⟨ih, by simp, fun a ha b hb => ?_⟩
      have e : b = p.1 := by simpa using hb
      rintro rfl
      exact h (e ▸ ha)
theorem numsOf_snoc (o : List (Str × Nat)) (p : Str × Nat) (x : Str) : numsOf (o ++ [p]) x = if p.1 = x then numsOf o x ++ [p.2] else numsOf o x := by
  unfold numsOf
  rw [List.filter_append, List.map_append]
  by_cases h : p.1 = x
  · rw [if_pos h]
    simp [h]
  · rw [if_neg h]
    simp [h]
theorem numsOf_none {o : List (Str × Nat)} {x : Str} (h : x ∉ o.map (·.1)) : numsOf o x = [] := by
  unfold numsOf
  rw [List.filter_eq_nil_iff.mpr fun p hp e => h (by rw [← of_decide_eq_true e]; exact List.mem_map_of_mem hp)]
  rfl
theorem numsOf_ne {o : List (Str × Nat)} {x : Str} (h : x ∈ o.map (·.1)) : numsOf o x ≠ [] := by
  obtain ⟨p, hp, rfl⟩ := List.mem_map.mp h
  unfold numsOf
  intro e
  rw [List.map_eq_nil_iff, List.filter_eq_nil_iff] at e
  exact e p hp (by simp)
theorem occs_snoc : ∀ (n : Nat) (rs : List Rm) (r : Rm), occs n (rs ++ [r]) = occs n rs ++ r.map (fun x => (x, n + rs.length))
  | n, [], r => by simp [occs]
  | n, s :: rs, r => by
    show s.map _ ++ occs (n + 1) (rs ++ [r]) = (s.map _ ++ occs (n + 1) rs) ++ _
    rw [occs_snoc (n + 1) rs r, List.append_assoc, List.length_cons]
    congr 3
    funext x
    congr 1
    omega
theorem occs_mem {n : Nat} {rs : List Rm} {x : Str} : x ∈ (occs n rs).map (·.1) ↔ ∃ r ∈ rs, x ∈ r := by
  induction rs generalizing n with
  | nil => simp [occs]
  | cons s rs ih =>
    show x ∈ (s.map (fun y => (y, n)) ++ occs (n + 1) rs).map (fun p : Str × Nat => p.1) ↔ _
    rw [List.map_append, List.mem_append, ih, List.map_map]
    simp
/-- the outcomes of rooms -/
def outsOf (rs : List Rm) : List Str := firsts (occs 0 rs)
/-- the numbers of the rooms of x -/
def placesOf (rs : List Rm) (x : Str) : List Nat := numsOf (occs 0 rs) x
theorem mem_outsOf {rs : List Rm} {x : Str} : x ∈ outsOf rs ↔ ∃ r ∈ rs, x ∈ r := (mem_firsts _ _).trans occs_mem
/-- the rooms of a book -/
structure RoomsOk (rs : List Rm) : Prop where
  few : 1 ≤ rs.length ∧ rs.length ≤ 10
  ok : ∀ r ∈ rs, RoomOk r
  one : rs.Pairwise (fun r s => (common s r).length ≤ 1)
  most : (outsOf rs).length ≤ 24
end RK


set_option Elab.async false
set_option linter.all false
set_option maxRecDepth 100000
set_option maxHeartbeats 4000000
/-! a book's rooms: what the package's own checks say of right ones -/
namespace K01
open PySem PySem.Spec PyProof.Rows L2 RK
def top (i : Nat) : Stmt := PySem.Challenge.pw_roomlooks_k01_books_refused_at_their_fir.main.body.getD i (.Pass ⟨0, 0, 0, 0⟩)
abbrev sName : Stmt := top 15
abbrev sAsc : Stmt := top 16
abbrev sIsRoom : Stmt := top 21
abbrev sCross : Stmt := top 22
abbrev sCommon : Stmt := top 23
abbrev sHomes : Stmt := top 24
/-- what the top has left of the package's books -/
structure TB (K : PySem.W.Frag) (mg : Str → Option Value) (CB : Addr) : Prop where
  cl : Cls K CB
  nR : NoAttr K CB "rooms"
  nH : NoAttr K CB "_homes"
  g_LETTERS : ∃ u, mg "LETTERS" = some u ∧ RelV (.str "abcdefghijklmnopqrstuvwxyz") u
  g_MOST_ROOMS : ∃ u, mg "MOST_ROOMS" = some u ∧ RelV (.int 10) u
  g_MOST_OUTCOMES : ∃ u, mg "MOST_OUTCOMES" = some u ∧ RelV (.int 24) u
  isi : mg "isinstance" = none
  str : mg "str" = none
  tuple : mg "tuple" = none
  len : mg "len" = none
  all : mg "all" = none
  any : mg "any" = none
  range : mg "range" = none
  enumerate : mg "enumerate" = none
  sorted : mg "sorted" = none
def spName : Sp := fun vs H Q _ => ∃ x : Str, vs = [.str x] ∧ NameOk x ∧ ∀ H', L2.Same H H' → Q (.bl true) H'
def spAsc : Sp := fun vs H Q _ => ∃ (t : Addr) (xs : List Str), vs = [.ref t] ∧ H t = some (.tup (xs.map V.str)) ∧ xs.length ≤ 100 ∧ Asc xs ∧ ∀ H', L2.Same H H' → Q (.bl true) H'
def spIsRoom : Sp := fun vs H Q _ => ∃ (t : Addr) (xs : List Str), vs = [.ref t] ∧ H t = some (.tup (xs.map V.str)) ∧ RoomOk xs ∧ ∀ H', L2.Same H H' → Q (.bl true) H'
def spCommon : Sp := fun vs H Q _ => ∃ (t u : Addr) (xs ys : List Str), vs = [.ref t, .ref u] ∧ H t = some (.tup (xs.map V.str)) ∧ H u = some (.tup (ys.map V.str)) ∧ xs.length ≤ 100 ∧
  ∀ (p : Addr) (H' : Hp), L2.Same H H' → H p = none → H' p = some (.lst ((common xs ys).map V.str)) → Q (.ref p) H'
/-- the rooms at some addresses -/
def RoomsIn (H : Hp) (rs : List (Addr × Rm)) : Prop := ∀ r ∈ rs, H r.1 = some (.tup (r.2.map V.str))
theorem RoomsIn.same {H H' : Hp} {rs : List (Addr × Rm)} (S : L2.Same H H') (h : RoomsIn H rs) : RoomsIn H' rs := fun r hr => S _ _ (h r hr)
def refsOf (rs : List (Addr × Rm)) : List V := rs.map fun r => V.ref r.1
def rmsOf (rs : List (Addr × Rm)) : List Rm := rs.map (·.2)
def spCross : Sp := fun vs H Q _ => ∃ (t e : Addr) (xs : Rm) (rs : List (Addr × Rm)), vs = [.ref t, .ref e] ∧ H t = some (.tup (xs.map V.str)) ∧ H e = some (.tup (refsOf rs)) ∧ RoomsIn H rs ∧ xs.length ≤ 100 ∧ rs.length ≤ 100 ∧
  (∀ r ∈ rs, (common xs r.2).length ≤ 1) ∧ ∀ H', L2.Same H H' → Q (.bl false) H'
/-- the dict of the numbers of the rooms of what has been met -/
def HomesAt (H : Hp) (D : Addr) (o : List (Str × Nat)) : Prop := ∃ kvs : List (Key × V), H D = some (.dK kvs) ∧ kvs.map (·.1) = (firsts o).map Sum.inr ∧
  ∀ x, (x ∈ firsts o → ∃ t : Addr, valV kvs (Sum.inr x) = some (.ref t) ∧ H t = some (.tup ((numsOf o x).map fun (n : Nat) => V.int (n : Int)))) ∧ (x ∉ firsts o → valV kvs (Sum.inr x) = none)
theorem HomesAt.same {H H' : Hp} {D : Addr} {o : List (Str × Nat)} (S : L2.Same H H') (h : HomesAt H D o) : HomesAt H' D o := by
  obtain ⟨kvs, e, k, v⟩ := h
  refine ⟨kvs, S _ _ e, k, fun x => ⟨fun hx => ?_, (v x).2⟩⟩
  obtain ⟨t, h1, h2⟩ := (v x).1 hx
  exact ⟨t, h1, S _ _ h2⟩
def spHomes : Sp := fun vs H Q _ => ∃ (R : Addr) (rs : List (Addr × Rm)), vs = [.ref R] ∧ H R = some (.tup (refsOf rs)) ∧ RoomsIn H rs ∧ rs.length ≤ 100 ∧ (∀ r ∈ rs, r.2.length ≤ 100) ∧
  ∀ (D : Addr) (H' : Hp), L2.Same H H' → H D = none → HomesAt H' D (occs 0 (rmsOf rs)) → Q (.ref D) H'
section
variable {P : Program} {w : World} {K : PySem.W.Frag} {mg : Str → Option Value} {base : Heap} {CB : Addr}
abbrev nName : List Str := ["value", "sign"]
theorem scName : FnScope nName ["value"] (defScope sName) := ⟨rfl, rfl, rfl, by decide +kernel, rfl, by decide +kernel, by decide +kernel⟩
theorem low_in {c : Nat} (h : lowB c = true) : decide (c ∈ ("abcdefghijklmnopqrstuvwxyz" : Str).cps.toList) = true := by
  have e : ("abcdefghijklmnopqrstuvwxyz" : Str).cps.toList = [97, 98, 99, 100, 101, 102, 103, 104, 105, 106, 107, 108, 109, 110, 111, 112, 113, 114, 115, 116, 117, 118, 119, 120, 121, 122] := by decide +kernel
  rw [e]
  unfold lowB at h
  rw [Bool.and_eq_true, decide_eq_true_eq, decide_eq_true_eq] at h
  rw [decide_eq_true_eq]
  have : c = 97 ∨ c = 98 ∨ c = 99 ∨ c = 100 ∨ c = 101 ∨ c = 102 ∨ c = 103 ∨ c = 104 ∨ c = 105 ∨ c = 106 ∨ c = 107 ∨ c = 108 ∨ c = 109 ∨ c = 110 ∨ c = 111 ∨ c = 112 ∨ c = 113 ∨ c = 114 ∨ c = 115 ∨ c = 116 ∨ c = 117 ∨ c = 118 ∨ c = 119 ∨ c = 120 ∨ c = 121 ∨ c = 122 := by omega
  simp only [List.mem_cons, List.not_mem_nil, or_false]
  exact this
theorem ok_name {f : Addr} {fd : FuncData} (F : Fun K "is_name" "is_name" sName f fd) (T : TB K mg CB) : FnOk P w K mg base CX0 1 f fd ["value"] spName := by
  refine F.ok scName (fun vs H Q E h => ?_) (fun cdv A outer s H vs Q E hr h => ?_)
  · obtain ⟨x, rfl, _⟩ := h
    rfl
  · obtain ⟨x, rfl, ⟨h1, h5, hc⟩, k⟩ := h
    refine ⟨_, (pss_cons (ps_if (PW.pt (pw_or (pt_not (pt_val (pe_callB (r := rIsi K) call_isi (by rfl) T.isi boot_isinstance (pa_cons (pv 0) (pa_cons (pe_bltn (v := .ty "str") (by rfl) T.str (by decide +kernel) rfl) pa_nil))))) (pw_or1 (pt_not (pt_chain op_le op_le pe_int (pe_callB call_len_str (by rfl) T.len PySem.boot_len (pa_cons (pv 0) pa_nil)) pe_int))))) (pss_one (ps_ret pe_bl)) pss_nil)
        (pss_one (ps_ret (pe_callB (r := rAll K) (cr_all rfl) (by rfl) T.all boot_all (pa_cons (pe_lc (own := [("sign", 1)]) (g := gName 1) (tt := tYes) rfl scName.nd (pi_str (pv 0)) (blkOk_by (N := nName) (sc := defScope sName) (by decide +kernel)) (fun _ _ _ _ _ => pg_name (i := 1) scName.nd rfl (Or.inl rfl)) (fun _ _ _ _ _ => pts_nil) (fun _ _ _ _ _ => (pe_cmpR op_in_sign (pv 1) (C8.pe_gc (by rfl) T.g_LETTERS) (by rfl)))) pa_nil))))), ?_⟩
    have hz : x.length ≤ sizeLine := Nat.le_trans h5 (by decide)
    refine ⟨_, rfl, _, .ty "str", _, _, true, rfl, .ty _, .base (.str x), kit_ty (by decide +kernel), true, rfl, ?_⟩
    refine iteF ⟨_, rfl, x, rfl, hz, _, _, rfl, rfl, true, congrArg V.bl (decide_eq_true (show (1 : Int) ≤ (x.length : Int) by omega)), ?_⟩
    refine iteT ⟨_, _, rfl, rfl, true, congrArg V.bl (decide_eq_true (show (x.length : Int) ≤ 5 by omega)), iteF ?_⟩
    refine ⟨_, rfl, x, rfl, fun D hD => ?_⟩
    refine lc_it (walk_str (z := x)) (fun i H' => L2.Same H H' ∧ H' D = some (.lst ((List.replicate i true).map V.bl))) ⟨RK.Same.upd hD, upd_same⟩ (fun _ _ _ _ => trivial) ?_ ?_
    · rintro i v H1 H2 hi ⟨S, e⟩ ⟨rfl, c, hcz, rfl⟩
      refine ⟨rfl, ?_⟩
      unfold tYes
      refine iteT ⟨_, rfl, c, _, rfl, rfl, _, e, ?_, RK.Same.updAt S hD, ?_⟩
      · rw [List.length_map, List.length_replicate]
        have : x.cps.size ≤ 5 := h5
        exact Nat.lt_of_lt_of_le (by omega : i < 100) (by decide)
      · rw [upd_same]
        have hm : c ∈ x.cps.toList := by
          rw [Array.mem_toList_iff]
          exact Array.mem_of_getElem? hcz
        have e1 : V.bl (decide (c ∈ ("abcdefghijklmnopqrstuvwxyz" : Str).cps.toList)) = V.bl true := by rw [low_in (hc c hm)]
        rw [e1, List.replicate_succ']
        simp
    · rintro H' ⟨S, e⟩
      refine ⟨D, _, rfl, SqL.of e, ?_⟩
      have ea : (List.replicate x.cps.size true).all id = true := by simp
      rw [ea]
      exact k H' S
abbrev nAsc : List Str := ["values", "k"]
theorem scAsc : FnScope nAsc ["values"] (defScope sAsc) := ⟨rfl, rfl, rfl, by decide +kernel, rfl, by decide +kernel, by decide +kernel⟩
theorem ok_asc {f : Addr} {fd : FuncData} (F : Fun K "is_ascending" "is_ascending" sAsc f fd) (T : TB K mg CB) : FnOk P w K mg base CX0 1 f fd ["values"] spAsc := by
  refine F.ok scAsc (fun vs H Q E h => ?_) (fun cdv A outer s H vs Q E hr h => ?_)
  · obtain ⟨t, xs, rfl, _⟩ := h
    rfl
  · obtain ⟨t, xs, rfl, ht, hl, ha, k⟩ := h
    refine ⟨_, (pss_one (ps_ret (pe_callB (r := rAll K) (cr_all rfl) (by rfl) T.all boot_all (pa_cons (pe_lc (own := [("k", 1)]) (g := gName 1) (tt := tYes) rfl scAsc.nd (pi_range2 (by rfl) T.range (pa_cons pe_int (pa_cons (pe_callB (r := rLenS K) call_lenS (by rfl) T.len PySem.boot_len (pa_cons (pv 0) pa_nil)) pa_nil))) (blkOk_by (N := nAsc) (sc := defScope sAsc) (by decide +kernel)) (fun _ _ _ _ _ => pg_name (i := 1) scAsc.nd rfl (Or.inl rfl)) (fun _ _ _ _ _ => pts_nil) (fun _ _ _ _ _ => (pe_cmpR op_lt_str (pe_ix (r := rIxT K) ix_tup (pv 0) (pe_op op_sub (pv 1) pe_int) (fun _ _ => rfl)) (pe_ix (r := rIxT K) ix_tup (pv 0) (pv 1) (fun _ _ => rfl)) (nomark _)))) pa_nil)))), ?_⟩
    refine ⟨_, rfl, t, _, rfl, .inr (SqT.of ht), 1, _, rfl, ⟨by decide, by decide, by rw [List.length_map]; omega, by rw [List.length_map]; omega⟩, fun D hD => ?_⟩
    refine lc_range (lo := 1) (fun i H' => L2.Same H H' ∧ H' D = some (.lst ((List.replicate i true).map V.bl))) ⟨RK.Same.upd hD, upd_same⟩ ?_ ?_
    · rintro i H' hi ⟨S, e⟩
      have hi' : i + 1 < xs.length := by
        rw [List.length_map] at hi
        omega
      have ht' := S _ _ ht
      have g0 : (xs.map V.str)[i]? = some (V.str xs[i]) := by rw [List.getElem?_map, List.getElem?_eq_getElem (by omega)]; rfl
      have g1 : (xs.map V.str)[i + 1]? = some (V.str xs[i + 1]) := by rw [List.getElem?_map, List.getElem?_eq_getElem hi']; rfl
      refine ⟨rfl, ?_⟩
      unfold tYes
      refine iteT ⟨_, rfl, _, rfl, _, _, rfl, rfl, t, _, _, _, rfl, rfl, SqT.of ht', at_of (by omega : (1 + (i : Int) - 1 : Int) = ((i : Nat) : Int)) g0, _, rfl, _, rfl, t, _, _, _, rfl, rfl, SqT.of ht', at_of (by omega : (1 + (i : Int) : Int) = ((i + 1 : Nat) : Int)) g1, _, _, rfl, rfl, _, e, ?_, RK.Same.updAt S hD, ?_⟩
      · rw [List.length_map, List.length_replicate]
        exact Nat.lt_of_lt_of_le (by omega : i < 101) (by decide)
      · rw [upd_same]
        have hlt : xs[i].cps.toList < xs[i + 1].cps.toList := List.pairwise_iff_getElem.mp ha i (i + 1) (by omega) hi' (by omega)
        rw [decide_eq_true hlt, List.replicate_succ']
        simp
    · rintro H' ⟨S, e⟩
      refine ⟨D, _, rfl, SqL.of e, ?_⟩
      have ea : (List.replicate (((xs.map V.str).length : Int) - 1).toNat true).all id = true := by simp
      rw [ea]
      exact k H' S
abbrev nIsRoom : List Str := ["value", "item"]
theorem scIsRoom : FnScope nIsRoom ["value"] (defScope sIsRoom) := ⟨rfl, rfl, rfl, by decide +kernel, rfl, by decide +kernel, by decide +kernel⟩
theorem ok_isRoom {f : Addr} {fd : FuncData} (F : Fun K "_is_room" "_is_room" sIsRoom f fd) (T : TB K mg CB) (c_is_name : Cl P w K mg base CX0 1 "is_name" ["value"] spName) (c_is_ascending : Cl P w K mg base CX0 1 "is_ascending" ["values"] spAsc) :
    FnOk P w K mg base CX0 2 f fd ["value"] spIsRoom := by
  refine F.ok scIsRoom (fun vs H Q E h => ?_) (fun cdv A outer s H vs Q E hr h => ?_)
  · obtain ⟨t, xs, rfl, _⟩ := h
    rfl
  · obtain ⟨t, xs, rfl, ht, ⟨h3, h5, hn, ha⟩, k⟩ := h
    refine ⟨_, (pss_cons (ps_if (PW.pt (pw_or (pt_not (pt_val (pe_callB (r := rIsi K) call_isi (by rfl) T.isi boot_isinstance (pa_cons (pv 0) (pa_cons (pe_bltn (v := .ty "tuple") (by rfl) T.tuple boot_tuple rfl) pa_nil))))) (pw_or1 (pt_not (pt_chain op_le op_le pe_int (pe_callB (r := rLenS K) call_lenS (by rfl) T.len PySem.boot_len (pa_cons (pv 0) pa_nil)) pe_int))))) (pss_one (ps_ret pe_bl)) pss_nil)
        (pss_one (ps_ret (pe_and (pe_callB (r := rAll K) (cr_all rfl) (by rfl) T.all boot_all (pa_cons (pe_lc (own := [("item", 1)]) (g := gName 1) (tt := tYes) rfl scIsRoom.nd (pi_tup (pv 0)) (blkOk_by (N := nIsRoom) (sc := defScope sIsRoom) (by decide +kernel)) (fun _ _ _ _ _ => pg_name (i := 1) scIsRoom.nd rfl (Or.inl rfl)) (fun _ _ _ _ _ => pts_nil) (fun _ _ _ _ _ => (pe_f c_is_name hr (by decide) pass0 (pa_cons (pv 1) pa_nil)))) pa_nil)) (pe_one (pe_f c_is_ascending hr (by decide) pass0 (pa_cons (pv 0) pa_nil))))))), ?_⟩
    refine ⟨_, rfl, _, .ty "tuple", _, _, true, rfl, .ty _, .base (.tup ht), kit_ty (by decide +kernel), true, rfl, ?_⟩
    refine iteF ⟨_, rfl, t, _, rfl, .inr (SqT.of ht), _, _, rfl, rfl, true, congrArg V.bl (decide_eq_true (show (3 : Int) ≤ ((xs.map V.str).length : Int) by rw [List.length_map]; omega)), ?_⟩
    refine iteT ⟨_, _, rfl, rfl, true, congrArg V.bl (decide_eq_true (show ((xs.map V.str).length : Int) ≤ 5 by rw [List.length_map]; omega)), iteF ?_⟩
    refine ⟨_, rfl, t, rfl, ⟨_, SqT.of ht⟩, fun D hD => ?_⟩
    refine lc_tup (K := K) (a := t) (xs := xs.map V.str) (fun i H' => L2.Same H H' ∧ H' D = some (.lst ((List.replicate i true).map V.bl))) ⟨RK.Same.upd hD, upd_same⟩ (fun i H' _ p => SqT.of (p.1 _ _ ht)) ?_ ?_
    · rintro i v H' hi ⟨S, e⟩
      obtain ⟨x, hx, rfl⟩ : ∃ x, xs[i]? = some x ∧ v = V.str x := by
        rw [List.getElem?_map] at hi
        cases e : xs[i]? with
        | none => rw [e] at hi; cases hi
        | some z => rw [e] at hi; exact ⟨z, rfl, (Option.some.inj hi).symm⟩
      have hil := (List.getElem?_eq_some_iff.mp hx).1
      refine ⟨rfl, ?_⟩
      unfold tYes
      refine iteT ⟨_, rfl, x, rfl, hn x (List.mem_of_getElem? hx), fun H2 S2 => ⟨_, S2 _ _ e, ?_, RK.Same.updAt (S.trans S2) hD, ?_⟩⟩
      · rw [List.length_map, List.length_replicate]
        exact Nat.lt_of_lt_of_le (by omega : i < 101) (by decide)
      · rw [upd_same, List.replicate_succ']
        simp
    · rintro H' ⟨S, e⟩
      refine ⟨D, _, rfl, SqL.of e, true, ?_, iteT ?_⟩
      · have ea : (List.replicate (xs.map V.str).length true).all id = true := by simp
        rw [ea]
      · exact ⟨_, rfl, t, xs, rfl, S _ _ ht, by omega, ha, fun H2 S2 => k H2 (S.trans S2)⟩
abbrev nCommon : List Str := ["room", "other", "outcome"]
theorem scCommon : FnScope nCommon ["room", "other"] (defScope sCommon) := ⟨rfl, rfl, rfl, by decide +kernel, rfl, by decide +kernel, by decide +kernel⟩
theorem common_take {xs ys : List Str} {i : Nat} {x : Str} (h : xs[i]? = some x) : common (xs.take (i + 1)) ys = if x ∈ ys then common (xs.take i) ys ++ [x] else common (xs.take i) ys := by
  unfold common
  rw [List.take_add_one, h, List.filter_append]
  by_cases hx : x ∈ ys
  · rw [if_pos hx]
    simp [hx]
  · rw [if_neg hx]
    simp [hx]
theorem ok_common {f : Addr} {fd : FuncData} (F : Fun K "_common" "_common" sCommon f fd) (T : TB K mg CB) : FnOk P w K mg base CX0 1 f fd ["room", "other"] spCommon := by
  refine F.ok scCommon (fun vs H Q E h => ?_) (fun cdv A outer s H vs Q E hr h => ?_)
  · obtain ⟨t, u, xs, ys, rfl, _⟩ := h
    rfl
  · obtain ⟨t, u, xs, ys, rfl, ht, hu, hl, k⟩ := h
    refine ⟨_, (pss_one (ps_ret (pe_lc (own := [("outcome", 2)]) (g := gName 2) rfl scCommon.nd (pi_tup (pv 0)) (blkOk_by (N := nCommon) (sc := defScope sCommon) (by decide +kernel)) (fun _ _ _ _ _ => pg_name (i := 2) scCommon.nd rfl (Or.inl rfl)) (fun _ _ _ _ _ => (pts_one (pt_cmpR (r := rIn K false) op_in_seq (pv 2) (pv 1) (by rfl)))) (fun _ _ _ _ _ => (pv 2))))), ?_⟩
    refine ⟨_, rfl, t, rfl, ⟨_, SqT.of ht⟩, fun D hD => ?_⟩
    refine lc_tup (K := K) (a := t) (xs := xs.map V.str) (fun i H' => L2.Same H H' ∧ H' D = some (.lst ((common (xs.take i) ys).map V.str))) ⟨RK.Same.upd hD, upd_same⟩ (fun i H' _ p => SqT.of (p.1 _ _ ht)) ?_ ?_
    · rintro i v H' hi ⟨S, e⟩
      obtain ⟨x, hx, rfl⟩ : ∃ x, xs[i]? = some x ∧ v = V.str x := by
        rw [List.getElem?_map] at hi
        cases e : xs[i]? with
        | none => rw [e] at hi; cases hi
        | some z => rw [e] at hi; exact ⟨z, rfl, (Option.some.inj hi).symm⟩
      refine ⟨rfl, _, rfl, _, rfl, u, _, rfl, .inr (SqT.of (S _ _ hu)), rfl, flat_strs ys, _, rfl, ?_⟩
      show if (inV (.str x) (ys.map V.str)) = true then _ else _
      rw [inV_str]
      have hc := common_take (ys := ys) hx
      refine ite2 (fun hb => ?_) (fun hb => ?_)
      · rw [if_pos (of_decide_eq_true hb)] at hc
        refine ⟨_, rfl, _, e, ?_, RK.Same.updAt S hD, ?_⟩
        · rw [List.length_map]
          have h1 : (common (xs.take i) ys).length ≤ (xs.take i).length := List.length_filter_le _ _
          have h2 := List.length_take_le' i xs
          exact Nat.lt_of_lt_of_le (by omega : _ < 101) (by decide)
        · rw [upd_same, hc, List.map_append]
          rfl
      · rw [if_neg (fun z => hb (decide_eq_true z))] at hc
        exact ⟨S, by rw [hc]; exact e⟩
    · rintro H' ⟨S, e⟩
      rw [List.length_map, List.take_length] at e
      exact k D H' S hD e
abbrev nCross : List Str := ["room", "earlier", "other"]
theorem scCross : FnScope nCross ["room", "earlier"] (defScope sCross) := ⟨rfl, rfl, rfl, by decide +kernel, rfl, by decide +kernel, by decide +kernel⟩
theorem ok_cross {f : Addr} {fd : FuncData} (F : Fun K "_crosses_twice" "_crosses_twice" sCross f fd) (T : TB K mg CB) (c__common : Cl P w K mg base CX0 1 "_common" ["room", "other"] spCommon) :
    FnOk P w K mg base CX0 2 f fd ["room", "earlier"] spCross := by
  refine F.ok scCross (fun vs H Q E h => ?_) (fun cdv A outer s H vs Q E hr h => ?_)
  · obtain ⟨t, e, xs, rs, rfl, _⟩ := h
    rfl
  · obtain ⟨t, e, xs, rs, rfl, ht, he, hR, hl, hl2, hc, k⟩ := h
    refine ⟨_, (pss_one (ps_ret (pe_callB (r := rAny K) (cr_any rfl) (by rfl) T.any (by decide +kernel) (pa_cons (pe_lc (own := [("other", 2)]) (g := gName 2) (tt := tYes) rfl scCross.nd (pi_tup (pv 1)) (blkOk_by (N := nCross) (sc := defScope sCross) (by decide +kernel)) (fun _ _ _ _ _ => pg_name (i := 2) scCross.nd rfl (Or.inl rfl)) (fun _ _ _ _ _ => pts_nil) (fun _ _ _ _ _ => (pe_cmpR op_gt (pe_callB (r := rLenS K) call_lenS (by rfl) T.len PySem.boot_len (pa_cons (pe_f c__common hr (by decide) pass0 (pa_cons (pv 0) (pa_cons (pv 2) pa_nil))) pa_nil)) pe_int (nomark _)))) pa_nil)))), ?_⟩
    refine ⟨_, rfl, e, rfl, ⟨_, SqT.of he⟩, fun D hD => ?_⟩
    refine lc_tup (K := K) (a := e) (xs := refsOf rs) (fun i H' => L2.Same H H' ∧ H' D = some (.lst ((List.replicate i false).map V.bl))) ⟨RK.Same.upd hD, upd_same⟩ (fun i H' _ p => SqT.of (p.1 _ _ he)) ?_ ?_
    · rintro i v H' hi ⟨S, ed⟩
      obtain ⟨r, hr', rfl⟩ : ∃ r, rs[i]? = some r ∧ v = V.ref r.1 := by
        unfold refsOf at hi
        rw [List.getElem?_map] at hi
        cases e : rs[i]? with
        | none => rw [e] at hi; cases hi
        | some z => rw [e] at hi; exact ⟨z, rfl, (Option.some.inj hi).symm⟩
      have hm := List.mem_of_getElem? hr'
      have hil := (List.getElem?_eq_some_iff.mp hr').1
      refine ⟨rfl, ?_⟩
      unfold tYes
      refine iteT ⟨_, rfl, _, rfl, t, r.1, xs, r.2, rfl, S _ _ ht, S _ _ (hR r hm), hl, fun p H2 S2 np hp => ?_⟩
      refine ⟨p, _, rfl, .inl (SqL.of hp), _, _, rfl, rfl, _, S2 _ _ ed, ?_, RK.Same.updAt (S.trans S2) hD, ?_⟩
      · rw [List.length_map, List.length_replicate]
        exact Nat.lt_of_lt_of_le (by omega : i < 101) (by decide)
      · rw [upd_same]
        have h1 := hc r hm
        have e1 : decide ((1 : Int) < (((common xs r.2).map V.str).length : Int)) = false := decide_eq_false (by rw [List.length_map]; omega)
        dsimp only
        rw [e1, List.replicate_succ']
        simp
    · rintro H' ⟨S, ed⟩
      refine ⟨D, _, rfl, SqL.of ed, ?_⟩
      have ea : (List.replicate (refsOf rs).length false).any id = false := by simp
      rw [ea]
      exact k H' S
/-! ### the rooms of each outcome -/
theorem homes_nil {H : Hp} {D : Addr} (h : H D = some (.dK [])) : HomesAt H D [] := ⟨[], h, rfl, fun x => ⟨fun hx => absurd hx (by simp [firsts]), fun _ => rfl⟩⟩
/-- one more: homes[x] = homes.get(x, ()) + (n,) -/
theorem homes_put {H H' : Hp} {D t : Addr} {kvs : List (Key × V)} {o : List (Str × Nat)} {x : Str} {n : Nat} (hD : H D = some (.dK kvs)) (hk : kvs.map (·.1) = (firsts o).map Sum.inr)
    (hv : ∀ x, (x ∈ firsts o → ∃ t : Addr, valV kvs (Sum.inr x) = some (.ref t) ∧ H t = some (.tup ((numsOf o x).map fun (n : Nat) => V.int (n : Int)))) ∧ (x ∉ firsts o → valV kvs (Sum.inr x) = none))
    (S : ∀ b u, H b = some u → b ≠ D → H' b = some u) (e' : H' D = some (.dK (putK kvs (Sum.inr x) (.ref t)))) (ht : H' t = some (.tup ((numsOf o x ++ [n]).map fun (n : Nat) => V.int (n : Int)))) : HomesAt H' D (o ++ [(x, n)]) := by
  refine ⟨_, e', ?_, fun y => ?_⟩
  · rw [firsts_snoc]
    by_cases hx : x ∈ firsts o
    · rw [if_pos hx]
      obtain ⟨t0, h0, _⟩ := (hv x).1 hx
      unfold putK
      have ha : (kvs.any fun kv => decide (kv.1 = Sum.inr x)) = true := by
        rw [valV_any, h0]
        rfl
      rw [if_pos ha, List.map_map, ← hk]
      refine List.map_congr_left fun kv _ => ?_
      show (if kv.1 = Sum.inr x then (kv.1, V.ref t) else kv).1 = kv.1
      split <;> rfl
    · rw [if_neg hx, putK_new _ ((hv x).2 hx), List.map_append, List.map_append, hk]
      rfl
  · have hput := valV_put kvs (Sum.inr x) (Sum.inr y) (.ref t)
    rw [firsts_snoc, numsOf_snoc, hput]
    by_cases hxy : x = y
    · subst hxy
      rw [if_pos rfl, if_pos rfl]
      refine ⟨fun _ => ⟨t, rfl, ht⟩, fun hn => ?_⟩
      exfalso
      split at hn
      · rename_i h
        exact hn h
      · exact hn (by simp)
    · rw [if_neg hxy, if_neg (fun z => hxy (Sum.inr.inj z).symm)]
      have hiff : y ∈ (if x ∈ firsts o then firsts o else firsts o ++ [x]) ↔ y ∈ firsts o := by
        split
        · exact Iff.rfl
        · rw [List.mem_append]
          simp [Ne.symm hxy]
      refine ⟨fun hy => ?_, fun hy => (hv y).2 (fun z => hy (hiff.mpr z))⟩
      obtain ⟨t0, h0, h1⟩ := (hv y).1 (hiff.mp hy)
      exact ⟨t0, h0, S _ _ h1 (ne_of h1 hD (by intro z; cases z))⟩
abbrev nHomes : List Str := ["rooms", "homes", "number", "room", "outcome"]
theorem scHomes : FnScope nHomes ["rooms"] (defScope sHomes) := ⟨rfl, rfl, rfl, by decide +kernel, rfl, by decide +kernel, by decide +kernel⟩
theorem occs_take {rs : List Rm} {i : Nat} {r : Rm} (h : rs[i]? = some r) : occs 0 (rs.take (i + 1)) = occs 0 (rs.take i) ++ r.map (fun x => (x, i)) := by
  have hi := (List.getElem?_eq_some_iff.mp h).1
  rw [List.take_add_one, h]
  show occs 0 (rs.take i ++ [r]) = _
  rw [occs_snoc, List.length_take, Nat.min_eq_left (Nat.le_of_lt hi), Nat.zero_add]
theorem firsts_len (o : List (Str × Nat)) : (firsts o).length ≤ o.length := by
  refine snoc_ind (P := fun o => (firsts o).length ≤ o.length) (Nat.le_refl _) (fun o p ih => ?_) o
  rw [firsts_snoc, List.length_append]
  split
  · omega
  · rw [List.length_append]
    simp only [List.length_cons, List.length_nil]
    omega
theorem occs_len : ∀ (n : Nat) (rs : List Rm), (∀ r ∈ rs, r.length ≤ 100) → (occs n rs).length ≤ 100 * rs.length
  | _, [], _ => Nat.le_refl _
  | n, r :: rs, h => by
    show (r.map _ ++ occs (n + 1) rs).length ≤ _
    rw [List.length_append, List.length_map, List.length_cons]
    have h1 := h r List.mem_cons_self
    have h2 := occs_len (n + 1) rs fun s hs => h s (List.mem_cons_of_mem _ hs)
    omega
theorem ok_homes {f : Addr} {fd : FuncData} (F : Fun K "_homes_of" "_homes_of" sHomes f fd) (T : TB K mg CB) : FnOk P w K mg base CX0 1 f fd ["rooms"] spHomes := by
  refine F.ok scHomes (fun vs H Q E h => ?_) (fun cdv A outer s H vs Q E hr h => ?_)
  · obtain ⟨R, rs, rfl, _⟩ := h
    rfl
  · obtain ⟨R, rs, rfl, hR, hI, hl, hl2, k⟩ := h
    have hu := hu_of hr
    refine ⟨_, (pss_cons (ps_set (i := 1) scHomes.nd rfl (Or.inl rfl) pe_dnewK)
        (pss_cons (ps_for PassesOwn.never rfl (pi_enumT (by rfl) T.enumerate (pa_cons (pv 0) pa_nil)) (pg_tup (n := 2) rfl (pgs_cons (pg_name (i := 2) scHomes.nd rfl (Or.inl rfl)) (pgs_cons (pg_name (i := 3) scHomes.nd rfl (Or.inl rfl)) pgs_nil)))
        (pss_one (ps_for PassesOwn.never rfl (pi_tup (pv 3)) (pg_name (i := 4) scHomes.nd rfl (Or.inl rfl))
        (pss_one (ps_dput hu (pv 1) (pv 4) (pe_op op_catA (pe_dget2 hu (pv 1) (pv 4) (pe_tup pa_nil) ⟨rfl, rfl, rfl, rfl⟩) (pe_tup (pa_cons (pv 2) pa_nil))) rfl)))))
        (pss_one (ps_ret (pv 1))))), ?_⟩
    intro D hD
    have S0 : L2.Same H (upd H D (.dK [])) := RK.Same.upd hD
    refine ⟨_, rfl, R, _, rfl, SqT.of (S0 _ _ hR), for_it walk_enumT
      (fun i σ H' => ∃ v2 v3 v4 : Option V, σ = [some (.ref R), some (.ref D), v2, v3, v4] ∧ L2.Same H H' ∧ HomesAt H' D (occs 0 ((rmsOf rs).take i)))
      ⟨_, _, _, rfl, S0, homes_nil upd_same⟩ (fun i σ H' _ ⟨_, _, _, _, S, _⟩ => SqT.of (S _ _ hR)) ?_ ?_⟩
    · rintro i v σ H1 H2 hi ⟨v2, v3, v4, rfl, S, hm⟩ ⟨T1, x1, y1, rfl, hT, rfl, e1, e2⟩
      obtain rfl : V.int (i : Nat) = x1 := Option.some.inj e1
      obtain ⟨r, hr', rfl⟩ : ∃ r, rs[i]? = some r ∧ y1 = V.ref r.1 := by
        replace e2 : (refsOf rs)[i]? = some y1 := e2
        unfold refsOf at e2
        rw [List.getElem?_map] at e2
        cases e : rs[i]? with
        | none => rw [e] at e2; cases e2
        | some z => rw [e] at e2; exact ⟨z, rfl, (Option.some.inj e2).symm⟩
      have hmem := List.mem_of_getElem? hr'
      have ST := RK.Same.upd (o := .tup [.int (i : Nat), .ref r.1]) hT
      replace hm := hm.same ST
      have S2 := S.trans ST
      have hro := S2 _ _ (hI r hmem)
      have hrm : (rmsOf rs)[i]? = some r.2 := by unfold rmsOf; rw [List.getElem?_map, hr']; rfl
      refine ⟨T1, _, rfl, SqT.of upd_same, rfl, _, _, rfl, _, _, rfl, rfl, ?_⟩
      refine ⟨_, rfl, r.1, rfl, ⟨_, SqT.of hro⟩, for_tup (K := K) (a := r.1) (xs := r.2.map V.str)
        (fun j σ' H' => ∃ v4 : Option V, σ' = [some (.ref R), some (.ref D), some (.int (i : Nat)), some (.ref r.1), v4] ∧ L2.Same H H' ∧ HomesAt H' D (occs 0 ((rmsOf rs).take i) ++ (r.2.take j).map fun x => (x, i)))
        ⟨v4, rfl, S2, by simpa using hm⟩ (fun j σ' H' _ ⟨_, _, S', _⟩ => SqT.of (S' _ _ (hI r hmem))) ?_ ?_⟩
      · rintro j v σ' H' hj ⟨v4, rfl, S', hm'⟩
        obtain ⟨x, hx, rfl⟩ : ∃ x, r.2[j]? = some x ∧ v = V.str x := by
          rw [List.getElem?_map] at hj
          cases e : r.2[j]? with
          | none => rw [e] at hj; cases hj
          | some z => rw [e] at hj; exact ⟨z, rfl, (Option.some.inj hj).symm⟩
        have ejx : (r.2.take (j + 1)).map (fun x => (x, i)) = (r.2.take j).map (fun x => (x, i)) ++ [(x, i)] := by
          rw [List.take_add_one, hx, List.map_append]
          rfl
        obtain ⟨kvs, hd, hk, hv⟩ := hm'
        have hoc : (occs 0 ((rmsOf rs).take i) ++ (r.2.take j).map fun x => (x, i)).length ≤ 10100 := by
          rw [List.length_append, List.length_map]
          have h2 := occs_len 0 ((rmsOf rs).take i) fun s hs => by
            obtain ⟨q, hq, rfl⟩ := List.mem_map.mp (List.mem_of_mem_take hs)
            exact hl2 q hq
          have h3 := List.length_take_le' i (rmsOf rs)
          have h4 : (rmsOf rs).length = rs.length := List.length_map _
          have h5 := List.length_take_le' j r.2
          have h6 := hl2 r hmem
          omega
        generalize ho : (occs 0 ((rmsOf rs).take i) ++ (r.2.take j).map fun x => (x, i)) = o at *
        have hlen : kvs.length < sizeLine := by
          have e1 := congrArg List.length hk
          rw [List.length_map, List.length_map] at e1
          have h1 := firsts_len o
          exact Nat.lt_of_le_of_lt (by omega : kvs.length ≤ 10100) (by decide)
        -- homes.get(outcome, ()), then (number,)
        refine ⟨_, rfl, D, rfl, .inl ⟨kvs, .inl hd⟩, _, rfl, (by show 0 ≤ sizeLine; decide), fun t0 ht0 => ⟨_, DGet.k (k := Sum.inr x) ((RK.Same.upd ht0) _ _ hd), ?_⟩⟩
        have S3 := RK.Same.upd (o := .tup []) ht0
        refine ⟨_, rfl, (by show 1 ≤ sizeLine; decide), fun t1 ht1 => ?_⟩
        have S4 := RK.Same.upd (o := .tup [.int (i : Nat)]) ht1
        have S34 := S3.trans S4
        have fin : ∀ (tn : Addr) (H5 : Hp), L2.Same (upd (upd H' t0 (.tup [])) t1 (.tup [.int (i : Nat)])) H5 → H5 tn = some (.tup ((numsOf o x ++ [i]).map fun (n : Nat) => V.int (n : Int))) →
            ∃ v4 : Option V, ([some (.ref R), some (.ref D), some (.int (i : Nat)), some (.ref r.1), some (.str x)] : List (Option V)) = [some (.ref R), some (.ref D), some (.int (i : Nat)), some (.ref r.1), v4] ∧
              L2.Same H (upd H5 D (.dK (putK kvs (Sum.inr x) (.ref tn)))) ∧ HomesAt (upd H5 D (.dK (putK kvs (Sum.inr x) (.ref tn)))) D (occs 0 ((rmsOf rs).take i) ++ (r.2.take (j + 1)).map fun x => (x, i)) := fun tn H5 S5 ht5 => by
          have hD5 := (S34.trans S5) _ _ hd
          refine ⟨_, rfl, fun b u hb => ?_, ?_⟩
          · rw [upd_ne (ne_of_none hb hD)]
            exact (S34.trans S5) _ _ (S' _ _ hb)
          · rw [ejx, ← List.append_assoc, ho]
            refine homes_put (H := H') (t := tn) hd hk hv (fun b u hb hbd => ?_) upd_same ?_
            · rw [upd_ne hbd]
              exact (S34.trans S5) _ _ hb
            · rw [upd_ne (ne_of ht5 hD5 (by intro z; cases z))]
              exact ht5
        by_cases hxo : x ∈ firsts o
        · obtain ⟨t2, h2, h3⟩ := (hv x).1 hxo
          rw [h2]
          have hne : (numsOf o x).map (fun (n : Nat) => V.int (n : Int)) ≠ [] := fun z => numsOf_ne ((mem_firsts _ _).mp hxo) (List.map_eq_nil_iff.mp z)
          refine ⟨t2, t1, _, _, rfl, rfl, SqT.of (S34 _ _ h3), SqT.of upd_same, ?_, fun z => absurd z hne, fun _ z => absurd z (by simp), fun _ _ t3 ht3 => ?_⟩
          · rw [List.length_map]
            have h1 : (numsOf o x).length ≤ o.length := by
              unfold RK.numsOf
              rw [List.length_map]
              exact List.length_filter_le _ _
            exact Nat.le_trans (by simp only [List.length_cons, List.length_nil]; omega : _ ≤ 10101) (by decide)
          · have S5 := RK.Same.upd (o := .tup ((numsOf o x).map (fun (n : Nat) => V.int (n : Int)) ++ [.int (i : Nat)])) ht3
            refine ⟨_, rfl, _, rfl, D, _, rfl, DPut.k (k := Sum.inr x) ((S34.trans S5) _ _ hd) hlen, ?_⟩
            refine fin t3 _ S5 ?_
            rw [upd_same, List.map_append]
            rfl
        · rw [(hv x).2 hxo]
          have hn0 : numsOf o x = [] := numsOf_none fun z => hxo ((mem_firsts _ _).mpr z)
          refine ⟨t0, t1, _, _, rfl, rfl, SqT.of (S4 _ _ upd_same), SqT.of upd_same, (by show 1 ≤ sizeLine; decide), fun _ => ?_, fun z => absurd rfl z, fun z => absurd rfl z⟩
          refine ⟨_, rfl, _, rfl, D, _, rfl, DPut.k (k := Sum.inr x) (S34 _ _ hd) hlen, ?_⟩
          refine fin t1 _ (L2.Same.refl _) ?_
          rw [hn0]
          exact upd_same
      · rintro σ' H' ⟨v4, rfl, S', hm'⟩
        rw [List.length_map, List.take_length] at hm'
        refine ⟨_, _, _, rfl, S', ?_⟩
        rw [occs_take hrm]
        exact hm'
    · rintro σ H' ⟨v2, v3, v4, rfl, S, hm⟩
      have e : (rmsOf rs).take (refsOf rs).length = rmsOf rs := by
        unfold rmsOf refsOf
        rw [List.length_map, ← List.length_map (f := (·.2)) (as := rs), List.take_length]
      rw [e] at hm
      exact ⟨_, rfl, k D H' S hD hm⟩
end
end K01


set_option Elab.async false
set_option linter.all false
set_option maxRecDepth 100000
set_option maxHeartbeats 4000000
/-! the class Book -/
namespace K01
open PySem PySem.Spec PyProof.Rows L2 RK
abbrev sBInit : Stmt := inClass (top 20) 0
abbrev sBOut : Stmt := inClass (top 20) 2
def bflds (R D : Addr) : List (Str × V) := putF "_homes" (.ref D) (putF "rooms" (.ref R) [])
theorem ne_rh : ¬ (("rooms" : Str) = "_homes") := by decide +kernel
theorem bflds_rooms (R D : Addr) : (bflds R D).lookup ("rooms" : Str) = some (.ref R) := by
  unfold bflds
  rw [lookup_putF, if_neg ne_rh, lookup_putF, if_pos rfl]
theorem bflds_homes (R D : Addr) : (bflds R D).lookup ("_homes" : Str) = some (.ref D) := by
  unfold bflds
  rw [lookup_putF, if_pos rfl]
theorem bflds_no (R D : Addr) {m : Str} (h1 : ¬ m = "_homes") (h2 : ¬ m = "rooms") : (bflds R D).lookup m = none := by
  unfold bflds
  rw [lookup_putF, if_neg h1, lookup_putF, if_neg h2]
  rfl
/-- a book of these rooms stands at b -/
structure BookAt (CB : Addr) (H : Hp) (b : Addr) (rooms : List Rm) : Prop where
  ex : ∃ (dx R D : Addr) (rs : List (Addr × Rm)), H b = some (.ins CB dx (bflds R D)) ∧ rmsOf rs = rooms ∧ H R = some (.tup (refsOf rs)) ∧ RoomsIn H rs ∧ HomesAt H D (occs 0 rooms)
  ok : RoomsOk rooms
theorem BookAt.same {CB : Addr} {H H' : Hp} {b : Addr} {rooms : List Rm} (S : L2.Same H H') (h : BookAt CB H b rooms) : BookAt CB H' b rooms := by
  obtain ⟨dx, R, D, rs, h1, h2, h3, h4, h5⟩ := h.ex
  exact ⟨⟨dx, R, D, rs, S _ _ h1, h2, S _ _ h3, h4.same S, h5.same S⟩, h.ok⟩
def spBInit (CB : Addr) : Sp := fun vs H Q _ => ∃ (b R dx : Addr) (rs : List (Addr × Rm)), vs = [.ref b, .ref R] ∧ H b = some (.ins CB dx []) ∧ H R = some (.tup (refsOf rs)) ∧ RoomsIn H rs ∧ RoomsOk (rmsOf rs) ∧
  ∀ H', BookAt CB H' b (rmsOf rs) → (∀ c o, H c = some o → c ≠ b → H' c = some o) → Q .non H'
/-- ys is what sorted makes of k -/
def IsSort (k ys : List Str) : Prop := ys.Perm k ∧ sortedS ys = true
theorem IsSort.eq {k l m : List Str} (nd : k.Nodup) (a : IsSort k l) (b : IsSort k m) : l = m := perm_asc_eq a.1 a.2 b.1 b.2 nd
def spBOut (CB : Addr) : Sp := fun vs H Q _ => ∃ (b : Addr) (rooms : List Rm), vs = [.ref b] ∧ BookAt CB H b rooms ∧
  ∀ (l : Addr) (ys : List Str) (H' : Hp), L2.Same H H' → H' l = some (.tup (ys.map V.str)) → IsSort (outsOf rooms) ys → Q (.ref l) H'
/-- the numbers of the rooms of any value -/
def numsV (rooms : List Rm) : V → List Nat
  | .str x => placesOf rooms x
  | _ => []
/-- a value that isinstance knows for a text or for none -/
def TxtOr (K : PySem.W.Frag) (H : Hp) (v : V) : Prop := (∃ x, v = .str x) ∨ ((∀ x, v ≠ .str x) ∧ ∃ T, TyX K H v (.type T) ∧ kitB T "str" = some false)
def spBOf (K : PySem.W.Frag) (CB : Addr) : Sp := fun vs H Q _ => ∃ (b : Addr) (v : V) (rooms : List Rm), vs = [.ref b, v] ∧ BookAt CB H b rooms ∧ TxtOr K H v ∧
  ∀ (t : Addr) (H' : Hp), L2.Same H H' → H' t = some (.tup ((numsV rooms v).map fun (n : Nat) => V.int (n : Int))) → Q (.ref t) H'
def optV : Option Nat → V
  | some n => .int (n : Int)
  | none => .non
def twoOf (rooms : List Rm) (u v : V) : Option Nat := (numsV rooms u).find? fun n => decide (n ∈ numsV rooms v)
def spBTwo (K : PySem.W.Frag) (CB : Addr) : Sp := fun vs H Q _ => ∃ (b : Addr) (u v : V) (rooms : List Rm), vs = [.ref b, u, v] ∧ BookAt CB H b rooms ∧ TxtOr K H u ∧ TxtOr K H v ∧
  ∀ H', L2.Same H H' → Q (optV (twoOf rooms u v)) H'
theorem cut_take {xs : List V} {i : Nat} (h : i < xs.length) : cutV xs none (some (i : Int)) = xs.take i ∧ ¬ (HT.sIx xs.length 0 none = 0 ∧ HT.sIx xs.length xs.length (some (i : Int)) = xs.length) := by
  have e1 : HT.sIx xs.length xs.length (some (i : Int)) = i := by rw [HT.sIx_nat]; omega
  refine ⟨?_, fun z => by rw [e1] at z; omega⟩
  unfold cutV
  rw [e1, HT.sIx_none]
  simp
section
variable {P : Program} {w : World} {K : PySem.W.Frag} {mg : Str → Option Value} {base : Heap} {CB : Addr}
abbrev nBInit : List Str := ["self", "rooms", "at", "room", "homes"]
theorem scBInit : FnScope nBInit ["self", "rooms"] (defScope sBInit) := ⟨rfl, rfl, rfl, by decide +kernel, rfl, by decide +kernel, by decide +kernel⟩
end
end K01


set_option Elab.async false
set_option linter.all false
set_option maxRecDepth 100000
/-! a text some times -/
namespace RK
open PySem PySem.Spec PyProof.Rows L2
theorem wpi (P : Program) (w : World) : True := trivial
def repS (z : Str) (k : Int) : Str := { cps := List.foldl (fun x1 x2 => x1 ++ x2) #[] (List.replicate k.toNat z.cps) }
theorem rep_size (z : Array Nat) : ∀ (n : Nat) (a : Array Nat), ((List.replicate n z).foldl (fun x1 x2 => x1 ++ x2) a).size = a.size + n * z.size
  | 0, a => by simp
  | n + 1, a => by
    rw [List.replicate_succ, List.foldl_cons, rep_size z n, Array.size_append, Nat.add_mul, Nat.one_mul]
    omega
theorem rep_list (z : Array Nat) : ∀ (n : Nat) (a : Array Nat), ((List.replicate n z).foldl (fun x1 x2 => x1 ++ x2) a).toList = a.toList ++ (List.replicate n z.toList).flatten
  | 0, a => by simp
  | n + 1, a => by
    rw [List.replicate_succ, List.foldl_cons, rep_list z n, Array.toList_append, List.replicate_succ, List.flatten_cons, List.append_assoc]
theorem rep_len {z : Str} {k : Int} (h : k ≤ 100) (hz : z.length ≤ 1000) : (repS z k).length ≤ 100000 := by
  show ((List.replicate k.toNat z.cps).foldl (fun x1 x2 => x1 ++ x2) #[]).size ≤ 100000
  rw [rep_size]
  have : k.toNat * z.cps.size ≤ 100 * 1000 := Nat.mul_le_mul (by omega) hz
  simp only [List.size_toArray, List.length_nil]
  omega
theorem op_repS {X : Cx} : OpR X (binaryOp .Mult) (fun x y H Q => ∃ z k, x = .str z ∧ y = .int k ∧ 2 ≤ k ∧ k ≤ 100 ∧ 1 ≤ z.length ∧ z.length ≤ 1000 ∧ Q (.str (repS z k)) H) := by
  intro pins s σ H x y v u Q I rx ry h
  obtain ⟨z, k, rfl, rfl, k2, k9, z1, z9, q⟩ := h
  obtain ⟨t, rfl⟩ : ∃ t, v = .str z t := rx
  obtain ⟨tu, rfl⟩ : ∃ t, u = .int k t := ry
  refine wpAny_binaryOp_repeat (T := "str") (U := "int") (id := "str.__mul__") (idr := "int.__rmul__") (by decide) ?_ ?_ noFill_str_mul F.fills_int_mul F.slot_int_rmul repeat_str int_index ?_
  · exact fun s' => rfl
  · exact fun s' => rfl
  · refine call_gives F.slot_int_rmul rfl F.entry_int_rmul (F.args_int_rmul_2 _ _) (AutoIntG1.int___rmul___int_str_0 k tu z t) ⟨rfl, ?_⟩
    have kk : ¬ k < 1 := by omega
    have k1 : (k == 1 || z.length == 0) = false := by
      rw [Bool.or_eq_false_iff]
      exact ⟨beq_eq_false_iff_ne.mpr (by omega), beq_eq_false_iff_ne.mpr (by omega)⟩
    have g := gives_str_mul z k t tu (by rw [Bool.or_eq_false_iff]; exact ⟨decide_eq_false (by omega), decide_eq_false (by omega)⟩)
      (fun _ _ h => by
        have h2 : (2 ^ 63 - 1 : Int) / k ≥ 1001 := (Int.le_ediv_iff_mul_le (by omega)).mpr (by omega)
        omega) (fun _ _ => by
        have : z.length * k.toNat ≤ 1000 * 100 := Nat.mul_le_mul z9 (by omega)
        exact decide_eq_false (Nat.not_lt.mpr (Nat.le_trans this (by decide))))
    rw [if_neg kk, if_neg (by rw [k1]; exact Bool.false_ne_true)] at g
    refine call_gives F.slot_str_mul rfl F.entry_str_mul (F.args_str_mul_2 _ _) g ?_
    refine ⟨?_, .str (repS z k), H, I.kept fun _ _ z => z, ⟨_, rfl⟩, q⟩
    exact Nat.le_trans (rep_len (by omega) z9) (by decide)
end RK


set_option Elab.async false
set_option linter.all false
set_option maxRecDepth 100000
/-! names that are made letter by letter -/
namespace RK
open PySem PySem.Spec PyProof.Rows L2
def LowS (x : Str) : Prop := ∀ c ∈ x.cps.toList, lowB c = true
abbrev lettersS : Str := "abcdefghijklmnopqrstuvwxyz"
theorem lets_list : lettersS.cps.toList = [97, 98, 99, 100, 101, 102, 103, 104, 105, 106, 107, 108, 109, 110, 111, 112, 113, 114, 115, 116, 117, 118, 119, 120, 121, 122] := by decide +kernel
theorem let_at : ∀ d < 26, lettersS.cps.toList[d]? = some (97 + d) := by rw [lets_list]; decide
theorem lets_len : lettersS.cps.size = 26 := by decide +kernel
theorem ix_letter {d : Nat} {H : Hp} {Q : VK} (h : d < 26) (q : Q (.str ⟨#[97 + d]⟩) H) : rIxS (.str lettersS) (.int (d : Int)) H Q :=
  ⟨lettersS, _, 97 + d, rfl, rfl, (by rw [show lettersS.length = 26 from lets_len]; decide), atI_nat (let_at d h), q⟩
theorem low_one {d : Nat} (h : d < 26) : LowS ⟨#[97 + d]⟩ := fun c hc => by
  have e : c = 97 + d := by simpa using hc
  rw [e]
  unfold lowB
  rw [Bool.and_eq_true, decide_eq_true_eq, decide_eq_true_eq]
  omega
theorem low_empty : LowS ("" : Str) := fun c hc => by
  rw [show ("" : Str).cps.toList = [] from by decide +kernel] at hc
  exact absurd hc List.not_mem_nil
theorem app_list (x y : Str) : (x ++ y).cps.toList = x.cps.toList ++ y.cps.toList := by
  show (x.cps ++ y.cps).toList = _
  simp
theorem app_len (x y : Str) : (x ++ y).length = x.length + y.length := by
  show (x.cps ++ y.cps).size = _
  simp [Str.length]
theorem low_app {x y : Str} (h : LowS x) (k : LowS y) : LowS (x ++ y) := fun c hc => by
  rw [app_list] at hc
  exact (List.mem_append.mp hc).elim (h c) (k c)
theorem cut_list (x : Str) : (cutS x none (some 4)).cps.toList = x.cps.toList.take 4 := by
  unfold cutS
  rw [HT.sIx_none, show (4 : Int) = ((4 : Nat) : Int) from rfl, HT.sIx_nat, List.drop_zero, Nat.sub_zero]
  show List.take (min 4 x.length) x.cps.toList = _
  by_cases h : 4 ≤ x.length
  · rw [Nat.min_eq_left h]
  · rw [Nat.min_eq_right (by omega), List.take_of_length_le (by show x.cps.toList.length ≤ x.length; exact Nat.le_of_eq (Array.length_toList)), List.take_of_length_le]
    have : x.cps.toList.length = x.length := Array.length_toList
    omega
theorem nodup_sub_len : ∀ {S L : List Str}, S.Nodup → (∀ x ∈ S, x ∈ L) → S.length ≤ L.length
  | [], L, _, _ => Nat.zero_le _
  | x :: S, L, nd, h => by
    rw [List.nodup_cons] at nd
    have hx := h x List.mem_cons_self
    have := nodup_sub_len (S := S) (L := L.erase x) nd.2 fun y hy => (List.mem_erase_of_ne (fun e => nd.1 (by rw [← e]; exact hy))).mpr (h y (List.mem_cons_of_mem _ hy))
    rw [List.length_erase_of_mem hx] at this
    have hl : 0 < L.length := List.length_pos_of_mem hx
    rw [List.length_cons]
    omega
def Fresh (found : List Str) (i : Nat) (w : Str) : Prop := w ∉ found ∨ ∃ S : List Str, S.Nodup ∧ S.length = i ∧ (∀ x ∈ S, x ∈ found) ∧ ∀ x ∈ S, ∃ j, j < i ∧ x.cps.toList.getLast? = some (97 + j)
def nextW (found : List Str) (i : Nat) (w : Str) : Str := if w ∈ found then cutS w none (some 4) ++ ⟨#[97 + i]⟩ else w
theorem fresh_step {found : List Str} {i : Nat} {w : Str} (h : Fresh found i w) : Fresh found (i + 1) (nextW found i w) := by
  unfold nextW
  split
  · rename_i hw
    rcases h with h | ⟨S, nd, sl, sf, sj⟩
    · exact absurd hw h
    · by_cases hn : cutS w none (some 4) ++ ⟨#[97 + i]⟩ ∈ found
      · have hlast : (cutS w none (some 4) ++ (⟨#[97 + i]⟩ : Str)).cps.toList.getLast? = some (97 + i) := by
          rw [app_list]
          simp
        refine .inr ⟨S ++ [cutS w none (some 4) ++ ⟨#[97 + i]⟩], ?_, ?_, ?_, ?_⟩
        · rw [List.nodup_append]
          refine ⟨nd, by simp, fun a ha b hb => ?_⟩
          obtain rfl := List.mem_singleton.mp hb
          obtain ⟨j, hj, ej⟩ := sj a ha
          intro e
          rw [e, hlast] at ej
          have := Option.some.inj ej
          omega
        · rw [List.length_append, sl]
          rfl
        · intro x hx
          rcases List.mem_append.mp hx with hx | hx
          · exact sf x hx
          · rw [List.mem_singleton.mp hx]
            exact hn
        · intro x hx
          rcases List.mem_append.mp hx with hx | hx
          · obtain ⟨j, hj, ej⟩ := sj x hx
            exact ⟨j, by omega, ej⟩
          · rw [List.mem_singleton.mp hx]
            exact ⟨i, by omega, hlast⟩
      · exact .inl hn
  · rename_i hw
    exact .inl hw
theorem fresh_zero (found : List Str) (w : Str) : Fresh found 0 w := .inr ⟨[], List.nodup_nil, rfl, fun _ h => absurd h List.not_mem_nil, fun _ h => absurd h List.not_mem_nil⟩
theorem fresh_end {found : List Str} {w : Str} (h : Fresh found 26 w) (hl : found.length < 26) : w ∉ found := by
  rcases h with h | ⟨S, nd, sl, sf, _⟩
  · exact h
  · have := nodup_sub_len nd sf
    omega
/-- a name in the making -/
def Word (w : Str) : Prop := 1 ≤ w.length ∧ w.length ≤ 5 ∧ LowS w
theorem Word.name {w : Str} (h : Word w) : NameOk w := h
theorem len_list (x : Str) : x.length = x.cps.toList.length := Array.length_toList.symm
theorem word_next {found : List Str} {i : Nat} {w : Str} (hi : i < 26) (h : Word w) : Word (nextW found i w) := by
  unfold nextW
  split
  · refine ⟨?_, ?_, low_app (fun c hc => ?_) (low_one hi)⟩
    · rw [app_len]
      show 1 ≤ _ + 1
      omega
    · rw [app_len, len_list (cutS _ _ _), cut_list, List.length_take]
      show min 4 _ + 1 ≤ 5
      omega
    · rw [cut_list] at hc
      exact h.2.2 c (List.mem_of_mem_take hc)
  · exact h
theorem low_rep {z : Str} (h : LowS z) : LowS (repS z 2) ∧ (repS z 2).length = 2 * z.length := by
  have e : (repS z 2).cps.toList = z.cps.toList ++ z.cps.toList := by
    show ((List.replicate 2 z.cps).foldl (fun x1 x2 => x1 ++ x2) #[]).toList = _
    rw [rep_list]
    simp
  refine ⟨fun c hc => ?_, ?_⟩
  · rw [e] at hc
    exact (List.mem_append.mp hc).elim (h c) (h c)
  · rw [len_list, e, List.length_append, len_list]
    omega
theorem glue_list (rest : List Str) : ∀ a : Array Nat, (rest.foldl (fun acc (p : Str) => acc ++ (Str.empty).cps ++ p.cps) a).toList = a.toList ++ (rest.map fun p => p.cps.toList).flatten := by
  induction rest with
  | nil => intro a; simp
  | cons p r ih =>
    intro a
    rw [List.foldl_cons, ih]
    simp [Str.empty]
theorem join_list (ys : List Str) : (Txt.join ("" : Str) ys).cps.toList = (ys.map fun p => p.cps.toList).flatten := by
  cases ys with
  | nil => rfl
  | cons y r =>
    show (r.foldl (fun acc (p : Str) => acc ++ (Str.empty).cps ++ p.cps) y.cps).toList = _
    rw [glue_list]
    rfl
theorem join_word {ys : List Str} (h : ∀ y ∈ ys, LowS y ∧ y.length = 1) : LowS (Txt.join ("" : Str) ys) ∧ (Txt.join ("" : Str) ys).length = ys.length := by
  rw [len_list]
  unfold LowS
  rw [join_list]
  induction ys with
  | nil => exact ⟨fun c hc => absurd hc (by simp), rfl⟩
  | cons y r ih =>
    obtain ⟨i1, i2⟩ := ih fun z hz => h z (List.mem_cons_of_mem _ hz)
    obtain ⟨y1, y2⟩ := h y List.mem_cons_self
    rw [List.map_cons, List.flatten_cons]
    refine ⟨fun c hc => (List.mem_append.mp hc).elim (y1 c) (i1 c), ?_⟩
    rw [List.length_append, i2, ← len_list, y2, List.length_cons]
    omega
theorem ones_sum {ys : List Str} (h : ∀ y ∈ ys, LowS y ∧ y.length = 1) : (ys.map fun y => y.length).sum = ys.length := by
  induction ys with
  | nil => rfl
  | cons y r ih =>
    rw [List.map_cons, List.sum_cons, ih fun z hz => h z (List.mem_cons_of_mem _ hz), (h y List.mem_cons_self).2, List.length_cons]
    omega
end RK


set_option Elab.async false
set_option linter.all false
set_option maxRecDepth 100000
/-! rooms that are made outcome by outcome -/
namespace RK
open PySem PySem.Spec PyProof.Rows L2
def apartB (rms : List Rm) (taken : List Str) (x : Str) : Bool := (rms.all fun r => !(decide (x ∈ r) && taken.any fun y => decide (y ∈ r))) && decide (x ∉ taken)
theorem apart_of {rms : List Rm} {taken : List Str} {x : Str} (h : apartB rms taken x = true) : x ∉ taken ∧ ∀ r ∈ rms, x ∈ r → ∀ y ∈ taken, y ∉ r := by
  unfold apartB at h
  rw [Bool.and_eq_true, decide_eq_true_eq, List.all_eq_true] at h
  refine ⟨h.2, fun r hr hx y hy z => ?_⟩
  have := h.1 r hr
  rw [decide_eq_true hx, Bool.true_and, Bool.not_eq_true', List.any_eq_false] at this
  exact this y hy (decide_eq_true z)
/-- rooms so far and what they have -/
structure Mk (names : List Str) (rms : List Rm) (us : List Str) : Prop where
  ok : ∀ r ∈ rms, RoomOk r
  one : rms.Pairwise (fun r s => (common s r).length ≤ 1)
  uif : ∀ x, x ∈ us ↔ ∃ r ∈ rms, x ∈ r
  nd : us.Nodup
  sub : ∀ x ∈ us, x ∈ names
/-- a room in the making, after j turns -/
structure Mkr (names : List Str) (rms : List Rm) (us rm : List Str) (j : Nat) : Prop where
  nd : rm.Nodup
  sub : ∀ x ∈ rm, x ∈ names
  len : rm.length ≤ j
  ap : ∀ r ∈ rms, ∀ x ∈ rm, ∀ y ∈ rm, x ∈ r → y ∈ r → x = y
  first : us = [] → rm.length = j
theorem mkr_nil (names : List Str) (rms : List Rm) (us : List Str) : Mkr names rms us [] 0 :=
  ⟨List.nodup_nil, fun _ h => absurd h List.not_mem_nil, Nat.le_refl 0, fun _ _ _ h => absurd h List.not_mem_nil, fun _ => rfl⟩
theorem nodup_snoc {l : List Str} {x : Str} (h : l.Nodup) (n : x ∉ l) : (l ++ [x]).Nodup := by
  rw [List.nodup_append]
  refine ⟨h, by simp, fun a ha b hb e => ?_⟩
  rw [List.mem_singleton.mp hb] at e
  exact n (e ▸ ha)
theorem mkr_add {names : List Str} {rms : List Rm} {us rm : List Str} {j : Nat} {x : Str} (m : Mkr names rms us rm j) (hx : x ∈ names) (hn : x ∉ rm) (ha : ∀ r ∈ rms, x ∈ r → ∀ y ∈ rm, y ∉ r) : Mkr names rms us (rm ++ [x]) (j + 1) := by
  refine ⟨nodup_snoc m.nd hn, fun y hy => ?_, ?_, fun r hr y hy z hz yr zr => ?_, fun e => ?_⟩
  · rcases List.mem_append.mp hy with hy | hy
    · exact m.sub y hy
    · rw [List.mem_singleton.mp hy]; exact hx
  · rw [List.length_append]
    have := m.len
    simp
    omega
  · rcases List.mem_append.mp hy with hy | hy
    · rcases List.mem_append.mp hz with hz | hz
      · exact m.ap r hr y hy z hz yr zr
      · rw [List.mem_singleton.mp hz] at zr
        exact absurd yr (ha r hr zr y hy)
    · rw [List.mem_singleton.mp hy] at yr ⊢
      rcases List.mem_append.mp hz with hz | hz
      · exact absurd zr (ha r hr yr z hz)
      · rw [List.mem_singleton.mp hz]
  · rw [List.length_append, m.first e]
    rfl
theorem mkr_stay {names : List Str} {rms : List Rm} {us rm : List Str} {j : Nat} (m : Mkr names rms us rm j) (h : us ≠ []) : Mkr names rms us rm (j + 1) :=
  ⟨m.nd, m.sub, Nat.le_succ_of_le m.len, m.ap, fun e => absurd e h⟩
theorem len_one {l : List Str} (nd : l.Nodup) (h : ∀ x ∈ l, ∀ y ∈ l, x = y) : l.length ≤ 1 := by
  match l, nd, h with
  | [], _, _ => exact Nat.zero_le 1
  | [_], _, _ => exact Nat.le_refl 1
  | x :: y :: r, nd, h =>
    rw [List.nodup_cons] at nd
    exact absurd (List.mem_cons.mpr (.inl (h x (by simp) y (by simp)))) nd.1
/-- a room is done -/
theorem mk_add {names : List Str} {rms : List Rm} {us rm s : List Str} {j : Nat} (M : Mk names rms us) (m : Mkr names rms us rm j) (hj : j ≤ 5) (h3 : 3 ≤ rm.length) (hn : ∀ x ∈ names, NameOk x) (hp : s.Perm rm) (hs : sortedS s = true) :
    Mk names (rms ++ [s]) (us ++ rm.filter fun x => decide (x ∉ us)) := by
  have hsl := hp.length_eq
  have hml := m.len
  have hnd : s.Nodup := hp.nodup_iff.mpr m.nd
  refine ⟨fun r hr => ?_, ?_, fun x => ?_, ?_, fun x hx => ?_⟩
  · rcases List.mem_append.mp hr with hr | hr
    · exact M.ok r hr
    · rw [List.mem_singleton.mp hr]
      exact ⟨by omega, by omega, fun x hx => hn x (m.sub x (hp.mem_iff.mp hx)), asc_of hs hnd⟩
  · rw [List.pairwise_append]
    refine ⟨M.one, List.pairwise_singleton _ _, fun r hr t ht => ?_⟩
    rw [List.mem_singleton.mp ht]
    refine len_one (List.Nodup.sublist List.filter_sublist hnd) fun x hx y hy => ?_
    rw [common, List.mem_filter, decide_eq_true_eq] at hx hy
    exact m.ap r hr x (hp.mem_iff.mp hx.1) y (hp.mem_iff.mp hy.1) hx.2 hy.2
  · rw [List.mem_append, M.uif x, List.mem_filter, decide_eq_true_eq, M.uif x]
    constructor
    · rintro (⟨r, hr, hx⟩ | ⟨hx, _⟩)
      · exact ⟨r, List.mem_append.mpr (.inl hr), hx⟩
      · exact ⟨s, List.mem_append.mpr (.inr (List.mem_singleton.mpr rfl)), hp.mem_iff.mpr hx⟩
    · rintro ⟨r, hr, hx⟩
      rcases List.mem_append.mp hr with hr | hr
      · exact .inl ⟨r, hr, hx⟩
      · rw [List.mem_singleton.mp hr] at hx
        by_cases e : ∃ r ∈ rms, x ∈ r
        · exact .inl e
        · exact .inr ⟨hp.mem_iff.mp hx, e⟩
  · rw [List.nodup_append]
    refine ⟨M.nd, List.Nodup.sublist List.filter_sublist m.nd, fun a ha b hb e => ?_⟩
    rw [List.mem_filter, decide_eq_true_eq] at hb
    exact hb.2 (e ▸ ha)
  · rcases List.mem_append.mp hx with hx | hx
    · exact M.sub x hx
    · exact m.sub x (List.mem_filter.mp hx).1
theorem mk_nil (names : List Str) : Mk names [] [] :=
  ⟨fun _ h => absurd h List.not_mem_nil, List.Pairwise.nil, fun x => by simp, List.nodup_nil, fun _ h => absurd h List.not_mem_nil⟩
theorem mk_rooms {names : List Str} {rms : List Rm} {us : List Str} (M : Mk names rms us) (h1 : 1 ≤ rms.length) (h9 : rms.length ≤ 10) (hn : names.length ≤ 24) : RoomsOk rms := by
  refine ⟨⟨h1, h9⟩, M.ok, M.one, ?_⟩
  refine Nat.le_trans (nodup_sub_len (nodup_firsts _) fun x hx => ?_) hn
  exact M.sub x ((M.uif x).mpr (mem_outsOf.mp hx))
/-! ### lists of texts as data -/
theorem dp_strs {K : PySem.W.Frag} {H : Hp} : ∀ zs : List Str, DpAll K H (zs.map V.str) (zs.map PyData.str)
  | [] => .nil
  | z :: zs => .cons (.str z) (dp_strs zs)
theorem lay_strs : ∀ zs : List Str, (∀ x ∈ zs, PyData.strOk x = true) → PyData.canLayAll0 (zs.map PyData.str) = true
  | [], _ => rfl
  | z :: zs, h => by
    have e : PyData.canLayAll0 ((z :: zs).map PyData.str) = (PyData.strOk z && PyData.canLayAll0 (zs.map PyData.str)) := rfl
    rw [e, h z List.mem_cons_self, lay_strs zs fun x hx => h x (List.mem_cons_of_mem _ hx)]
    rfl
theorem depth_strs : ∀ zs : List Str, PyData.depthAll (zs.map PyData.str) ≤ 1
  | [] => by decide
  | z :: zs => by
    have h : PyData.depthAll ((z :: zs).map PyData.str) = max (PyData.str z).depth (PyData.depthAll (zs.map PyData.str)) := rfl
    rw [h]
    exact Nat.max_le.mpr ⟨Nat.le_of_ble_eq_true rfl, depth_strs zs⟩
theorem shaped_strs (zs : List Str) (hz : ∀ x ∈ zs, PyData.strOk x = true) : SeqAt.shaped (.list (zs.map PyData.str)) = true := by
  unfold SeqAt.shaped
  have h : (PyData.list (zs.map PyData.str)).canLay0 = PyData.canLayAll0 (zs.map PyData.str) := rfl
  have h2 : (PyData.list (zs.map PyData.str)).depth = PyData.depthAll (zs.map PyData.str) + 1 := rfl
  have := depth_strs zs
  rw [h, lay_strs zs hz, h2, Bool.true_and]
  exact decide_eq_true (by omega)
/-- xs != [], xs == [] for texts -/
theorem ne_nil_strs {K : PySem.W.Frag} {H : Hp} {l q : Addr} {zs : List Str} {Q : VK} (hz : ∀ x ∈ zs, PyData.strOk x = true) (hl : H l = some (.lst (zs.map V.str))) (hq : H q = some (.lst [])) (k : Q (.bl (!zs.isEmpty)) H) : rNeD K (.ref l) (.ref q) H Q := by
  refine ⟨.list (zs.map PyData.str), .list [], .lst (SqL.of hl) (dp_strs zs), .lst (SqL.of hq) .nil, shaped_strs zs hz, by decide, ?_⟩
  have e : (PyData.list (zs.map PyData.str)).eqv (.list []) = zs.isEmpty := by cases zs <;> rfl
  rw [e]
  exact k
theorem eq_nil_strs {K : PySem.W.Frag} {H : Hp} {l q : Addr} {zs : List Str} {Q : VK} (hz : ∀ x ∈ zs, PyData.strOk x = true) (hl : H l = some (.lst (zs.map V.str))) (hq : H q = some (.lst [])) (k : Q (.bl zs.isEmpty) H) : rEqD K (.ref l) (.ref q) H Q := by
  refine ⟨.list (zs.map PyData.str), .list [], .lst (SqL.of hl) (dp_strs zs), .lst (SqL.of hq) .nil, shaped_strs zs hz, by decide, ?_⟩
  have e : (PyData.list (zs.map PyData.str)).eqv (.list []) = zs.isEmpty := by cases zs <;> rfl
  rw [e]
  exact k
end RK


set_option Elab.async false
set_option linter.all false
set_option maxRecDepth 100000
/-! any value as rooms: what it is on the heap, and which fault of a book it has -/
namespace RK
open PySem PySem.Spec PyProof.Rows L2
/-- one to one -/
def At2 {α β : Type} (P : α → β → Prop) (vs : List α) (as : List β) : Prop := vs.length = as.length ∧ ∀ (i : Nat) (v : α) (a : β), vs[i]? = some v → as[i]? = some a → P v a
theorem At2.imp {α β : Type} {P P' : α → β → Prop} {vs : List α} {as : List β} (h : At2 P vs as) (k : ∀ v a, P v a → P' v a) : At2 P' vs as := ⟨h.1, fun i v a e1 e2 => k v a (h.2 i v a e1 e2)⟩
theorem At2.get {α β : Type} {P : α → β → Prop} {vs : List α} {as : List β} (h : At2 P vs as) {i : Nat} {v : α} (e : vs[i]? = some v) : ∃ a, as[i]? = some a ∧ P v a := by
  have hi := (List.getElem?_eq_some_iff.mp e).1
  have e2 : as[i]? = some (as[i]'(by rw [← h.1]; exact hi)) := List.getElem?_eq_getElem (by rw [← h.1]; exact hi)
  exact ⟨_, e2, h.2 i v _ e e2⟩
theorem At2.nil {α β : Type} {P : α → β → Prop} : At2 P [] [] := ⟨rfl, fun i v a e _ => by simp at e⟩
theorem At2.cons {α β : Type} {P : α → β → Prop} {v : α} {a : β} {vs : List α} {as : List β} (h : P v a) (t : At2 P vs as) : At2 P (v :: vs) (a :: as) := by
  refine ⟨by rw [List.length_cons, List.length_cons, t.1], fun i u b e1 e2 => ?_⟩
  cases i with
  | zero =>
    rw [List.getElem?_cons_zero] at e1 e2
    cases e1
    cases e2
    exact h
  | succ i => exact t.2 i u b (by simpa using e1) (by simpa using e2)
theorem At2.append {α β : Type} {P : α → β → Prop} {vs us : List α} {as bs : List β} (h : At2 P vs as) (k : At2 P us bs) : At2 P (vs ++ us) (as ++ bs) := by
  refine ⟨by rw [List.length_append, List.length_append, h.1, k.1], fun i u b e1 e2 => ?_⟩
  by_cases hi : i < vs.length
  · rw [List.getElem?_append_left hi] at e1
    rw [List.getElem?_append_left (by rw [← h.1]; exact hi)] at e2
    exact h.2 i u b e1 e2
  · rw [List.getElem?_append_right (by omega)] at e1
    rw [List.getElem?_append_right (by rw [← h.1]; omega), ← h.1] at e2
    exact k.2 _ u b e1 e2
theorem At2.take {α β : Type} {P : α → β → Prop} {vs : List α} {as : List β} (h : At2 P vs as) (n : Nat) : At2 P (vs.take n) (as.take n) := by
  refine ⟨by rw [List.length_take, List.length_take, h.1], fun i v a e1 e2 => ?_⟩
  rw [List.getElem?_take] at e1 e2
  split at e1
  · rename_i hi
    rw [if_pos hi] at e2
    exact h.2 i v a e1 e2
  · cases e1
theorem At2.drop {α β : Type} {P : α → β → Prop} {vs : List α} {as : List β} (h : At2 P vs as) (n : Nat) : At2 P (vs.drop n) (as.drop n) := by
  refine ⟨by rw [List.length_drop, List.length_drop, h.1], fun i v a e1 e2 => ?_⟩
  rw [List.getElem?_drop] at e1 e2
  exact h.2 _ v a e1 e2
theorem At2.rev {α β : Type} {P : α → β → Prop} {vs : List α} {as : List β} (h : At2 P vs as) : At2 P vs.reverse as.reverse := by
  refine ⟨by rw [List.length_reverse, List.length_reverse, h.1], fun i v a e1 e2 => ?_⟩
  have hi : i < vs.length := by
    have := (List.getElem?_eq_some_iff.mp e1).1
    rwa [List.length_reverse] at this
  rw [List.getElem?_reverse hi] at e1
  rw [List.getElem?_reverse (by rw [← h.1]; exact hi), ← h.1] at e2
  exact h.2 _ v a e1 e2
theorem At2.ex {α β : Type} {P : α → β → Prop} : ∀ {vs : List α}, (∀ v ∈ vs, ∃ a, P v a) → ∃ as : List β, At2 P vs as
  | [], _ => ⟨[], At2.nil⟩
  | v :: vs, h => by
    obtain ⟨a, ha⟩ := h v List.mem_cons_self
    obtain ⟨as, has⟩ := At2.ex (vs := vs) fun u hu => h u (List.mem_cons_of_mem _ hu)
    exact ⟨a :: as, At2.cons ha has⟩
theorem At2.mem {α β : Type} {P : α → β → Prop} {vs : List α} {as : List β} (h : At2 P vs as) {v : α} (hv : v ∈ vs) : ∃ a, P v a := by
  obtain ⟨i, hi, e⟩ := List.getElem_of_mem hv
  obtain ⟨a, _, ha⟩ := h.get (i := i) (v := v) (by rw [List.getElem?_eq_getElem hi, e])
  exact ⟨a, ha⟩
/-! ### values -/
abbrev Atom := Option Str
abbrev Item := Option (List Atom)
abbrev Vl := Option (List Item)
/-- not of that built-in type, as isinstance tells -/
def NotTy (K : PySem.W.Frag) (H : Hp) (v : V) (t : String) : Prop := ∃ T, TyX K H v (.type T) ∧ kitB T t = some false
def AtomAt (K : PySem.W.Frag) (H : Hp) (v : V) (a : Atom) : Prop := (∃ x, a = some x ∧ v = .str x ∧ x.length ≤ 1000) ∨ (a = none ∧ (∀ x, v ≠ .str x) ∧ NotTy K H v "str")
def ItemAt (K : PySem.W.Frag) (H : Hp) (v : V) (it : Item) : Prop := (∃ (t : Addr) (vs : List V) (as : List Atom), it = some as ∧ v = .ref t ∧ H t = some (.tup vs) ∧ vs.length ≤ 1000 ∧ At2 (AtomAt K H) vs as) ∨ (it = none ∧ NotTy K H v "tuple")
def ValAt (K : PySem.W.Frag) (H : Hp) (v : V) (val : Vl) : Prop := (∃ (t : Addr) (vs : List V) (its : List Item), val = some its ∧ v = .ref t ∧ H t = some (.tup vs) ∧ vs.length ≤ 1000 ∧ At2 (ItemAt K H) vs its) ∨ (val = none ∧ NotTy K H v "tuple")
theorem NotTy.same {K : PySem.W.Frag} {H H' : Hp} (S : L2.Same H H') {v : V} {t : String} (h : NotTy K H v t) : NotTy K H' v t := by
  obtain ⟨T, a, b⟩ := h
  exact ⟨T, TyX.mono S a, b⟩
theorem AtomAt.same {K : PySem.W.Frag} {H H' : Hp} (S : L2.Same H H') {v : V} {a : Atom} (h : AtomAt K H v a) : AtomAt K H' v a := by
  rcases h with h | ⟨e, n, h⟩
  · exact .inl h
  · exact .inr ⟨e, n, h.same S⟩
theorem ItemAt.same {K : PySem.W.Frag} {H H' : Hp} (S : L2.Same H H') {v : V} {a : Item} (h : ItemAt K H v a) : ItemAt K H' v a := by
  rcases h with ⟨t, vs, as, e, ev, ht, hl, h2⟩ | ⟨e, h⟩
  · exact .inl ⟨t, vs, as, e, ev, S _ _ ht, hl, h2.imp fun _ _ z => z.same S⟩
  · exact .inr ⟨e, h.same S⟩
theorem ValAt.same {K : PySem.W.Frag} {H H' : Hp} (S : L2.Same H H') {v : V} {a : Vl} (h : ValAt K H v a) : ValAt K H' v a := by
  rcases h with ⟨t, vs, as, e, ev, ht, hl, h2⟩ | ⟨e, h⟩
  · exact .inl ⟨t, vs, as, e, ev, S _ _ ht, hl, h2.imp fun _ _ z => z.same S⟩
  · exact .inr ⟨e, h.same S⟩
/-! ### names, rooms, as tests -/
instance (x : Str) : Decidable (NameOk x) := inferInstanceAs (Decidable (_ ∧ _ ∧ _))
instance (l : List Str) : Decidable (Asc l) := inferInstanceAs (Decidable (List.Pairwise _ l))
def nameB (a : Atom) : Bool := match a with | some x => decide (NameOk x) | none => false
def roomB (it : Item) : Bool := match it with | some as => decide (3 ≤ as.length ∧ as.length ≤ 5) && as.all nameB && decide (Asc (as.filterMap id)) | none => false
theorem atoms_some {as : List Atom} (h : as.all nameB = true) : ∃ r : Rm, as = r.map some ∧ ∀ x ∈ r, NameOk x := by
  induction as with
  | nil => exact ⟨[], rfl, fun x hx => absurd hx List.not_mem_nil⟩
  | cons a as ih =>
    rw [List.all_cons, Bool.and_eq_true] at h
    obtain ⟨r, e, hr⟩ := ih h.2
    cases a with
    | none => exact absurd h.1 Bool.false_ne_true
    | some x =>
      refine ⟨x :: r, by rw [e]; rfl, fun y hy => ?_⟩
      rcases List.mem_cons.mp hy with hy | hy
      · rw [hy]
        exact of_decide_eq_true h.1
      · exact hr y hy
theorem fmap_some (r : Rm) : (r.map some).filterMap id = r := by
  induction r with
  | nil => rfl
  | cons x r ih => rw [List.map_cons, List.filterMap_cons]; simp [ih]
theorem roomB_iff {it : Item} : roomB it = true ↔ ∃ r : Rm, it = some (r.map some) ∧ RoomOk r := by
  constructor
  · intro h
    cases it with
    | none => exact absurd h Bool.false_ne_true
    | some as =>
      have h : (decide (3 ≤ as.length ∧ as.length ≤ 5) && as.all nameB && decide (Asc (as.filterMap id))) = true := h
      rw [Bool.and_eq_true, Bool.and_eq_true, decide_eq_true_eq, decide_eq_true_eq] at h
      obtain ⟨r, e, hr⟩ := atoms_some h.1.2
      subst e
      rw [fmap_some] at h
      rw [List.length_map] at h
      exact ⟨r, rfl, h.1.1.1, h.1.1.2, hr, h.2⟩
  · rintro ⟨r, rfl, h3, h5, hn, ha⟩
    show (decide (3 ≤ (r.map some).length ∧ (r.map some).length ≤ 5) && (r.map some).all nameB && decide (Asc ((r.map some).filterMap id))) = true
    rw [fmap_some, List.length_map, decide_eq_true ⟨h3, h5⟩, decide_eq_true ha, List.all_map]
    rw [Bool.and_true, Bool.true_and, List.all_eq_true]
    intro x hx
    exact decide_eq_true (hn x hx)
/-- neighbours rise -/
def risesB : List Str → Bool
  | x :: y :: r => decide (ltS x y) && risesB (y :: r)
  | _ => true
theorem rises_asc : ∀ l : List Str, risesB l = true ↔ Asc l
  | [] => ⟨fun _ => List.Pairwise.nil, fun _ => rfl⟩
  | [x] => ⟨fun _ => List.pairwise_singleton _ _, fun _ => rfl⟩
  | x :: y :: r => by
    have ih := rises_asc (y :: r)
    show (decide (ltS x y) && risesB (y :: r)) = true ↔ _
    rw [Bool.and_eq_true, decide_eq_true_eq, ih]
    constructor
    · rintro ⟨h1, h2⟩
      refine List.pairwise_cons.mpr ⟨fun z hz => ?_, h2⟩
      rcases List.mem_cons.mp hz with e | hz
      · rw [e]; exact h1
      · exact ltS_trans h1 ((List.pairwise_cons.mp h2).1 z hz)
    · intro h
      have := List.pairwise_cons.mp h
      exact ⟨this.1 y List.mem_cons_self, this.2⟩
theorem rises_range (l : List Str) : ((List.range (l.length - 1)).map fun k => decide (ltS (l.getD k Str.empty) (l.getD (k + 1) Str.empty))).all id = decide (Asc l) := by
  have key : ∀ l : List Str, ((List.range (l.length - 1)).map fun k => decide (ltS (l.getD k Str.empty) (l.getD (k + 1) Str.empty))).all id = risesB l := by
    intro l
    induction l with
    | nil => rfl
    | cons x l ih =>
      cases l with
      | nil => rfl
      | cons y r =>
        have e : (x :: y :: r).length - 1 = ((y :: r).length - 1) + 1 := by simp
        rw [e, List.range_succ_eq_map, List.map_cons, List.all_cons, List.map_map]
        show (decide (ltS x y) && _) = (decide (ltS x y) && risesB (y :: r))
        rw [← ih]
        rfl
  rw [key, Bool.eq_iff_iff, rises_asc, decide_eq_true_eq]
/-! ### the fault of a value -/
structure Good (its : List Item) (rms : List Rm) : Prop where
  e : its = rms.map fun r => some (r.map some)
  ok : ∀ r ∈ rms, RoomOk r
  one : rms.Pairwise (fun r s => (common s r).length ≤ 1)
def OkNext (rms : List Rm) (it : Item) : Prop := ∃ r : Rm, it = some (r.map some) ∧ RoomOk r ∧ ∀ q ∈ rms, (common r q).length ≤ 1
inductive FaultIs : Vl → Option Int → Prop
  | shape0 : FaultIs none (some (-1))
  | shape {its : List Item} (h : its.length = 0 ∨ 10 < its.length) : FaultIs (some its) (some (-1))
  | at_ {its : List Item} {rms : List Rm} {i : Nat} {it : Item} (h : 1 ≤ its.length ∧ its.length ≤ 10) (g : Good (its.take i) rms) (e : its[i]? = some it) (n : ¬ OkNext rms it) : FaultIs (some its) (some (i : Int))
  | many {its : List Item} {rms : List Rm} (h : 1 ≤ its.length ∧ its.length ≤ 10) (g : Good its rms) (m : 24 < (outsOf rms).length) : FaultIs (some its) (some (its.length : Int))
  | fine {its : List Item} {rms : List Rm} (g : Good its rms) (ok : RoomsOk rms) : FaultIs (some its) none
theorem some_inj {r s : Rm} (h : r.map some = s.map some) : r = s := by
  have := congrArg (List.filterMap id) h
  rwa [fmap_some, fmap_some] at this
theorem Good.len {its : List Item} {rms : List Rm} (g : Good its rms) : its.length = rms.length := by rw [g.e, List.length_map]
theorem Good.uniq {its : List Item} {rms qms : List Rm} (g : Good its rms) (h : Good its qms) : rms = qms := by
  have e := g.e.symm.trans h.e
  clear g h
  induction rms generalizing qms with
  | nil =>
    cases qms with
    | nil => rfl
    | cons _ _ => cases e
  | cons r rms ih =>
    cases qms with
    | nil => cases e
    | cons q qms =>
      rw [List.map_cons, List.map_cons, List.cons.injEq] at e
      rw [some_inj (Option.some.inj e.1), ih e.2]
theorem Good.nil : Good [] [] := ⟨rfl, fun _ h => absurd h List.not_mem_nil, List.Pairwise.nil⟩
theorem Good.take {its : List Item} {rms : List Rm} (g : Good its rms) (n : Nat) : Good (its.take n) (rms.take n) :=
  ⟨by rw [g.e, List.map_take], fun r hr => g.ok r (List.mem_of_mem_take hr), g.one.sublist (List.take_sublist _ _)⟩
theorem Good.next {its : List Item} {rms : List Rm} {i : Nat} {it : Item} (g : Good its rms) (e : its[i]? = some it) : OkNext (rms.take i) it := by
  have hi := (List.getElem?_eq_some_iff.mp e).1
  have hi2 : i < rms.length := by rw [← g.len]; exact hi
  rw [g.e, List.getElem?_map, List.getElem?_eq_getElem hi2] at e
  refine ⟨rms[i], (Option.some.inj e).symm, g.ok _ (List.getElem_mem hi2), fun q hq => ?_⟩
  obtain ⟨j, hj, rfl⟩ := List.getElem_of_mem hq
  rw [List.length_take] at hj
  rw [List.getElem_take]
  exact List.pairwise_iff_getElem.mp g.one j i (by omega) hi2 (by omega)
theorem Good.add {its : List Item} {rms : List Rm} {i : Nat} {it : Item} {r : Rm} (g : Good (its.take i) rms) (e : its[i]? = some it) (er : it = some (r.map some)) (ok : RoomOk r) (h : ∀ q ∈ rms, (common r q).length ≤ 1) : Good (its.take (i + 1)) (rms ++ [r]) := by
  refine ⟨?_, fun q hq => ?_, ?_⟩
  · rw [List.take_add_one, e, List.map_append, g.e, er]
    rfl
  · rcases List.mem_append.mp hq with hq | hq
    · exact g.ok q hq
    · rw [List.mem_singleton.mp hq]; exact ok
  · rw [List.pairwise_append]
    refine ⟨g.one, List.pairwise_singleton _ _, fun q hq s hs => ?_⟩
    rw [List.mem_singleton.mp hs]
    exact h q hq
theorem fault_det {v : Vl} {o p : Option Int} (a : FaultIs v o) (b : FaultIs v p) : o = p := by
  have clash : ∀ {its : List Item} {rms qms : List Rm} {i j : Nat} {it : Item}, Good (its.take j) qms → i < j → its[i]? = some it → Good (its.take i) rms → ¬ OkNext rms it → False := fun {its rms qms i j it} g hij e h n => by
    have e2 : (its.take j)[i]? = some it := by rw [List.getElem?_take, if_pos hij, e]
    have h2 := g.take i
    rw [List.take_take, Nat.min_eq_left (Nat.le_of_lt hij)] at h2
    rw [h.uniq h2] at n
    exact n (g.next e2)
  cases a with
  | shape0 => cases b; rfl
  | shape h =>
    cases b with
    | shape _ => rfl
    | at_ h2 _ _ _ => omega
    | many h2 _ _ => omega
    | fine g ok => have := ok.few; have := g.len; omega
  | @at_ its rms i it h g e n =>
    have hi := (List.getElem?_eq_some_iff.mp e).1
    cases b with
    | shape h2 => omega
    | @at_ _ qms j jt h2 g2 e2 n2 =>
      rcases Nat.lt_trichotomy i j with hlt | heq | hgt
      · exact (clash g2 hlt e g n).elim
      · rw [heq]
      · exact (clash g hgt e2 g2 n2).elim
    | @many _ qms h2 g2 m => exact (clash (j := its.length) (qms := qms) (by rw [List.take_length]; exact g2) hi e g n).elim
    | @fine _ qms g2 ok => exact (clash (j := its.length) (qms := qms) (by rw [List.take_length]; exact g2) hi e g n).elim
  | @many its rms h g m =>
    cases b with
    | shape h2 => omega
    | @at_ _ qms j jt h2 g2 e2 n2 => exact (clash (j := its.length) (qms := rms) (by rw [List.take_length]; exact g) (List.getElem?_eq_some_iff.mp e2).1 e2 g2 n2).elim
    | many _ _ _ => rfl
    | @fine _ qms g2 ok =>
      rw [g.uniq g2] at m
      have := ok.most
      omega
  | @fine its rms g ok =>
    cases b with
    | shape h2 => have := ok.few; have := g.len; omega
    | @at_ _ qms j jt h2 g2 e2 n2 => exact (clash (j := its.length) (qms := rms) (by rw [List.take_length]; exact g) (List.getElem?_eq_some_iff.mp e2).1 e2 g2 n2).elim
    | @many _ qms h2 g2 m =>
      rw [g2.uniq g] at m
      have := ok.most
      omega
    | fine _ _ => rfl
/-- atoms that are all texts -/
theorem strs_eq {K : PySem.W.Frag} {H : Hp} {vs : List V} {r : Rm} (h : At2 (AtomAt K H) vs (r.map some)) : vs = r.map V.str := by
  have hlen := h.1
  rw [List.length_map] at hlen
  refine List.ext_getElem? fun i => ?_
  by_cases hi : i < vs.length
  · have g1 : vs[i]? = some vs[i] := List.getElem?_eq_getElem hi
    obtain ⟨a, ha, hva⟩ := h.get g1
    rw [List.getElem?_map] at ha
    rw [g1, List.getElem?_map]
    cases e3 : r[i]? with
    | none => rw [e3] at ha; cases ha
    | some y =>
      rw [e3] at ha
      cases ha
      rcases hva with ⟨x, ex, ev, _⟩ | ⟨ex, _⟩
      · cases ex
        rw [ev]
        rfl
      · cases ex
  · rw [List.getElem?_eq_none (by omega), List.getElem?_eq_none (by rw [List.length_map]; omega)]
def optI : Option Int → V
  | some z => .int z
  | none => .non
end RK


set_option Elab.async false
set_option linter.all false
set_option maxRecDepth 100000
set_option maxHeartbeats 4000000
/-! the class Book, made of any value -/
namespace K01
open PySem PySem.Spec PyProof.Rows L2 RK
def spNameA (K : PySem.W.Frag) : Sp := fun vs H Q _ => ∃ (v : V) (a : Atom), vs = [v] ∧ AtomAt K H v a ∧ ∀ H', L2.Same H H' → Q (.bl (nameB a)) H'
def spAscA : Sp := fun vs H Q _ => ∃ (t : Addr) (xs : List Str), vs = [.ref t] ∧ H t = some (.tup (xs.map V.str)) ∧ xs.length ≤ 100 ∧ ∀ H', L2.Same H H' → Q (.bl (decide (Asc xs))) H'
def spIsRoomA (K : PySem.W.Frag) : Sp := fun vs H Q _ => ∃ (v : V) (it : Item), vs = [v] ∧ ItemAt K H v it ∧ ∀ H', L2.Same H H' → Q (.bl (roomB it)) H'
def spCrossA : Sp := fun vs H Q _ => ∃ (t e : Addr) (xs : Rm) (rs : List (Addr × Rm)), vs = [.ref t, .ref e] ∧ H t = some (.tup (xs.map V.str)) ∧ H e = some (.tup (refsOf rs)) ∧ RoomsIn H rs ∧ xs.length ≤ 100 ∧ rs.length ≤ 100 ∧
  ∀ H', L2.Same H H' → Q (.bl (rs.any fun r => decide (1 < (common xs r.2).length))) H'
/-- the fault of a value is raised; a book is made of the others -/
def spBInitA (K : PySem.W.Frag) (CB CI : Addr) : Sp := fun vs H Q E => ∃ (b : Addr) (v : V) (dx : Addr) (val : Vl), vs = [.ref b, v] ∧ H b = some (.ins CB dx []) ∧ ValAt K H v val ∧
  (∀ z, FaultIs val (some z) → ∀ (H' : Hp) (d : Addr), L2.Same H H' → H' d = none → E (.ref CI) (some d) (upd H' d (.xd [("at", .int z)]))) ∧
  (∀ rms its, val = some its → Good its rms → RoomsOk rms → ∀ H', BookAt CB H' b rms → (∀ c o, H c = some o → c ≠ b → H' c = some o) → Q .non H')
theorem bl_all {p : Nat → Bool} (n : Nat) : (((List.range n).map p).map V.bl) = ((List.range n).map fun i => V.bl (p i)) := by rw [List.map_map]; rfl
section
variable {P : Program} {w : World} {K : PySem.W.Frag} {mg : Str → Option Value} {base : Heap} {CB CI fI : Addr}
theorem low_dec (c : Nat) : decide (c ∈ ("abcdefghijklmnopqrstuvwxyz" : Str).cps.toList) = lowB c := by
  by_cases h : lowB c = true
  · rw [low_in h, h]
  · have e : ("abcdefghijklmnopqrstuvwxyz" : Str).cps.toList = [97, 98, 99, 100, 101, 102, 103, 104, 105, 106, 107, 108, 109, 110, 111, 112, 113, 114, 115, 116, 117, 118, 119, 120, 121, 122] := by decide +kernel
    rw [Bool.eq_false_iff.mpr h, decide_eq_false]
    intro z
    refine h ?_
    rw [e] at z
    simp only [List.mem_cons, List.not_mem_nil, or_false] at z
    unfold lowB
    rw [Bool.and_eq_true, decide_eq_true_eq, decide_eq_true_eq]
    omega
theorem ok_nameA {f : Addr} {fd : FuncData} (F : Fun K "is_name" "is_name" sName f fd) (T : TB K mg CB) : FnOk P w K mg base CX0 1 f fd ["value"] (spNameA K) := by
  refine F.ok scName (fun vs H Q E h => ?_) (fun cdv A outer s H vs Q E hr h => ?_)
  · obtain ⟨v, a, rfl, _⟩ := h
    rfl
  · obtain ⟨v, a, rfl, hv, k⟩ := h
    refine ⟨_, (pss_cons (ps_if (PW.pt (pw_or (pt_not (pt_val (pe_callB (r := rIsi K) call_isi (by rfl) T.isi boot_isinstance (pa_cons (pv 0) (pa_cons (pe_bltn (v := .ty "str") (by rfl) T.str (by decide +kernel) rfl) pa_nil))))) (pw_or1 (pt_not (pt_chain op_le op_le pe_int (pe_callB call_len_str (by rfl) T.len PySem.boot_len (pa_cons (pv 0) pa_nil)) pe_int))))) (pss_one (ps_ret pe_bl)) pss_nil)
        (pss_one (ps_ret (pe_callB (r := rAll K) (cr_all rfl) (by rfl) T.all boot_all (pa_cons (pe_lc (own := [("sign", 1)]) (g := gName 1) (tt := tYes) rfl scName.nd (pi_str (pv 0)) (blkOk_by (N := nName) (sc := defScope sName) (by decide +kernel)) (fun _ _ _ _ _ => pg_name (i := 1) scName.nd rfl (Or.inl rfl)) (fun _ _ _ _ _ => pts_nil) (fun _ _ _ _ _ => (pe_cmpR op_in_sign (pv 1) (C8.pe_gc (by rfl) T.g_LETTERS) (by rfl)))) pa_nil))))), ?_⟩
    rcases hv with ⟨x, rfl, rfl, hx⟩ | ⟨rfl, hn, Ty, hT, hk⟩
    · have hz : x.length ≤ sizeLine := Nat.le_trans hx (by decide)
      refine ⟨_, rfl, _, .ty "str", _, _, true, rfl, .ty _, .base (.str x), kit_ty (by decide +kernel), true, rfl, ?_⟩
      refine iteF ⟨_, rfl, x, rfl, hz, _, _, rfl, rfl, _, rfl, ?_⟩
      have no : ¬ (1 ≤ x.length ∧ x.length ≤ 5) → nameB (some x) = false := fun h => decide_eq_false fun z => h ⟨z.1, z.2.1⟩
      refine ite2 (fun h1 => ?_) (fun h1 => ?_)
      · refine ⟨_, _, rfl, rfl, _, rfl, ?_⟩
        have h1 := of_decide_eq_true h1
        by_cases h5 : x.length ≤ 5
        · rw [decide_eq_true (show (x.length : Int) ≤ 5 by omega)]
          refine iteF ⟨_, rfl, x, rfl, fun D hD => ?_⟩
          refine lc_it (walk_str (z := x)) (fun i H' => L2.Same H H' ∧ H' D = some (.lst (((x.cps.toList.take i).map lowB).map V.bl))) ⟨RK.Same.upd hD, upd_same⟩ (fun _ _ _ _ => trivial) ?_ ?_
          · rintro i v H1 H2 hi ⟨S, e⟩ ⟨rfl, c, hcz, rfl⟩
            refine ⟨rfl, ?_⟩
            unfold tYes
            refine iteT ⟨_, rfl, c, _, rfl, rfl, _, e, ?_, RK.Same.updAt S hD, ?_⟩
            · rw [List.length_map, List.length_map, List.length_take]
              have : x.cps.toList.length = x.length := by simp [Str.length]
              exact Nat.lt_of_lt_of_le (by omega : min i x.cps.toList.length < 100) (by decide)
            · rw [upd_same, low_dec]
              have hc2 : x.cps.toList[i]? = some c := by rw [Array.getElem?_toList]; exact hcz
              rw [List.take_add_one, hc2, List.map_append, List.map_append]
              rfl
          · rintro H' ⟨S, e⟩
            have hsz : x.cps.size = x.cps.toList.length := by simp
            rw [hsz, List.take_length] at e
            refine ⟨D, _, rfl, SqL.of e, ?_⟩
            have ea : (x.cps.toList.map lowB).all id = nameB (some x) := by
              show _ = decide (NameOk x)
              rw [Bool.eq_iff_iff, decide_eq_true_eq, List.all_map, List.all_eq_true]
              exact ⟨fun h => ⟨by omega, h5, fun c hc => h c hc⟩, fun h c hc => h.2.2 c hc⟩
            rw [ea]
            exact k H' S
        · rw [decide_eq_false (show ¬ (x.length : Int) ≤ 5 by omega)]
          refine iteT ?_
          have := k H (L2.Same.refl H)
          rw [no fun z => h5 z.2] at this
          exact this
      · refine ⟨_, rfl, iteT ?_⟩
        have := k H (L2.Same.refl H)
        rw [no fun z => h1 (decide_eq_true (show (1 : Int) ≤ (x.length : Int) by omega))] at this
        exact this
    · refine ⟨_, rfl, _, .ty "str", _, _, false, rfl, .ty _, hT, kit_ty hk, false, rfl, ?_⟩
      refine iteT ?_
      exact k H (L2.Same.refl H)
theorem ok_ascA {f : Addr} {fd : FuncData} (F : Fun K "is_ascending" "is_ascending" sAsc f fd) (T : TB K mg CB) : FnOk P w K mg base CX0 1 f fd ["values"] spAscA := by
  refine F.ok scAsc (fun vs H Q E h => ?_) (fun cdv A outer s H vs Q E hr h => ?_)
  · obtain ⟨t, xs, rfl, _⟩ := h
    rfl
  · obtain ⟨t, xs, rfl, ht, hl, k⟩ := h
    refine ⟨_, (pss_one (ps_ret (pe_callB (r := rAll K) (cr_all rfl) (by rfl) T.all boot_all (pa_cons (pe_lc (own := [("k", 1)]) (g := gName 1) (tt := tYes) rfl scAsc.nd (pi_range2 (by rfl) T.range (pa_cons pe_int (pa_cons (pe_callB (r := rLenS K) call_lenS (by rfl) T.len PySem.boot_len (pa_cons (pv 0) pa_nil)) pa_nil))) (blkOk_by (N := nAsc) (sc := defScope sAsc) (by decide +kernel)) (fun _ _ _ _ _ => pg_name (i := 1) scAsc.nd rfl (Or.inl rfl)) (fun _ _ _ _ _ => pts_nil) (fun _ _ _ _ _ => (pe_cmpR op_lt_str (pe_ix (r := rIxT K) ix_tup (pv 0) (pe_op op_sub (pv 1) pe_int) (fun _ _ => rfl)) (pe_ix (r := rIxT K) ix_tup (pv 0) (pv 1) (fun _ _ => rfl)) (nomark _)))) pa_nil)))), ?_⟩
    refine ⟨_, rfl, t, _, rfl, .inr (SqT.of ht), 1, _, rfl, ⟨by decide, by decide, by rw [List.length_map]; omega, by rw [List.length_map]; omega⟩, fun D hD => ?_⟩
    refine lc_range (lo := 1) (fun i H' => L2.Same H H' ∧ H' D = some (.lst (((List.range i).map fun k => decide (ltS (xs.getD k Str.empty) (xs.getD (k + 1) Str.empty))).map V.bl))) ⟨RK.Same.upd hD, upd_same⟩ ?_ ?_
    · rintro i H' hi ⟨S, e⟩
      have hi' : i + 1 < xs.length := by
        rw [List.length_map] at hi
        omega
      have ht' := S _ _ ht
      have g0 : (xs.map V.str)[i]? = some (V.str xs[i]) := by rw [List.getElem?_map, List.getElem?_eq_getElem (by omega)]; rfl
      have g1 : (xs.map V.str)[i + 1]? = some (V.str xs[i + 1]) := by rw [List.getElem?_map, List.getElem?_eq_getElem hi']; rfl
      refine ⟨rfl, ?_⟩
      unfold tYes
      refine iteT ⟨_, rfl, _, rfl, _, _, rfl, rfl, t, _, _, _, rfl, rfl, SqT.of ht', at_of (by omega : (1 + (i : Int) - 1 : Int) = ((i : Nat) : Int)) g0, _, rfl, _, rfl, t, _, _, _, rfl, rfl, SqT.of ht', at_of (by omega : (1 + (i : Int) : Int) = ((i + 1 : Nat) : Int)) g1, _, _, rfl, rfl, _, e, ?_, RK.Same.updAt S hD, ?_⟩
      · rw [List.length_map, List.length_map, List.length_range]
        exact Nat.lt_of_lt_of_le (by omega : i < 101) (by decide)
      · rw [upd_same]
        have d0 : xs.getD i Str.empty = xs[i] := by rw [List.getD_eq_getElem?_getD, List.getElem?_eq_getElem (by omega)]; rfl
        have d1 : xs.getD (i + 1) Str.empty = xs[i + 1] := by rw [List.getD_eq_getElem?_getD, List.getElem?_eq_getElem hi']; rfl
        rw [List.range_succ, List.map_append, List.map_append, List.map_cons, List.map_nil, d0, d1]
        rfl
    · rintro H' ⟨S, e⟩
      refine ⟨D, _, rfl, SqL.of e, ?_⟩
      have en : (((xs.map V.str).length : Int) - 1).toNat = xs.length - 1 := by rw [List.length_map]; omega
      rw [en, rises_range]
      exact k H' S
theorem ok_isRoomA {f : Addr} {fd : FuncData} (F : Fun K "_is_room" "_is_room" sIsRoom f fd) (T : TB K mg CB) (c_is_name : Cl P w K mg base CX0 1 "is_name" ["value"] (spNameA K)) (c_is_ascending : Cl P w K mg base CX0 1 "is_ascending" ["values"] spAscA) :
    FnOk P w K mg base CX0 2 f fd ["value"] (spIsRoomA K) := by
  refine F.ok scIsRoom (fun vs H Q E h => ?_) (fun cdv A outer s H vs Q E hr h => ?_)
  · obtain ⟨v, it, rfl, _⟩ := h
    rfl
  · obtain ⟨v, it, rfl, hv, k⟩ := h
    refine ⟨_, (pss_cons (ps_if (PW.pt (pw_or (pt_not (pt_val (pe_callB (r := rIsi K) call_isi (by rfl) T.isi boot_isinstance (pa_cons (pv 0) (pa_cons (pe_bltn (v := .ty "tuple") (by rfl) T.tuple boot_tuple rfl) pa_nil))))) (pw_or1 (pt_not (pt_chain op_le op_le pe_int (pe_callB (r := rLenS K) call_lenS (by rfl) T.len PySem.boot_len (pa_cons (pv 0) pa_nil)) pe_int))))) (pss_one (ps_ret pe_bl)) pss_nil)
        (pss_one (ps_ret (pe_and (pe_callB (r := rAll K) (cr_all rfl) (by rfl) T.all boot_all (pa_cons (pe_lc (own := [("item", 1)]) (g := gName 1) (tt := tYes) rfl scIsRoom.nd (pi_tup (pv 0)) (blkOk_by (N := nIsRoom) (sc := defScope sIsRoom) (by decide +kernel)) (fun _ _ _ _ _ => pg_name (i := 1) scIsRoom.nd rfl (Or.inl rfl)) (fun _ _ _ _ _ => pts_nil) (fun _ _ _ _ _ => (pe_f c_is_name hr (by decide) pass0 (pa_cons (pv 1) pa_nil)))) pa_nil)) (pe_one (pe_f c_is_ascending hr (by decide) pass0 (pa_cons (pv 0) pa_nil))))))), ?_⟩
    rcases hv with ⟨t, vs, as, rfl, rfl, ht, hl, h2⟩ | ⟨rfl, Ty, hT, hk⟩
    · have hlen := h2.1
      refine ⟨_, rfl, _, .ty "tuple", _, _, true, rfl, .ty _, .base (.tup ht), kit_ty (by decide +kernel), true, rfl, ?_⟩
      refine iteF ⟨_, rfl, t, _, rfl, .inr (SqT.of ht), _, _, rfl, rfl, _, rfl, ?_⟩
      have no : ¬ (3 ≤ as.length ∧ as.length ≤ 5) → roomB (some as) = false := fun h => by
        show (decide (3 ≤ as.length ∧ as.length ≤ 5) && as.all nameB && decide (Asc (as.filterMap id))) = false
        rw [decide_eq_false h]
        rfl
      refine ite2 (fun h1 => ?_) (fun h1 => ?_)
      · refine ⟨_, _, rfl, rfl, _, rfl, ?_⟩
        have h1 := of_decide_eq_true h1
        by_cases h5 : vs.length ≤ 5
        · rw [decide_eq_true (show (vs.length : Int) ≤ 5 by omega)]
          refine iteF ⟨_, rfl, t, rfl, ⟨_, SqT.of ht⟩, fun D hD => ?_⟩
          refine lc_tup (K := K) (a := t) (xs := vs) (fun i H' => L2.Same H H' ∧ H' D = some (.lst (((as.take i).map nameB).map V.bl))) ⟨RK.Same.upd hD, upd_same⟩ (fun i H' _ p => SqT.of (p.1 _ _ ht)) ?_ ?_
          · rintro i v H' hi ⟨S, e⟩
            obtain ⟨a, ha, hva⟩ := h2.get hi
            refine ⟨rfl, ?_⟩
            unfold tYes
            refine iteT ⟨_, rfl, v, a, rfl, hva.same S, fun H2 S2 => ⟨_, S2 _ _ e, ?_, RK.Same.updAt (S.trans S2) hD, ?_⟩⟩
            · rw [List.length_map, List.length_map, List.length_take]
              exact Nat.lt_of_lt_of_le (by omega : min i as.length < 101) (by decide)
            · rw [upd_same, List.take_add_one, ha, List.map_append, List.map_append]
              rfl
          · rintro H' ⟨S, e⟩
            rw [hlen, List.take_length] at e
            have ea : (as.map nameB).all id = as.all nameB := by rw [List.all_map]; rfl
            refine ⟨D, _, rfl, SqL.of e, _, rfl, ?_⟩
            rw [ea]
            refine ite2 (fun hall => ?_) (fun hall => ?_)
            · obtain ⟨r, er, _⟩ := atoms_some hall
              subst er
              have ev : vs = r.map V.str := by
                refine List.ext_getElem? fun i => ?_
                by_cases hi : i < vs.length
                · have g1 : vs[i]? = some vs[i] := List.getElem?_eq_getElem hi
                  obtain ⟨a, ha, hva⟩ := h2.get g1
                  rw [List.getElem?_map] at ha
                  rw [g1, List.getElem?_map]
                  cases e3 : r[i]? with
                  | none => rw [e3] at ha; cases ha
                  | some y =>
                    rw [e3] at ha
                    cases ha
                    rcases hva with ⟨x, ex, ev, _⟩ | ⟨ex, _⟩
                    · cases ex
                      rw [ev]
                      rfl
                    · cases ex
                · rw [List.getElem?_eq_none (by omega), List.getElem?_eq_none (by rw [List.length_map] at hlen ⊢; omega)]
              have hrl : r.length = vs.length := by rw [ev, List.length_map]
              refine ⟨_, rfl, t, r, rfl, by rw [← ev]; exact S _ _ ht, by omega, fun H2 S2 => ?_⟩
              have := k H2 (S.trans S2)
              have eb : roomB (some (r.map some)) = decide (Asc r) := by
                show (decide (3 ≤ (r.map some).length ∧ (r.map some).length ≤ 5) && (r.map some).all nameB && decide (Asc ((r.map some).filterMap id))) = _
                rw [hall, fmap_some, List.length_map, decide_eq_true ⟨by omega, by omega⟩]
                rfl
              rw [eb] at this
              exact this
            · have := k H' S
              have eb : roomB (some as) = false := by
                show (decide (3 ≤ as.length ∧ as.length ≤ 5) && as.all nameB && decide (Asc (as.filterMap id))) = false
                rw [Bool.eq_false_iff.mpr hall, Bool.and_false]
                rfl
              rw [eb] at this
              exact this
        · rw [decide_eq_false (show ¬ (vs.length : Int) ≤ 5 by omega)]
          refine iteT ?_
          have := k H (L2.Same.refl H)
          rw [no fun z => h5 (by omega)] at this
          exact this
      · refine ⟨_, rfl, iteT ?_⟩
        have := k H (L2.Same.refl H)
        rw [no fun z => h1 (decide_eq_true (show (3 : Int) ≤ (vs.length : Int) by omega))] at this
        exact this
    · refine ⟨_, rfl, _, .ty "tuple", _, _, false, rfl, .ty _, hT, kit_ty hk, false, rfl, iteT ?_⟩
      exact k H (L2.Same.refl H)
theorem ok_crossA {f : Addr} {fd : FuncData} (F : Fun K "_crosses_twice" "_crosses_twice" sCross f fd) (T : TB K mg CB) (c__common : Cl P w K mg base CX0 1 "_common" ["room", "other"] spCommon) :
    FnOk P w K mg base CX0 2 f fd ["room", "earlier"] spCrossA := by
  refine F.ok scCross (fun vs H Q E h => ?_) (fun cdv A outer s H vs Q E hr h => ?_)
  · obtain ⟨t, e, xs, rs, rfl, _⟩ := h
    rfl
  · obtain ⟨t, e, xs, rs, rfl, ht, he, hR, hl, hl2, k⟩ := h
    refine ⟨_, (pss_one (ps_ret (pe_callB (r := rAny K) (cr_any rfl) (by rfl) T.any (by decide +kernel) (pa_cons (pe_lc (own := [("other", 2)]) (g := gName 2) (tt := tYes) rfl scCross.nd (pi_tup (pv 1)) (blkOk_by (N := nCross) (sc := defScope sCross) (by decide +kernel)) (fun _ _ _ _ _ => pg_name (i := 2) scCross.nd rfl (Or.inl rfl)) (fun _ _ _ _ _ => pts_nil) (fun _ _ _ _ _ => (pe_cmpR op_gt (pe_callB (r := rLenS K) call_lenS (by rfl) T.len PySem.boot_len (pa_cons (pe_f c__common hr (by decide) pass0 (pa_cons (pv 0) (pa_cons (pv 2) pa_nil))) pa_nil)) pe_int (nomark _)))) pa_nil)))), ?_⟩
    refine ⟨_, rfl, e, rfl, ⟨_, SqT.of he⟩, fun D hD => ?_⟩
    refine lc_tup (K := K) (a := e) (xs := refsOf rs) (fun i H' => L2.Same H H' ∧ H' D = some (.lst (((rs.take i).map fun r => decide (1 < (common xs r.2).length)).map V.bl))) ⟨RK.Same.upd hD, upd_same⟩ (fun i H' _ p => SqT.of (p.1 _ _ he)) ?_ ?_
    · rintro i v H' hi ⟨S, ed⟩
      obtain ⟨r, hr', rfl⟩ : ∃ r, rs[i]? = some r ∧ v = V.ref r.1 := by
        unfold refsOf at hi
        rw [List.getElem?_map] at hi
        cases e : rs[i]? with
        | none => rw [e] at hi; cases hi
        | some z => rw [e] at hi; exact ⟨z, rfl, (Option.some.inj hi).symm⟩
      have hm := List.mem_of_getElem? hr'
      have hil := (List.getElem?_eq_some_iff.mp hr').1
      refine ⟨rfl, ?_⟩
      unfold tYes
      refine iteT ⟨_, rfl, _, rfl, t, r.1, xs, r.2, rfl, S _ _ ht, S _ _ (hR r hm), hl, fun p H2 S2 np hp => ?_⟩
      refine ⟨p, _, rfl, .inl (SqL.of hp), _, _, rfl, rfl, _, S2 _ _ ed, ?_, RK.Same.updAt (S.trans S2) hD, ?_⟩
      · rw [List.length_map, List.length_map, List.length_take]
        exact Nat.lt_of_lt_of_le (by omega : min i rs.length < 101) (by decide)
      · rw [upd_same]
        have e1 : decide ((1 : Int) < (((common xs r.2).map V.str).length : Int)) = decide (1 < (common xs r.2).length) := by rw [List.length_map, decide_eq_decide]; omega
        dsimp only
        rw [e1, List.take_add_one, hr', List.map_append, List.map_append]
        rfl
    · rintro H' ⟨S, e⟩
      have hrl : (refsOf rs).length = rs.length := by unfold refsOf; rw [List.length_map]
      rw [hrl, List.take_length] at e
      refine ⟨D, _, rfl, SqL.of e, ?_⟩
      have ea : ((rs.map fun r => decide (1 < (common xs r.2).length))).any id = rs.any fun r => decide (1 < (common xs r.2).length) := by rw [List.any_map]; rfl
      rw [ea]
      exact k H' S
end
end K01


set_option Elab.async false
set_option linter.all false
set_option maxRecDepth 100000
set_option maxHeartbeats 4000000
/-! Book.__init__ of any value -/
namespace K01
open PySem PySem.Spec PyProof.Rows L2 RK
abbrev sIniB : Stmt := inClass (top 3) 0
theorem Same.one {H H' : Hp} {b : Addr} {o : HO} (S : L2.Same H H') (e : H b = some o) : H' b = some o := S _ _ e
section
variable {P : Program} {w : World} {K : PySem.W.Frag} {mg : Str → Option Value} {base : Heap} {CB CI fI : Addr}
theorem scIniB : FnScope ["self", "at"] ["self", "at"] (defScope sIniB) := ⟨rfl, rfl, rfl, by decide +kernel, rfl, by decide +kernel, by decide +kernel⟩
theorem ok_iniB {f : Addr} {fd : FuncData} (F : Fun K "__init__" "InvalidBook.__init__" sIniB f fd) : FnOk P w K mg base CX0 1 f fd ["self", "at"] (spIni K "at") := by
  refine F.ok scIniB (fun vs H Q E h => ?_) (fun cdv A outer s H vs Q E hr h => ?_)
  · obtain ⟨a, C, w, rfl, _⟩ := h
    rfl
  · obtain ⟨a, C, w, rfl, T, no, ha, k⟩ := h
    refine ⟨_, pss_one (ps_ost (pv 0) (pv 1)), ?_⟩
    exact ⟨_, rfl, _, rfl, a, C, rfl, T, no, .inl ⟨ha, fun dx h1 h2 => k dx h1 h2⟩⟩
theorem ok_binitA {f : Addr} {fd fdI : FuncData} (F : Fun K "__init__" "Book.__init__" sBInit f fd) (T : TB K mg CB) (Te : ErrC K mg "InvalidBook" "at" CI fI) (FI : Fun K "__init__" "InvalidBook.__init__" sIniB fI fdI) (bI : L2.Binds K fdI ["self", "at"] [])
    (c__is_room : Cl P w K mg base CX0 2 "_is_room" ["value"] (spIsRoomA K)) (c__crosses_twice : Cl P w K mg base CX0 2 "_crosses_twice" ["room", "earlier"] spCrossA) (c__homes_of : Cl P w K mg base CX0 1 "_homes_of" ["rooms"] spHomes) :
    FnOk P w K mg base (L2.CX P w) 4 f fd ["self", "rooms"] (spBInitA K CB CI) := by
  have GI : FnOk P w K mg base CX0 1 fI fdI ["self", "at"] (spIni K "at") := ok_iniB FI
  refine F.okX scBInit (fun vs H Q E h => ?_) (fun cdv A outer s H vs Q E hr h => ?_)
  · obtain ⟨b, v, dx, val, rfl, _⟩ := h
    rfl
  · obtain ⟨b, v, dx, val, rfl, hb, hv, kE, kQ⟩ := h
    refine ⟨_, (pss_cons (ps_if (PW.pt (pw_or (pt_not (pt_val (pe_callB (r := rIsi K) call_isi (by rfl) T.isi boot_isinstance (pa_cons (pv 1) (pa_cons (pe_bltn (v := .ty "tuple") (by rfl) T.tuple boot_tuple rfl) pa_nil))))) (pw_or1 (pt_not (pt_chain op_le op_le pe_int (pe_callB (r := rLenS K) call_lenS (by rfl) T.len PySem.boot_len (pa_cons (pv 1) pa_nil)) (C8.pe_gc (by rfl) T.g_MOST_ROOMS)))))) (pss_one (ps_raise1 Te GI (hr.mono (by decide)) bI pass0 rfl (takes_of rfl rfl rfl rfl) (pe_un un_neg pe_int))) pss_nil)
        (pss_cons (ps_for (passes_of rfl) rfl (pi_enumT (by rfl) T.enumerate (pa_cons (pv 1) pa_nil)) (pg_tup (n := 2) rfl (pgs_cons (pg_name (i := 2) scBInit.nd rfl (Or.inl rfl)) (pgs_cons (pg_name (i := 3) scBInit.nd rfl (Or.inl rfl)) pgs_nil)))
        (pss_one (ps_if (PW.pt (pw_or (pt_not (pt_val (pe_f c__is_room hr (by decide) pass0 (pa_cons (pv 3) pa_nil)))) (pw_or1 (pt_val (pe_f c__crosses_twice hr (by decide) pass0 (pa_cons (pv 3) (pa_cons (pe_slice sl_tupA (pv 1) po_none (po_some (pv 2))) pa_nil))))))) (pss_one (ps_raise1 Te GI (hr.mono (by decide)) bI pass0 rfl (takes_of rfl rfl rfl rfl) (pv 2))) pss_nil)))
        (pss_cons (ps_set (i := 4) scBInit.nd rfl (Or.inl rfl) (pe_f c__homes_of hr (by decide) pass0 (pa_cons (pv 1) pa_nil)))
        (pss_cons (ps_if (pt_cmpR op_gt (pe_callB call_lenD (by rfl) T.len PySem.boot_len (pa_cons (pv 4) pa_nil)) (C8.pe_gc (by rfl) T.g_MOST_OUTCOMES) (nomark _)) (pss_one (ps_raise1 Te GI (hr.mono (by decide)) bI pass0 rfl (takes_of rfl rfl rfl rfl) (pe_callB (r := rLenS K) call_lenS (by rfl) T.len PySem.boot_len (pa_cons (pv 1) pa_nil)))) pss_nil)
        (pss_cons (ps_fld (pv 0) (pv 1) rfl)
        (pss_one (ps_fld (pv 0) (pv 4) rfl))))))), ?_⟩
    rcases hv with ⟨R, vs, its, rfl, rfl, hR, hl, h2⟩ | ⟨rfl, Ty, hT, hk⟩
    · have hlen := h2.1
      refine ⟨_, rfl, _, .ty "tuple", _, _, true, rfl, .ty _, .base (.tup hR), kit_ty (by decide +kernel), true, rfl, ?_⟩
      refine iteF ⟨_, rfl, R, _, rfl, .inr (SqT.of hR), _, _, rfl, rfl, _, rfl, ?_⟩
      have bad : (its.length = 0 ∨ 10 < its.length) → ∀ d, H d = none → E (.ref CI) (some d) (upd H d (.xd [("at", .int (-1))])) := fun hh d hd => kE (-1) (.shape hh) H d (L2.Same.refl H) hd
      refine ite2 (fun h1 => ?_) (fun h1 => ?_)
      · have h1 := of_decide_eq_true h1
        refine ⟨_, _, rfl, rfl, _, rfl, ?_⟩
        by_cases h10 : vs.length ≤ 10
        · rw [decide_eq_true (show (vs.length : Int) ≤ 10 by omega)]
          refine iteF ?_
          refine ⟨_, rfl, R, _, rfl, SqT.of hR, for_it walk_enumT (fun i σ H' => ∃ (v2 v3 : Option V) (rs : List (Addr × Rm)), σ = [some (.ref b), some (.ref R), v2, v3, none] ∧ L2.Same H H' ∧ vs.take i = refsOf rs ∧ RoomsIn H rs ∧ Good (its.take i) (rmsOf rs))
            ⟨_, _, [], rfl, L2.Same.refl H, rfl, fun r hr => absurd hr List.not_mem_nil, Good.nil⟩ (fun i σ H' _ ⟨_, _, _, _, S, _⟩ => SqT.of (S _ _ hR)) ?_ ?_⟩
          · rintro i v σ H1 H2 hi ⟨v2, v3, rs, rfl, S, ev, hI, hG⟩ ⟨T1, x1, y1, rfl, hT, rfl, e1, e2⟩
            obtain rfl : V.int (i : Nat) = x1 := Option.some.inj e1
            replace e2 : vs[i]? = some y1 := e2
            obtain ⟨it, hit, hiv⟩ := h2.get e2
            have S2 := S.trans (RK.Same.upd (o := .tup [.int (i : Nat), y1]) hT)
            have hil := (List.getElem?_eq_some_iff.mp e2).1
            have hrl : rs.length = i := by
              have := congrArg List.length ev
              rw [List.length_take] at this
              unfold refsOf at this
              rw [List.length_map] at this
              omega
            refine ⟨T1, _, rfl, SqT.of upd_same, rfl, _, _, rfl, _, _, rfl, rfl, ?_⟩
            refine ⟨_, rfl, y1, it, rfl, hiv.same S2, fun H3 S3 => ⟨_, rfl, ?_⟩⟩
            have S23 := S2.trans S3
            have raise : ¬ OkNext (rmsOf rs) it → ∀ (H' : Hp) (d : Addr), L2.Same H H' → H' d = none → E (.ref CI) (some d) (upd H' d (.xd [("at", .int (i : Nat))])) := fun hn H' d S' hd =>
              kE _ (.at_ ⟨by omega, by omega⟩ hG hit hn) H' d S' hd
            by_cases hrm : roomB it = true
            · rw [hrm]
              obtain ⟨r, er, hro⟩ := roomB_iff.mp hrm
              subst er
              rcases hiv with ⟨t, us, as, eas, rfl, ht, hul, h3⟩ | ⟨eas, _⟩
              · cases eas
                have eus := strs_eq h3
                subst eus
                obtain ⟨c1, c2⟩ := cut_take (xs := vs) (i := i) hil
                refine iteF ⟨_, rfl, _, rfl, _, rfl, (i : Int), rfl, R, _, rfl, SqT.of (S23 _ _ hR), fun z => absurd z c2, fun _ p hp => ?_⟩
                have S4 := RK.Same.upd (o := .tup (cutV vs none (some (i : Int)))) hp
                have S24 := S23.trans S4
                have h5 := hro.2.1
                refine ⟨t, p, r, rs, rfl, S24 _ _ ht, by rw [upd_same, c1, ev], fun q hq => S24 _ _ (hI q hq), by omega, by omega, fun H5 S5 => ⟨_, rfl, ?_⟩⟩
                have S25 := S24.trans S5
                refine ite2 (fun hc => ?_) (fun hc => ?_)
                · refine ⟨_, rfl, raise1 Te.oex Te.no fun d hd => raise (fun ⟨r', er', _, hall⟩ => ?_) H5 d S25 hd⟩
                  obtain ⟨q, hq, hc⟩ := List.any_eq_true.mp hc
                  have := hall q.2 (List.mem_map_of_mem hq)
                  rw [← some_inj (Option.some.inj er')] at this
                  have := of_decide_eq_true hc
                  omega
                · refine ⟨_, _, rs ++ [(t, r)], rfl, S25, ?_, ?_, ?_⟩
                  · rw [List.take_add_one, e2, ev]
                    unfold refsOf
                    rw [List.map_append]
                    rfl
                  · intro q hq
                    rcases List.mem_append.mp hq with hq | hq
                    · exact hI q hq
                    · rw [List.mem_singleton.mp hq]
                      exact ht
                  · have e3 : rmsOf (rs ++ [(t, r)]) = rmsOf rs ++ [r] := by unfold rmsOf; rw [List.map_append]; rfl
                    rw [e3]
                    refine hG.add hit rfl hro fun q hq => ?_
                    obtain ⟨q', hq', rfl⟩ := List.mem_map.mp hq
                    refine Nat.not_lt.mp fun z => hc (List.any_eq_true.mpr ⟨q', hq', decide_eq_true z⟩)
              · cases eas
            · rw [Bool.eq_false_iff.mpr hrm]
              refine iteT ⟨_, rfl, raise1 Te.oex Te.no fun d hd => raise (fun ⟨r', er', ok', _⟩ => hrm (roomB_iff.mpr ⟨r', er', ok'⟩)) H3 d S23 hd⟩
          · rintro σ H1 ⟨v2, v3, rs, rfl, S, ev, hI, hG⟩
            rw [List.take_length] at ev
            rw [hlen, List.take_length] at hG
            subst ev
            have hrl : rs.length = its.length := by rw [← hlen]; unfold refsOf; rw [List.length_map]
            have hml : (rmsOf rs).length = rs.length := by unfold rmsOf; rw [List.length_map]
            have h100 : ∀ r ∈ rs, r.2.length ≤ 100 := fun r hr => by
              have := (hG.ok r.2 (List.mem_map_of_mem hr)).2.1
              omega
            refine ⟨_, rfl, R, rs, rfl, S _ _ hR, fun q hq => S _ _ (hI q hq), by omega, h100, fun D H2 S2 nD hm => ?_⟩
            have S12 := S.trans S2
            obtain ⟨kvs, hd, hk, hv⟩ := id hm
            have hkl : kvs.length = (outsOf (rmsOf rs)).length := by
              have e := congrArg List.length hk
              rw [List.length_map, List.length_map] at e
              exact e
            refine ⟨_, rfl, D, kvs, rfl, hd, _, _, rfl, rfl, _, rfl, ?_⟩
            refine ite2 (fun hgt => ?_) (fun hgt => ?_)
            · have hgt := of_decide_eq_true hgt
              refine ⟨_, rfl, R, _, rfl, .inr (SqT.of (S12 _ _ hR)), ?_⟩
              refine raise1 Te.oex Te.no fun d hd2 => ?_
              have := kE _ (.many (its := its) ⟨by omega, by omega⟩ hG (by omega)) H2 d S12 hd2
              rw [hlen]
              exact this
            · have hle : (outsOf (rmsOf rs)).length ≤ 24 := by
                rw [← hkl]
                exact Nat.not_lt.mp fun z => hgt (decide_eq_true (by omega))
              have ok : RoomsOk (rmsOf rs) := ⟨⟨by omega, by omega⟩, hG.ok, hG.one, hle⟩
              have hb2 := S12 _ _ hb
              refine ⟨_, rfl, _, rfl, b, CB, dx, [], rfl, hb2, T.cl, T.nR, (by show 0 < 1000; decide), ?_⟩
              refine ⟨_, rfl, _, rfl, b, CB, dx, _, rfl, upd_same, T.cl, T.nH, (by show 1 < 1000; decide), ?_⟩
              have keep : ∀ c o, H c = some o → c ≠ b → (upd (upd H2 b (.ins CB dx (putF "rooms" (.ref R) []))) b (.ins CB dx (putF "_homes" (.ref D) (putF "rooms" (.ref R) [])))) c = some o := fun c o hc n => by
                rw [upd_ne n, upd_ne n]
                exact S12 _ _ hc
              have keep2 : ∀ c o, H2 c = some o → c ≠ b → (upd (upd H2 b (.ins CB dx (putF "rooms" (.ref R) []))) b (.ins CB dx (putF "_homes" (.ref D) (putF "rooms" (.ref R) [])))) c = some o := fun c o hc n => by
                rw [upd_ne n, upd_ne n]
                exact hc
              have nt : ∀ {c : Addr} {xs : List V}, H2 c = some (.tup xs) → c ≠ b := fun h => ne_of h hb2 (by intro z; cases z)
              refine kQ _ _ rfl hG ok _ ⟨⟨dx, R, D, rs, upd_same, rfl, keep R _ hR (ne_of hR hb (by intro z; cases z)), fun q hq => keep q.1 _ (hI q hq) (ne_of (hI q hq) hb (by intro z; cases z)), ?_⟩, ok⟩ keep
              exact ⟨kvs, keep2 D _ hd (ne_of hd hb2 (by intro z; cases z)), hk, fun x => ⟨fun hx => by
                obtain ⟨t, h1, h2⟩ := (hv x).1 hx
                exact ⟨t, h1, keep2 t _ h2 (nt h2)⟩, (hv x).2⟩⟩
        · rw [decide_eq_false (show ¬ (vs.length : Int) ≤ 10 by omega)]
          exact iteT ⟨_, rfl, raise1 Te.oex Te.no fun d hd => bad (by omega) d hd⟩
      · have h1 : ¬ (1 : Int) ≤ (vs.length : Int) := fun z => h1 (decide_eq_true z)
        exact ⟨_, rfl, iteT ⟨_, rfl, raise1 Te.oex Te.no fun d hd => bad (by omega) d hd⟩⟩
    · refine ⟨_, rfl, _, .ty "tuple", _, _, false, rfl, .ty _, hT, kit_ty hk, false, rfl, ?_⟩
      exact iteT ⟨_, rfl, raise1 Te.oex Te.no fun d hd => kE (-1) .shape0 H d (L2.Same.refl H) hd⟩
end
end K01


set_option Elab.async false
set_option linter.all false
set_option maxRecDepth 100000
/-! the heap that a law draws from: a list of a list of ints and an int -/
namespace RK
open PySem PySem.Spec PyProof.Rows L2
structure HeapAt (H : Hp) (h l : Addr) : Prop where
  ne : h ≠ l
  ex : ∃ (zs : List Int) (s : Int), H h = some (.lst [.ref l, .int s]) ∧ H l = some (.lst (zs.map V.int)) ∧ 0 ≤ s ∧ s < 2147483647 ∧ zs.length ≤ 100
/-- all that was tracked is as it was, but at h and l -/
def Kh (h l : Addr) (H H' : Hp) : Prop := ∀ b o, H b = some o → b ≠ h → b ≠ l → H' b = some o
theorem Kh.refl (h l : Addr) (H : Hp) : Kh h l H H := fun _ _ e _ _ => e
theorem Kh.trans {h l : Addr} {H H1 H2 : Hp} (a : Kh h l H H1) (b : Kh h l H1 H2) : Kh h l H H2 := fun c o e n m => b c o (a c o e n m) n m
theorem Kh.of {h l : Addr} {H H1 : Hp} (a : L2.Same H H1) : Kh h l H H1 := fun c o e _ _ => a c o e
theorem Kh.upd1 {h l : Addr} {H : Hp} {o : HO} : Kh h l H (upd H h o) := fun c o e n m => by rw [upd_ne n]; exact e
theorem Kh.upd2 {h l : Addr} {H : Hp} {o : HO} : Kh h l H (upd H l o) := fun c o e n m => by rw [upd_ne m]; exact e
theorem HeapAt.same {h l : Addr} {H H1 : Hp} (S : L2.Same H H1) (a : HeapAt H h l) : HeapAt H1 h l := by
  obtain ⟨ne, zs, s, e1, e2, e3⟩ := a
  exact ⟨ne, zs, s, S _ _ e1, S _ _ e2, e3⟩
/-- ints as data -/
theorem dp_ints {K : PySem.W.Frag} {H : Hp} : ∀ zs : List Int, DpAll K H (zs.map V.int) (zs.map PyData.int)
  | [] => .nil
  | z :: zs => .cons (.int z) (dp_ints zs)
theorem lay_ints : ∀ zs : List Int, PyData.canLayAll0 (zs.map PyData.int) = true
  | [] => rfl
  | z :: zs => lay_ints zs
theorem depth_ints : ∀ zs : List Int, PyData.depthAll (zs.map PyData.int) ≤ 1
  | [] => by decide
  | z :: zs => by
    have h : PyData.depthAll ((z :: zs).map PyData.int) = max (PyData.int z).depth (PyData.depthAll (zs.map PyData.int)) := rfl
    rw [h]
    exact Nat.max_le.mpr ⟨Nat.le_of_ble_eq_true rfl, depth_ints zs⟩
theorem shaped_ints (zs : List Int) : SeqAt.shaped (.list (zs.map PyData.int)) = true := by
  unfold SeqAt.shaped
  have h : (PyData.list (zs.map PyData.int)).canLay0 = PyData.canLayAll0 (zs.map PyData.int) := rfl
  have h2 : (PyData.list (zs.map PyData.int)).depth = PyData.depthAll (zs.map PyData.int) + 1 := rfl
  have := depth_ints zs
  rw [h, lay_ints, h2, Bool.true_and]
  exact decide_eq_true (by omega)
/-- xs != [] for ints -/
theorem ne_nil_ints {K : PySem.W.Frag} {H : Hp} {l q : Addr} {zs : List Int} {Q : VK} (hl : H l = some (.lst (zs.map V.int))) (hq : H q = some (.lst [])) (k : Q (.bl (!zs.isEmpty)) H) : rNeD K (.ref l) (.ref q) H Q := by
  refine ⟨.list (zs.map PyData.int), .list [], .lst (SqL.of hl) (dp_ints zs), .lst (SqL.of hq) .nil, shaped_ints zs, shaped_ints [], ?_⟩
  have e : (PyData.list (zs.map PyData.int)).eqv (.list []) = zs.isEmpty := by cases zs <;> rfl
  rw [e]
  exact k
theorem atI_last {xs : List V} {x : V} : atI (xs ++ [x]) (-1) = some x := by
  unfold atI ixN
  have h1 : ¬ (0 : Int) ≤ -1 := by decide
  have h2 : -(((xs ++ [x]).length : Nat) : Int) ≤ -1 := by rw [List.length_append]; simp; omega
  rw [if_neg h1, if_pos h2]
  have h3 : (-1 + (((xs ++ [x]).length : Nat) : Int)).toNat = xs.length := by rw [List.length_append, List.length_singleton]; omega
  rw [h3]
  simp
theorem fmod_lt {a m : Int} (h : 0 < m) : 0 ≤ a.fmod m ∧ a.fmod m < m := by
  rw [Int.fmod_eq_emod_of_nonneg a (Int.le_of_lt h)]
  exact ⟨Int.emod_nonneg _ (by omega), Int.emod_lt_of_pos _ h⟩
theorem abs_if (i : Int) : (if i < 0 then -i else i) = (i.natAbs : Int) := by split <;> omega
section
variable {K : PySem.W.Frag} {σ : L2.St} {H : Hp} {i : Nat} {t : Addr} {xs : List V} {z : Int} {v : V} {Q : VK}
theorem ixl (hs : σ[i]? = some (some (.ref t))) (h : H t = some (.lst xs)) (e : atI xs z = some v) (q : Q v H) : tOp (rIxL K) (tVar i) (tC (.int z)) σ H Q := ⟨_, hs, t, _, z, _, rfl, rfl, SqL.of h, e, q⟩
end
/-! ### weaker wishes of an expression, a test -/
def MoE (t : TE) : Prop := ∀ (σ : L2.St) (H : Hp) (Q Q' : VK), (∀ v H1, Q v H1 → Q' v H1) → t σ H Q → t σ H Q'
def MoR (r : R2) : Prop := ∀ (x y : V) (H : Hp) (Q Q' : VK), (∀ v H1, Q v H1 → Q' v H1) → r x y H Q → r x y H Q'
def MoT (t : TT) : Prop := ∀ (σ : L2.St) (H : Hp) (Q Q' : Bool → Hp → Prop), (∀ b H1, Q b H1 → Q' b H1) → t σ H Q → t σ H Q'
theorem moE_var {i : Nat} : MoE (tVar i) := fun _ _ _ _ h ⟨v, e, q⟩ => ⟨v, e, h _ _ q⟩
theorem moE_c {v : V} : MoE (tC v) := fun _ _ _ _ h q => h _ _ q
theorem moE_op {r : R2} {ta tb : TE} (hr : MoR r) (ha : MoE ta) (hb : MoE tb) : MoE (tOp r ta tb) := fun σ H Q Q' h q => ha _ _ _ _ (fun x H1 q1 => hb _ _ _ _ (fun y H2 q2 => hr _ _ _ _ _ h q2) q1) q
theorem moE_lst0 : MoE (tLst tNil) := fun _ _ _ _ h q => ⟨q.1, fun p hp => h _ _ (q.2 p hp)⟩
theorem moE_un {f : Int → V} {t : TE} (ha : MoE t) : MoE (tUn (rU f) t) := fun σ H Q Q' h q => ha _ _ _ _ (fun x H1 ⟨i, e, q1⟩ => ⟨i, e, h _ _ q1⟩) q
theorem moR_ixL {K : PySem.W.Frag} : MoR (rIxL K) := fun _ _ _ _ _ h ⟨p, xs, i, v, a, b, c, d, q⟩ => ⟨p, xs, i, v, a, b, c, d, h _ _ q⟩
theorem moR_neD {K : PySem.W.Frag} : MoR (rNeD K) := fun _ _ _ _ _ h ⟨d, e, a, b, c, f, q⟩ => ⟨d, e, a, b, c, f, h _ _ q⟩
theorem moR_eq : MoR rEq := fun _ _ _ _ _ h ⟨s, q⟩ => ⟨s, h _ _ q⟩
theorem moT_test {t : TE} (ha : MoE t) : MoT (tTest t) := fun σ H Q Q' h q => ha _ _ _ _ (fun x H1 ⟨k, e, q1⟩ => ⟨k, e, h _ _ q1⟩) q
theorem moT_and {t u : TT} (ha : MoT t) (hb : MoT u) : MoT (tAnd t u) := fun σ H Q Q' h q => ha _ _ _ _ (fun c H1 q1 => by
  cases c with
  | true => exact iteT (hb _ _ _ _ h (by simpa using q1))
  | false => exact iteF (h _ _ (by simpa using q1))) q
/-- a while whose locals stand still, then the rest from what it leaves -/
theorem seq_while {c : TT} {tb rest : TS} {D : Ends} {σ : L2.St} {H : Hp} (Pv : Hp → Prop) (μ : Hp → Nat) (I : Hp → Prop) (mo : MoT c) (h0 : Pv H) (fin : ∀ H1, I H1 → rest D σ H1)
    (step : ∀ H', Pv H' → c σ H' fun b H1 => if b = true then tb { nx := fun σ' H2 => (σ' = σ ∧ Pv H2) ∧ μ H2 < μ H', rt := D.rt, bk := fun σ' H2 => rest D σ' H2, ct := fun σ' H2 => (σ' = σ ∧ Pv H2) ∧ μ H2 < μ H' } σ H1 else I H1) :
    tSeq (tWhile c tb) rest D σ H := by
  unfold tSeq
  refine while_by (fun σ' H' => σ' = σ ∧ Pv H') (fun _ H' => μ H') ⟨rfl, h0⟩ ?_ mo
  rintro σ' H' ⟨rfl, p⟩
  refine mo _ _ _ _ ?_ (step H' p)
  intro b H1 hb
  cases b with
  | true => exact hb
  | false => exact fin H1 hb
/-- what comes behind, from several ends of what stands before it -/
theorem seq_fin {A rest : TS} {D : Ends} {σ : L2.St} {H : Hp} (J : L2.St → Hp → Prop) (fin : ∀ σ' H', J σ' H' → rest D σ' H') (h : (∀ σ' H', J σ' H' → rest D σ' H') → tSeq A rest D σ H) : tSeq A rest D σ H := h fin
theorem cut_ints {ns : List Int} {k : Nat} : cutV (ns.map V.int) none (some (k : Int)) = (ns.take k).map V.int := by
  unfold cutV
  rw [HT.sIx_nat, HT.sIx_none, List.drop_zero, Nat.sub_zero, List.map_take, List.length_map]
  by_cases h : k ≤ ns.length
  · rw [Nat.min_eq_left h]
  · rw [Nat.min_eq_right (by omega), List.take_of_length_le (by rw [List.length_map]; omega), List.take_of_length_le (by rw [List.length_map]; omega)]
end RK


set_option Elab.async false
set_option linter.all false
set_option maxRecDepth 100000
set_option maxHeartbeats 4000000
/-! a law's own heap, draws, picks -/
namespace K01
open PySem PySem.Spec PyProof.Rows L2 RK
def topL (i : Nat) : Stmt := PySem.Challenge.pw_roomlooks_k01_books_refused_at_their_fir.main.body.getD i (.Pass ⟨0, 0, 0, 0⟩)
abbrev sHeap : Stmt := topL 26
abbrev sDraw : Stmt := topL 27
abbrev sPick : Stmt := topL 28
/-- the names that stand for what they are built in -/
structure TL (mg : Str → Option Value) : Prop where
  abs : mg "abs" = none
  int : mg "int" = none
  len : mg "len" = none
  range : mg "range" = none
  tuple : mg "tuple" = none
  list : mg "list" = none
  sorted : mg "sorted" = none
  any : mg "any" = none
  all : mg "all" = none
def spHeap (K : PySem.W.Frag) : Sp := fun vs H Q _ => ∃ (a : Addr) (ns : List Int), vs = [.ref a] ∧ SqL K H a (ns.map V.int) ∧ ns.length ≤ 63 ∧
  ∀ (h l : Addr) (H' : Hp), L2.Same H H' → H h = none → H l = none → HeapAt H' h l → Q (.ref h) H'
def spDraw : Sp := fun vs H Q _ => ∃ (h l : Addr) (m : Int), vs = [.ref h, .int m] ∧ HeapAt H h l ∧ 0 < m ∧ m < 1000000 ∧
  ∀ (d : Nat) (H' : Hp), (d : Int) < m → HeapAt H' h l → Kh h l H H' → Q (.int (d : Int)) H'
def spPick (K : PySem.W.Frag) : Sp := fun vs H Q _ => ∃ (h l q : Addr) (xs : List V), vs = [.ref h, .ref q] ∧ HeapAt H h l ∧ ((SqL K H q xs ∧ q ≠ h ∧ q ≠ l) ∨ H q = some (.tup xs)) ∧ 0 < xs.length ∧ xs.length ≤ 1000 ∧
  ∀ (v : V) (H' : Hp), v ∈ xs → HeapAt H' h l → Kh h l H H' → Q v H'
section
variable {P : Program} {w : World} {K : PySem.W.Frag} {mg : Str → Option Value} {base : Heap}
abbrev nHeap : List Str := ["script", "cells", "stir", "cell"]
theorem scHeap : FnScope nHeap ["script"] (defScope sHeap) := ⟨rfl, rfl, rfl, by decide +kernel, rfl, by decide +kernel, by decide +kernel⟩
theorem ok_heap {f : Addr} {fd : FuncData} (F : Fun K "_law_heap" "_law_heap" sHeap f fd) (T : TL mg) : FnOk P w K mg base CX0 1 f fd ["script"] (spHeap K) := by
  refine F.ok scHeap (fun vs H Q E h => ?_) (fun cdv A outer s H vs Q E hr h => ?_)
  · obtain ⟨a, ns, rfl, _⟩ := h
    rfl
  · obtain ⟨a, ns, rfl, hS, hl, k⟩ := h
    refine ⟨_, (pss_cons (ps_par (i := 1) (j := 2) (by rfl) scHeap.nd rfl rfl (by decide) rfl rfl (pa_cons (pe_lc (own := [("cell", 3)]) (g := gName 3) (tt := tYes) rfl scHeap.nd (pi_list (pe_slice sl_list (pv 0) po_none (po_some pe_int))) (blkOk_by (N := nHeap) (sc := defScope sHeap) (by decide +kernel)) (fun _ _ _ _ _ => pg_name (i := 3) scHeap.nd rfl (Or.inl rfl)) (fun _ _ _ _ _ => pts_nil) (fun _ _ _ _ _ => (pe_callB call_abs (by rfl) T.abs (by decide +kernel) (pa_cons (pv 3) pa_nil)))) (pa_cons pe_int pa_nil)) (by rfl))
        (pss_cons (ps_for PassesOwn.never rfl (pi_list (pv 1)) (pg_name (i := 3) scHeap.nd rfl (Or.inl rfl))
        (pss_one (ps_set (i := 2) scHeap.nd rfl (Or.inl rfl) (pe_op op_mod (pe_callTy call_int1 (by rfl) T.int boot_int (pa_cons (pe_op op_add (pe_op op_add (pe_op op_mul (pv 2) pe_int) (pe_op op_mod (pe_callTy call_int1 (by rfl) T.int boot_int (pa_cons (pv 3) pa_nil)) pe_int)) pe_int) pa_nil)) pe_int))))
        (pss_one (ps_ret (pe_lst (pa_cons (pe_revL (pe_lc (own := [("cell", 3)]) (g := gName 3) rfl scHeap.nd (pi_list (pv 1)) (blkOk_by (N := nHeap) (sc := defScope sHeap) (by decide +kernel)) (fun _ _ _ _ _ => pg_name (i := 3) scHeap.nd rfl (Or.inl rfl)) (fun _ _ _ _ _ => (pts_one (pt_cmpR op_ge (pv 3) (pe_op op_pow pe_int pe_int) (nomark _)))) (fun _ _ _ _ _ => (pv 3)))) (pa_cons (pv 2) pa_nil))))))), ?_⟩
    refine ⟨_, rfl, (60 : Int), rfl, a, _, rfl, hS, fun p1 hp1 => ?_⟩
    have S1 : L2.Same H (upd H p1 (.lst (cutV (ns.map V.int) none (some 60)))) := RK.Same.upd hp1
    have ec : cutV (ns.map V.int) none (some 60) = (ns.take 60).map V.int := cut_ints (k := 60)
    rw [ec] at S1 ⊢
    have hml : (ns.take 60).length ≤ 60 := by rw [List.length_take]; omega
    generalize ns.take 60 = ms at S1 hml ⊢
    refine ⟨p1, rfl, ⟨_, SqL.of upd_same⟩, fun C hC => ?_⟩
    have S2 : L2.Same H (upd (upd H p1 (.lst (ms.map V.int))) C (.lst [])) := RK.Same.updAt S1 (S1.free hC)
    have hCp : p1 ≠ C := fun z => by rw [← z, upd_same] at hC; cases hC
    refine lc_list (K := K) (a := p1) (xs := ms.map V.int) (fun i H' => L2.Same H H' ∧ H' p1 = some (.lst (ms.map V.int)) ∧ H' C = some (.lst ((ms.take i).map fun z => V.int (z.natAbs : Int))))
      ⟨S2, by rw [upd_ne hCp, upd_same], upd_same⟩ (fun i H' _ q => SqL.of q.2.1) ?_ ?_
    · rintro i v H' hi ⟨S, e1, e2⟩
      obtain ⟨z, hz, rfl⟩ : ∃ z, ms[i]? = some z ∧ v = V.int z := by
        rw [List.getElem?_map] at hi
        cases e : ms[i]? with
        | none => rw [e] at hi; cases hi
        | some z => rw [e] at hi; exact ⟨z, rfl, (Option.some.inj hi).symm⟩
      refine ⟨rfl, ?_⟩
      unfold tYes
      refine iteT ⟨_, rfl, _, rfl, _, e2, ?_, RK.Same.updAt S (S1.free hC), by rw [upd_ne hCp]; exact e1, ?_⟩
      · rw [List.length_map, List.length_take]
        exact Nat.lt_of_le_of_lt (Nat.min_le_right _ _) (Nat.lt_of_le_of_lt hml (by decide))
      · rw [upd_same, abs_if, List.take_add_one, hz, List.map_append]
        rfl
    · rintro Hc ⟨Sc, -, eC⟩
      rw [List.length_map, List.take_length] at eC
      have eC2 : Hc C = some (.lst ((ms.map fun z => (z.natAbs : Int)).map V.int)) := by rw [eC, List.map_map]; rfl
      have hal : (ms.map fun z => (z.natAbs : Int)).length ≤ 60 := by rw [List.length_map]; exact hml
      generalize (ms.map fun z => (z.natAbs : Int)) = as at eC2 hal
      refine ⟨_, _, rfl, ?_⟩
      refine ⟨_, rfl, C, rfl, ⟨_, SqL.of eC2⟩, for_list (K := K) (a := C) (xs := as.map V.int)
        (fun i σ H' => H' = Hc ∧ ∃ (t : Int) (v3 : Option V), σ = [some (.ref a), some (.ref C), some (.int t), v3] ∧ 0 ≤ t ∧ t < 2147483647)
        ⟨rfl, _, _, rfl, by decide, by decide⟩ (fun i σ H' _ q => by rw [q.1]; exact SqL.of eC2) ?_ ?_⟩
      · rintro i v σ H' hi ⟨rfl, t, v3, rfl, t0, t1⟩
        obtain ⟨z, hz, rfl⟩ : ∃ z, as[i]? = some z ∧ v = V.int z := by
          rw [List.getElem?_map] at hi
          cases e : as[i]? with
          | none => rw [e] at hi; cases hi
          | some z => rw [e] at hi; exact ⟨z, rfl, (Option.some.inj hi).symm⟩
        refine ⟨_, rfl, _, _, rfl, rfl, .inr ⟨by decide, by decide⟩, _, rfl, .inl ⟨_, rfl, _, _, rfl, rfl, (show (0 : Int) < 2147483543 by decide), _, _, rfl, rfl, _, _, rfl, rfl, .inl ⟨_, rfl, _, _, rfl, rfl, (show (0 : Int) < 2147483647 by decide), ?_⟩⟩⟩
        exact ⟨rfl, _, _, rfl, Int.emod_nonneg _ (by decide), Int.emod_lt_of_pos _ (by decide)⟩
      · rintro σ H' ⟨rfl, t, v3, rfl, t0, t1⟩
        refine ⟨_, rfl, C, rfl, ⟨_, SqL.of eC2⟩, fun D hD => ?_⟩
        refine lc_list (K := K) (a := C) (xs := as.map V.int) (fun i H2 => L2.Same H' H2 ∧ ∃ zs : List Int, H2 D = some (.lst (zs.map V.int)) ∧ zs.length ≤ i)
          ⟨RK.Same.upd hD, [], upd_same, Nat.le_refl 0⟩ (fun i H2 _ q => SqL.of (q.1 _ _ eC2)) ?_ ?_
        · rintro i v H2 hi ⟨S, zs, e2, zl⟩
          obtain ⟨z, hz, rfl⟩ : ∃ z, as[i]? = some z ∧ v = V.int z := by
            rw [List.getElem?_map] at hi
            cases e : as[i]? with
            | none => rw [e] at hi; cases hi
            | some z => rw [e] at hi; exact ⟨z, rfl, (Option.some.inj hi).symm⟩
          have hia : i < as.length := (List.getElem?_eq_some_iff.mp hz).1
          refine ⟨rfl, _, rfl, _, _, rfl, rfl, ⟨by decide, by decide, by decide⟩, _, _, rfl, rfl, _, rfl, ?_⟩
          refine ite2 (fun hb => ?_) (fun hb => ?_)
          · refine ⟨_, rfl, _, e2, ?_, RK.Same.updAt S hD, zs ++ [z], ?_, ?_⟩
            · rw [List.length_map]
              exact Nat.lt_of_lt_of_le (by omega : zs.length < 100) (by decide)
            · rw [upd_same, List.map_append]
              rfl
            · rw [List.length_append]
              exact Nat.add_le_add zl (Nat.le_refl 1)
          · exact ⟨S, zs, e2, Nat.le_succ_of_le zl⟩
        · rintro H2 ⟨S, zs, e2, zl⟩
          rw [List.length_map] at zl
          refine ⟨D, _, rfl, SqL.of e2, fun p hp => ⟨_, rfl, (by show 2 ≤ sizeLine; decide), fun h hh => ?_⟩⟩
          have S3 : L2.Same H (upd H2 p (.lst (zs.map V.int).reverse)) := RK.Same.updAt (Sc.trans S) ((Sc.trans S).free hp)
          have hph : h ≠ p := fun z => by rw [z, upd_same] at hh; cases hh
          refine k h p _ (RK.Same.updAt S3 (S3.free hh)) (S3.free hh) ((Sc.trans S).free hp) ⟨hph, zs.reverse, t, upd_same, ?_, t0, t1, ?_⟩
          · rw [upd_ne hph.symm, upd_same, List.map_reverse]
          · rw [List.length_reverse]
            omega
theorem scDraw : FnScope ["heap", "many", "rest"] ["heap", "many"] (defScope sDraw) := ⟨rfl, rfl, rfl, by decide +kernel, rfl, by decide +kernel, by decide +kernel⟩
def muZ (l : Addr) (H : Hp) : Nat := match H l with
  | some (.lst xs) => xs.length
  | _ => 0
theorem muZ_eq {H : Hp} {l : Addr} {xs : List V} (e2 : H l = some (.lst xs)) : muZ l H = xs.length := by
  unfold muZ
  simp only [e2]
theorem ok_draw {f : Addr} {fd : FuncData} (F : Fun K "_law_draw" "_law_draw" sDraw f fd) (T : TL mg) : FnOk P w K mg base CX0 1 f fd ["heap", "many"] spDraw := by
  refine F.ok scDraw (fun vs H Q E h => ?_) (fun cdv A outer s H vs Q E hr h => ?_)
  · obtain ⟨h, l, m, rfl, _⟩ := h
    rfl
  · obtain ⟨h, l, m, rfl, hH, m0, m1, k⟩ := h
    refine ⟨_, (pss_cons (ps_while PassesOwn.never (PW.pt (pw_and (pt_cmpR (r := rNeD K) (op_neD hr.units) (pe_ix (r := rIxL K) ix_list (pv 0) pe_int (fun _ _ => rfl)) (pe_lst pa_nil) (nomark _)) (pw_and1 (pt_cmpR op_eq (pe_ix (r := rIxL K) ix_list (pe_ix (r := rIxL K) ix_list (pv 0) pe_int (fun _ _ => rfl)) (pe_un un_neg pe_int) (fun _ _ => rfl)) pe_int (nomark _))))) (pss_one (ps_expr (pe_bm0 PySem.F.plainAttrs_list PySem.F.slot_list_pop PySem.F.type_list_pop mt_pop (pe_ix (r := rIxL K) ix_list (pv 0) pe_int (fun _ _ => rfl))))))
        (pss_cons (ps_if (pt_cmpR (r := rNeD K) (op_neD hr.units) (pe_ix (r := rIxL K) ix_list (pv 0) pe_int (fun _ _ => rfl)) (pe_lst pa_nil) (nomark _)) (pss_cons (ps_set (i := 2) scDraw.nd rfl (Or.inl rfl) (pe_bm0 PySem.F.plainAttrs_list PySem.F.slot_list_pop PySem.F.type_list_pop mt_pop (pe_ix (r := rIxL K) ix_list (pv 0) pe_int (fun _ _ => rfl))))
        (pss_cons (ps_expr (pe_bm PySem.F.plainAttrs_list PySem.F.slot_list_append PySem.F.type_list_append mt_append (pe_ix (r := rIxL K) ix_list (pv 0) pe_int (fun _ _ => rfl)) (pa_cons (pe_op op_fdivA (pv 2) (pv 1)) pa_nil)))
        (pss_one (ps_ret (pe_op op_modN (pe_callTy call_int1 (by rfl) T.int boot_int (pa_cons (pv 2) pa_nil)) (pv 1)))))) pss_nil)
        (pss_cons (ps_asg (pe_op op_mod (pe_callTy call_int1 (by rfl) T.int boot_int (pa_cons (pe_op op_add (pe_op op_mul (pe_ix (r := rIxL K) ix_list (pv 0) pe_int (fun _ _ => rfl)) pe_int) pe_int) pa_nil)) pe_int) (pg_sub (pv 0) pe_int set_list))
        (pss_one (ps_ret (pe_op op_modN (pe_callTy call_int1 (by rfl) T.int boot_int (pa_cons (pe_op op_fdiv (pe_ix (r := rIxL K) ix_list (pv 0) pe_int (fun _ _ => rfl)) pe_int) pa_nil)) (pv 1))))))), ?_⟩
    have dv : ∀ i : Int, DivAny i m := fun i => divAny (b := 20) (by omega) (by omega) (by decide) (by decide)
    refine seq_while (fun H' => HeapAt H' h l ∧ Kh h l H H') (muZ l) (fun H' => HeapAt H' h l ∧ Kh h l H H')
      (moT_and (moT_test (moE_op moR_neD (moE_op moR_ixL moE_var moE_c) moE_lst0)) (moT_test (moE_op moR_eq (moE_op moR_ixL (moE_op moR_ixL moE_var moE_c) (moE_un moE_c)) moE_c)))
      ⟨hH, Kh.refl h l H⟩ ?_ ?_
    · rintro H1 ⟨⟨ne, zs, s, e1, e2, s0, s1, zl⟩, kh⟩
      refine ixl rfl e1 rfl ⟨(by show 0 ≤ sizeLine; decide), fun q hq => ?_⟩
      have SQ : L2.Same H1 (upd H1 q (.lst [])) := RK.Same.upd hq
      have e1' := SQ _ _ e1
      have e2' := SQ _ _ e2
      have kh' := kh.trans (Kh.of (h := h) (l := l) SQ)
      refine ne_nil_ints (SQ _ _ e2) upd_same ⟨_, rfl, ?_⟩
      generalize upd H1 q (.lst []) = H2 at e1' e2' kh' SQ ⊢
      refine ite2 (fun hz => ?_) (fun hz => ?_)
      · rcases List.eq_nil_or_concat zs with rfl | ⟨ys, z, rfl⟩
        · exact absurd hz (by decide)
        · rw [List.concat_eq_append] at *
          rw [List.map_append] at e2'
          refine ixl rfl e1' rfl ⟨.inl ⟨rfl, _, SqL.of e2'⟩, l, _, .int z, rfl, rfl, e2', by simp, ?_⟩
          have e1'' : (upd H2 l (.lst ((ys.map V.int ++ [z].map V.int).dropLast))) h = some (.lst [.ref l, .int s]) := by rw [upd_ne ne]; exact e1'
          have e2'' : (upd H2 l (.lst ((ys.map V.int ++ [z].map V.int).dropLast))) l = some (.lst (ys.map V.int)) := by rw [upd_same]; simp
          have kh'' := kh'.trans (Kh.upd2 (h := h) (l := l) (H := H2) (o := .lst ((ys.map V.int ++ [z].map V.int).dropLast)))
          generalize upd H2 l (.lst ((ys.map V.int ++ [z].map V.int).dropLast)) = H3 at e1'' e2'' kh'' ⊢
          rw [List.length_append, List.length_singleton] at zl
          refine ixl rfl e1'' rfl ⟨.inl ⟨rfl, _, SqL.of e2''⟩, _, rfl, _, rfl, _, _, rfl, rfl, dv _, l, _, _, rfl, rfl, e2'', ?_, ?_⟩
          · rw [List.length_map]
            exact Nat.lt_of_lt_of_le (by omega : ys.length < 101) (by decide)
          · refine ⟨_, rfl, .inl ⟨_, rfl, _, rfl, _, _, rfl, rfl, (by omega : m ≠ 0), ?_⟩⟩
            obtain ⟨f0, f1⟩ := fmod_lt (a := z) m0
            obtain ⟨j, hj⟩ : ∃ j : Nat, z.fmod m = (j : Int) := ⟨(z.fmod m).toNat, by omega⟩
            show Q (.int (z.fmod m)) _
            rw [hj]
            refine k j _ (by omega) ⟨ne, ys ++ [z.fdiv m], s, ?_, ?_, s0, s1, ?_⟩ (kh''.trans Kh.upd2)
            · rw [upd_ne ne]
              exact e1''
            · rw [upd_same, List.map_append]
              rfl
            · rw [List.length_append, List.length_singleton]
              omega
      · refine ixl rfl e1' rfl ⟨_, _, rfl, rfl, .inr ⟨by decide, by decide⟩, _, _, rfl, rfl, .inl ⟨_, rfl, _, _, rfl, rfl, (show (0 : Int) < 2147483647 by decide), _, rfl, h, _, _, 1, rfl, rfl, e1', rfl, ?_⟩⟩
        have g0 := Int.emod_nonneg (s * 48271 + 11) (show (2147483647 : Int) ≠ 0 by decide)
        have g1 := Int.emod_lt_of_pos (s * 48271 + 11) (show (0 : Int) < 2147483647 by decide)
        have e1'' : (upd H2 h (.lst ([V.ref l, .int s].set 1 (.int ((s * 48271 + 11) % 2147483647))))) h = some (.lst [.ref l, .int ((s * 48271 + 11) % 2147483647)]) := by rw [upd_same]; rfl
        have e2'' : (upd H2 h (.lst ([V.ref l, .int s].set 1 (.int ((s * 48271 + 11) % 2147483647))))) l = some (.lst (zs.map V.int)) := by rw [upd_ne ne.symm]; exact e2'
        refine ixl rfl e1'' rfl ⟨_, _, rfl, rfl, ⟨by decide, by decide⟩, .inl ⟨_, rfl, _, rfl, _, _, rfl, rfl, (by omega : m ≠ 0), ?_⟩⟩
        obtain ⟨f0, f1⟩ := fmod_lt (a := ((s * 48271 + 11) % 2147483647) / 64) m0
        obtain ⟨j, hj⟩ : ∃ j : Nat, (((s * 48271 + 11) % 2147483647) / 64).fmod m = (j : Int) := ⟨((((s * 48271 + 11) % 2147483647) / 64).fmod m).toNat, by omega⟩
        show Q (.int ((((s * 48271 + 11) % 2147483647) / 64).fmod m)) _
        rw [hj]
        exact k j _ (by omega) ⟨ne, zs, ((s * 48271 + 11) % 2147483647), e1'', e2'', g0, g1, zl⟩ (kh'.trans Kh.upd1)
    · rintro H1 ⟨⟨ne, zs, s, e1, e2, s0, s1, zl⟩, kh⟩
      refine ixl rfl e1 rfl ⟨(by show 0 ≤ sizeLine; decide), fun q hq => ?_⟩
      have SQ : L2.Same H1 (upd H1 q (.lst [])) := RK.Same.upd hq
      refine ne_nil_ints (SQ _ _ e2) upd_same ⟨_, rfl, ?_⟩
      have e1' := SQ _ _ e1
      have e2' := SQ _ _ e2
      have kh' := kh.trans (Kh.of (h := h) (l := l) SQ)
      have mz : muZ l H1 = zs.length := by rw [muZ_eq e2, List.length_map]
      generalize upd H1 q (.lst []) = H2 at e1' e2' kh' SQ ⊢
      refine ite2 (fun hz => ?_) (fun hz => ?_)
      · rcases List.eq_nil_or_concat zs with rfl | ⟨ys, z, rfl⟩
        · exact absurd hz (by decide)
        · rw [List.concat_eq_append] at *
          rw [List.map_append] at e2'
          refine ixl rfl e1' rfl ⟨1, rfl, l, _, _, _, rfl, rfl, SqL.of e2', atI_last, rfl, _, rfl, ?_⟩
          refine ite2 (fun hp => ?_) (fun hp => ?_)
          · refine ixl rfl e1' rfl ⟨.inl ⟨rfl, _, SqL.of e2'⟩, l, _, .int z, rfl, rfl, e2', ?_, ⟨rfl, ⟨ne, ys, s, ?_, ?_, s0, s1, ?_⟩, kh'.trans Kh.upd2⟩, ?_⟩
            · simp
            · rw [upd_ne ne]
              exact e1'
            · rw [upd_same]
              simp
            · rw [List.length_append] at zl
              omega
            · rw [mz, muZ_eq upd_same]
              simp
          · exact ⟨⟨ne, ys ++ [z], s, e1', by rw [List.map_append]; exact e2', s0, s1, zl⟩, kh'⟩
      · exact ⟨⟨ne, zs, s, e1', e2', s0, s1, zl⟩, kh'⟩
theorem scPick : FnScope ["heap", "some"] ["heap", "some"] (defScope sPick) := ⟨rfl, rfl, rfl, by decide +kernel, rfl, by decide +kernel, by decide +kernel⟩
theorem ok_pick {f : Addr} {fd : FuncData} (F : Fun K "_law_pick" "_law_pick" sPick f fd) (T : TL mg) (c__law_draw : Cl P w K mg base CX0 1 "_law_draw" ["heap", "many"] spDraw) : FnOk P w K mg base CX0 2 f fd ["heap", "some"] (spPick K) := by
  refine F.ok scPick (fun vs H Q E h => ?_) (fun cdv A outer s H vs Q E hr h => ?_)
  · obtain ⟨h, l, q, xs, rfl, _⟩ := h
    rfl
  · obtain ⟨h, l, q, xs, rfl, hH, hq, h0, h1, k⟩ := h
    refine ⟨_, (pss_one (ps_ret (pe_ix ix_seq (pv 1) (pe_f c__law_draw hr (by decide) pass0 (pa_cons (pv 0) (pa_cons (pe_callB (r := rLenS K) call_lenS (by rfl) T.len PySem.boot_len (pa_cons (pv 1) pa_nil)) pa_nil))) (fun _ _ => rfl)))), ?_⟩
    have hsq : SqL K H q xs ∨ SqT K H q xs := hq.elim (fun z => .inl z.1) fun z => .inr (SqT.of z)
    refine ⟨_, rfl, _, rfl, _, rfl, q, _, rfl, hsq, h, l, _, rfl, hH, by omega, by omega, fun d H' hd hH' kh => ?_⟩
    have hdl : d < xs.length := by omega
    have hg : xs[d]? = some xs[d] := List.getElem?_eq_getElem hdl
    rcases hq with ⟨hq, n1, n2⟩ | hq
    · refine .inl ⟨q, xs, _, xs[d], rfl, rfl, ?_, atI_nat hg, k _ H' (List.getElem_mem hdl) hH' kh⟩
      rcases hq with (hq | ⟨o, hq⟩) | hq
      · exact .inl (.inl (kh _ _ hq n1 n2))
      · exact .inl (.inr ⟨o, kh _ _ hq n1 n2⟩)
      · exact .inr hq
    · obtain ⟨ne, zs, s, e1, e2, _⟩ := hH
      refine .inr (.inl ⟨q, xs, _, xs[d], rfl, rfl, SqT.of (kh _ _ hq (ne_of hq e1 (by intro z; cases z)) (ne_of hq e2 (by intro z; cases z))), atI_nat hg, k _ H' (List.getElem_mem hdl) hH' kh⟩)
end
end K01


set_option Elab.async false
set_option linter.all false
set_option maxRecDepth 100000
set_option maxHeartbeats 4000000
/-! drawn names -/
namespace K01
open PySem PySem.Spec PyProof.Rows L2 RK
abbrev sNames : Stmt := topL 29
def spNames : Sp := fun vs H Q _ => ∃ (h l : Addr) (n : Nat), vs = [.ref h, .int (n : Int)] ∧ HeapAt H h l ∧ n ≤ 24 ∧
  ∀ (p : Addr) (names : List Str) (H' : Hp), HeapAt H' h l → Kh h l H H' → H p = none → H' p = some (.lst (names.map V.str)) → names.length = n → names.Nodup → (∀ x ∈ names, NameOk x) → Q (.ref p) H'
section
variable {P : Program} {w : World} {K : PySem.W.Frag} {mg : Str → Option Value} {base : Heap}
abbrev nNames : List Str := ["heap", "many", "letters", "found", "front", "turn", "word", "letter", "place"]
theorem scNames : FnScope nNames ["heap", "many"] (defScope sNames) := ⟨rfl, rfl, rfl, by decide +kernel, rfl, by decide +kernel, by decide +kernel⟩
theorem ok_names {f : Addr} {fd : FuncData} (F : Fun K "_law_names" "_law_names" sNames f fd) (T : TL mg) (c__law_draw : Cl P w K mg base CX0 1 "_law_draw" ["heap", "many"] spDraw) (c__law_pick : Cl P w K mg base CX0 2 "_law_pick" ["heap", "some"] (spPick K)) :
    FnOk P w K mg base CX0 3 f fd ["heap", "many"] spNames := by
  refine F.ok scNames (fun vs H Q E h => ?_) (fun cdv A outer s H vs Q E hr h => ?_)
  · obtain ⟨h, l, n, rfl, _⟩ := h
    rfl
  · obtain ⟨h, l, n, rfl, hH, hn, k⟩ := h
    refine ⟨_, (pss_cons (ps_asg (pe_tup (pa_cons pe_str (pa_cons (pe_lst pa_nil) pa_nil))) (pg_tup (n := 2) rfl (pgs_cons (pg_name (i := 2) scNames.nd rfl (Or.inr rfl)) (pgs_cons (pg_name (i := 3) scNames.nd rfl (Or.inl rfl)) pgs_nil))))
        (pss_cons (ps_set (i := 4) scNames.nd rfl (Or.inl rfl) (pe_f c__law_pick hr (by decide) pass0 (pa_cons (pv 0) (pa_cons (pe_lst (pa_cons pe_str (pa_cons pe_str (pa_cons (pe_ix ix_str (pv 2) (pe_f c__law_draw hr (by decide) pass0 (pa_cons (pv 0) (pa_cons pe_int pa_nil))) (fun _ _ => rfl)) (pa_cons (pe_op op_repS (pe_ix ix_str (pv 2) (pe_f c__law_draw hr (by decide) pass0 (pa_cons (pv 0) (pa_cons pe_int pa_nil))) (fun _ _ => rfl)) pe_int) pa_nil))))) pa_nil))))
        (pss_cons (ps_for PassesOwn.never rfl (pi_range1 (by rfl) T.range (pa_cons (pv 1) pa_nil)) (pg_name (i := 5) scNames.nd rfl (Or.inl rfl))
        (pss_cons (ps_set (i := 6) scNames.nd rfl (Or.inl rfl) (pe_op op_add_str (pv 4) (pe_join pe_str (pe_lc (own := [("place", 8)]) (g := gName 8) (tt := tYes) rfl scNames.nd (pi_range1 (by rfl) T.range (pa_cons (pe_op op_add pe_int (pe_f c__law_draw hr (by decide) pass0 (pa_cons (pv 0) (pa_cons pe_int pa_nil)))) pa_nil)) (blkOk_by (N := nNames) (sc := defScope sNames) (by decide +kernel)) (fun _ _ _ _ _ => pg_name (i := 8) scNames.nd rfl (Or.inl rfl)) (fun _ _ _ _ _ => pts_nil) (fun _ _ _ _ _ => (pe_ix ix_str (pv 2) (pe_f c__law_draw hr (by decide) pass0 (pa_cons (pv 0) (pa_cons pe_int pa_nil))) (fun _ _ => rfl)))))))
        (pss_cons (ps_for PassesOwn.never rfl (pi_str (pv 2)) (pg_name (i := 7) scNames.nd rfl (Or.inl rfl))
        (pss_one (ps_set (i := 6) scNames.nd rfl (Or.inl rfl) (pe_ifExp (pt_cmpR op_in_seq (pv 6) (pv 3) (by rfl)) (pe_op op_add_str (pe_slice sl_str (pv 6) po_none (po_some pe_int)) (pv 7)) (pv 6)))))
        (pss_one (ps_expr (pe_bm PySem.F.plainAttrs_list PySem.F.slot_list_append PySem.F.type_list_append mt_append (pv 3) (pa_cons (pv 6) pa_nil)))))))
        (pss_one (ps_ret (pv 3)))))), ?_⟩
    refine ⟨(by show 0 ≤ sizeLine; decide), fun p hp => ⟨(by show 2 ≤ sizeLine; decide), fun tp htp => ?_⟩⟩
    have S1 : L2.Same H (upd H p (.lst [])) := RK.Same.upd hp
    refine ⟨tp, _, rfl, SqT.of upd_same, rfl, _, _, rfl, _, _, rfl, rfl, ?_⟩
    have e1 : (upd (upd H p (.lst [])) tp (.tup [.str lettersS, .ref p])) p = some (.lst []) := by
      rw [upd_ne (fun z => by rw [← z, upd_same] at htp; cases htp), upd_same]
    have S2 : L2.Same H (upd (upd H p (.lst [])) tp (.tup [.str lettersS, .ref p])) := RK.Same.updAt S1 (S1.free htp)
    generalize upd (upd H p (.lst [])) tp (.tup [.str lettersS, .ref p]) = H2 at e1 S2 ⊢
    have hH2 := hH.same S2
    have Kp2 : Kh h l H H2 := Kh.of S2
    obtain ⟨hne, zs, s0, f1, f2, _⟩ := id hH
    have hph : p ≠ h := fun z => by rw [z, f1] at hp; cases hp
    have hpl : p ≠ l := fun z => by rw [z, f2] at hp; cases hp
    refine ⟨_, rfl, _, rfl, _, rfl, h, l, _, rfl, hH2, by decide, by decide, fun d1 H3 hd1 hH3 k3 => ix_letter (by omega) ⟨_, rfl, _, rfl, h, l, _, rfl, hH3, by decide, by decide, fun d2 H4 hd2 hH4 k4 => ix_letter (by omega)
      ⟨_, _, rfl, rfl, by decide, by decide, (by show 1 ≤ 1; decide), (by show 1 ≤ 1000; decide), (by show 4 ≤ sizeLine; decide), fun q hq => ?_⟩⟩⟩
    obtain ⟨-, zs4, s4, g1, g2, _⟩ := id hH4
    have hqh : q ≠ h := fun z => by rw [z, g1] at hq; cases hq
    have hql : q ≠ l := fun z => by rw [z, g2] at hq; cases hq
    have S4 := RK.Same.upd (o := .lst [.str "", .str "", .str ⟨#[97 + d1]⟩, .str (repS ⟨#[97 + d2]⟩ 2)]) hq
    refine ⟨h, l, q, _, rfl, hH4.same S4, .inl ⟨SqL.of upd_same, hqh, hql⟩, (by show 0 < 4; decide), (by show 4 ≤ 1000; decide), fun v H5 hv hH5 k5 => ?_⟩
    obtain ⟨fr, rfl, fl, fs⟩ : ∃ fr : Str, v = .str fr ∧ fr.length ≤ 2 ∧ LowS fr := by
      have l1 := low_one (d := d1) (by omega)
      have l2 := low_rep (low_one (d := d2) (by omega))
      simp only [List.mem_cons, List.not_mem_nil, or_false] at hv
      rcases hv with rfl | rfl | rfl | rfl
      · exact ⟨_, rfl, by decide, low_empty⟩
      · exact ⟨_, rfl, by decide, low_empty⟩
      · exact ⟨_, rfl, (by show 1 ≤ 2; decide), l1⟩
      · exact ⟨_, rfl, (by rw [l2.2]; show 2 * 1 ≤ 2; decide), l2.1⟩
    have K5 : Kh h l H H5 := (((Kp2.trans k3).trans k4).trans (Kh.of S4)).trans k5
    have e5 : H5 p = some (.lst []) := k5 _ _ (S4 _ _ (k4 _ _ (k3 _ _ e1 hph hpl) hph hpl)) hph hpl
    refine ⟨_, rfl, (n : Int), rfl, by omega, by omega, for_range (fun i σ H' => ∃ (v5 v6 v7 : Option V) (names : List Str), σ = [some (.ref h), some (.int (n : Int)), some (.str lettersS), some (.ref p), some (.str fr), v5, v6, v7, none] ∧ HeapAt H' h l ∧ Kh h l H H' ∧
      H' p = some (.lst (names.map V.str)) ∧ names.length = i ∧ names.Nodup ∧ ∀ x ∈ names, NameOk x) ⟨_, _, _, [], rfl, hH5, K5, e5, rfl, List.nodup_nil, fun x hx => absurd hx List.not_mem_nil⟩ ?_ ?_⟩
    · rintro i σ H6 hi ⟨v5, v6, v7, names, rfl, hH6, K6, e6, nl, nd, nok⟩
      have hi' : i < n := by omega
      refine ⟨_, rfl, ⟨_, rfl⟩, _, rfl, h, l, _, rfl, hH6, by decide, by decide, fun d3 H7 hd3 hH7 k7 => ⟨_, _, rfl, rfl, _, rfl, by omega, by omega, fun C hC => ?_⟩⟩
      have e7 := k7 _ _ e6 hph hpl
      obtain ⟨-, zs7, s7, g1, g2, _⟩ := id hH7
      have hCh : C ≠ h := fun z => by rw [z, g1] at hC; cases hC
      have hCl : C ≠ l := fun z => by rw [z, g2] at hC; cases hC
      have hCp : C ≠ p := fun z => by rw [z, e7] at hC; cases hC
      have hC0 : H C = none := by
        cases e : H C with
        | none => rfl
        | some o =>
          have := (K6.trans k7) _ _ e hCh hCl
          rw [hC] at this
          cases this
      refine lc_range (lo := 0) (fun j H' => HeapAt H' h l ∧ Kh h l H H' ∧ H' p = some (.lst (names.map V.str)) ∧ ∃ ys : List Str, H' C = some (.lst (ys.map V.str)) ∧ ys.length = j ∧ ∀ y ∈ ys, LowS y ∧ y.length = 1)
        ⟨hH7.same (RK.Same.upd hC), (K6.trans k7).trans (Kh.of (RK.Same.upd hC)), by rw [upd_ne hCp.symm]; exact e7, [], upd_same, rfl, fun y hy => absurd hy List.not_mem_nil⟩ ?_ ?_
      · rintro j H8 hj ⟨hH8, K8, e8, ys, c8, yl, yw⟩
        refine ⟨rfl, ?_⟩
        unfold tYes
        refine iteT ⟨_, rfl, _, rfl, h, l, _, rfl, hH8, by decide, by decide, fun d4 H9 hd4 hH9 k9 => ix_letter (by omega) ⟨_, k9 _ _ c8 hCh hCl, ?_, ?_⟩⟩
        · rw [List.length_map]
          exact Nat.lt_of_lt_of_le (by omega : ys.length < 100) (by decide)
        · obtain ⟨-, zs9, s9, g1, g2, g3⟩ := hH9
          refine ⟨⟨hne, zs9, s9, by rw [upd_ne hCh.symm]; exact g1, by rw [upd_ne hCl.symm]; exact g2, g3⟩, fun b o hb n1 n2 => ?_, by rw [upd_ne hCp.symm]; exact k9 _ _ e8 hph hpl, ys ++ [⟨#[97 + d4]⟩], by rw [upd_same, List.map_append]; rfl, by rw [List.length_append, yl]; rfl, fun y hy => ?_⟩
          · rw [upd_ne (ne_of_none hb hC0)]
            exact (K8.trans k9) _ _ hb n1 n2
          · rcases List.mem_append.mp hy with hy | hy
            · exact yw y hy
            · rw [List.mem_singleton.mp hy]
              exact ⟨low_one (by omega), rfl⟩
      · rintro H8 ⟨hH8, K8, e8, ys, c8, yl, yw⟩
        obtain ⟨w1, w2⟩ := join_word yw
        refine ⟨_, C, ys, rfl, rfl, .inl (SqL.of c8), ?_, _, _, rfl, rfl, ?_, ?_⟩
        · rw [ones_sum yw]
          show ys.length + ys.length * 0 ≤ _
          omega
        · rw [w2]
          exact Nat.le_trans (by omega : _ ≤ 100) (by decide)
        have hw0 : Word (fr ++ Txt.join ("" : Str) ys) := by
          refine ⟨?_, ?_, low_app fs w1⟩
          · rw [app_len, w2]
            omega
          · rw [app_len, w2]
            omega
        refine ⟨_, rfl, lettersS, rfl, for_it walk_str (fun m σ H' => H' = H8 ∧ ∃ (v7 : Option V) (wd : Str), σ = [some (.ref h), some (.int (n : Int)), some (.str lettersS), some (.ref p), some (.str fr), some (.int ((0 : Int) + (i : Nat))), some (.str wd), v7, none] ∧ Word wd ∧ Fresh names m wd)
          ⟨rfl, _, _, rfl, hw0, fresh_zero _ _⟩ (fun _ _ _ _ _ => trivial) ?_ ?_⟩
        · rintro m v σ H9 H10 hm ⟨rfl, v7, wd, rfl, hw, hf⟩ ⟨rfl, c, hc, rfl⟩
          have hm26 : m < 26 := by rw [← lets_len]; exact hm
          obtain rfl : c = 97 + m := by
            have e := let_at m hm26
            rw [Array.getElem?_toList, hc] at e
            exact Option.some.inj e
          refine ⟨_, rfl, _, rfl, p, _, rfl, .inl (SqL.of e8), rfl, flat_strs names, _, rfl, ?_⟩
          show if (inV (.str wd) (names.map V.str)) = true then _ else _
          rw [inV_str]
          have hn1 := fresh_step hf
          have hn2 := word_next (found := names) hm26 hw
          refine ite2 (fun hb => ?_) (fun hb => ?_)
          · have hx : nextW names m wd = cutS wd none (some 4) ++ ⟨#[97 + m]⟩ := if_pos (of_decide_eq_true hb)
            rw [hx] at hn1 hn2
            have hcl : (cutS wd none (some 4)).length ≤ 4 := by
              rw [RK.len_list, cut_list, List.length_take]
              omega
            refine ⟨_, rfl, (4 : Int), rfl, wd, rfl, Nat.le_trans hw.2.1 (by decide), _, rfl, _, _, rfl, rfl, ?_, ?_⟩
            · show (cutS wd none (some 4)).length + 1 ≤ sizeLine
              exact Nat.le_trans (by omega : _ ≤ 5) (by decide)
            · exact ⟨rfl, _, _, rfl, hn2, hn1⟩
          · have hx : nextW names m wd = wd := if_neg fun z => hb (decide_eq_true z)
            rw [hx] at hn1 hn2
            exact ⟨_, rfl, rfl, _, _, rfl, hn2, hn1⟩
        · rintro σ H9 ⟨rfl, v7, wd, rfl, hw, hf⟩
          rw [lets_len] at hf
          have hfr := fresh_end hf (by omega)
          refine ⟨_, rfl, .inl ⟨rfl, _, SqL.of e8⟩, _, rfl, p, _, _, rfl, rfl, e8, ?_, ?_⟩
          · rw [List.length_map]
            exact Nat.lt_of_lt_of_le (by omega : names.length < 100) (by decide)
          · obtain ⟨-, zs9, s9, g1, g2, g3⟩ := hH8
            refine ⟨_, _, _, names ++ [wd], rfl, ⟨hne, zs9, s9, by rw [upd_ne hph.symm]; exact g1, by rw [upd_ne hpl.symm]; exact g2, g3⟩, fun b o hb n1 n2 => ?_, by rw [upd_same, List.map_append]; rfl, by rw [List.length_append, nl]; rfl, ?_, fun x hx => ?_⟩
            · rw [upd_ne (ne_of_none hb hp)]
              exact K8 _ _ hb n1 n2
            · rw [List.nodup_append]
              refine ⟨nd, by simp, fun a ha b hb e => ?_⟩
              rw [List.mem_singleton.mp hb] at e
              exact hfr (e ▸ ha)
            · rcases List.mem_append.mp hx with hx | hx
              · exact nok x hx
              · rw [List.mem_singleton.mp hx]
                exact hw.name
    · rintro σ H6 ⟨v5, v6, v7, names, rfl, hH6, K6, e6, nl, nd, nok⟩
      refine ⟨_, rfl, k p names H6 hH6 K6 hp e6 (by rw [nl]; omega) nd nok⟩
end
end K01


set_option Elab.async false
set_option linter.all false
set_option maxRecDepth 100000
set_option maxHeartbeats 4000000
/-! drawn rooms -/
namespace K01
open PySem PySem.Spec PyProof.Rows L2 RK
abbrev sApart : Stmt := topL 30
abbrev sRooms : Stmt := topL 31
def spApart : Sp := fun vs H Q _ => ∃ (R t : Addr) (x : Str) (rs : List (Addr × Rm)) (taken : List Str), vs = [.ref R, .ref t, .str x] ∧ H R = some (.lst (refsOf rs)) ∧ RoomsIn H rs ∧ H t = some (.lst (taken.map V.str)) ∧ taken.length ≤ 100 ∧
  ∀ H', L2.Same H H' → Q (.bl (apartB (rmsOf rs) taken x)) H'
section
variable {P : Program} {w : World} {K : PySem.W.Frag} {mg : Str → Option Value} {base : Heap}
abbrev nApart : List Str := ["rooms", "taken", "one", "room", "other"]
theorem scApart : FnScope nApart ["rooms", "taken", "one"] (defScope sApart) := ⟨rfl, rfl, rfl, by decide +kernel, rfl, by decide +kernel, by decide +kernel⟩
theorem refs_at {rs : List (Addr × Rm)} {i : Nat} {v : V} (h : (refsOf rs)[i]? = some v) : ∃ r, rs[i]? = some r ∧ v = V.ref r.1 := by
  unfold refsOf at h
  rw [List.getElem?_map] at h
  cases e : rs[i]? with
  | none => rw [e] at h; cases h
  | some z => rw [e] at h; exact ⟨z, rfl, (Option.some.inj h).symm⟩
theorem strs_at {ys : List Str} {i : Nat} {v : V} (h : (ys.map V.str)[i]? = some v) : ∃ y, ys[i]? = some y ∧ v = V.str y := by
  rw [List.getElem?_map] at h
  cases e : ys[i]? with
  | none => rw [e] at h; cases h
  | some z => rw [e] at h; exact ⟨z, rfl, (Option.some.inj h).symm⟩
theorem inV_strB (x : Str) (ys : List Str) : inV (.str x) (ys.map V.str) = decide (x ∈ ys) := inV_str x ys
theorem ok_apart {f : Addr} {fd : FuncData} (F : Fun K "_law_apart" "_law_apart" sApart f fd) (T : TL mg) : FnOk P w K mg base CX0 1 f fd ["rooms", "taken", "one"] spApart := by
  refine F.ok scApart (fun vs H Q E h => ?_) (fun cdv A outer s H vs Q E hr h => ?_)
  · obtain ⟨R, t, x, rs, taken, rfl, _⟩ := h
    rfl
  · obtain ⟨R, t, x, rs, taken, rfl, hR, hI, ht, htl, k⟩ := h
    refine ⟨_, (pss_cons (ps_for PassesOwn.never rfl (pi_list (pv 0)) (pg_name (i := 3) scApart.nd rfl (Or.inr rfl))
        (pss_one (ps_if (PW.pt (pw_and (pt_cmpR (r := rIn K false) op_in_seq (pv 2) (pv 3) (by rfl)) (pw_and1 (pt_val (pe_callB (r := rAny K) (cr_any rfl) (by rfl) T.any (by decide +kernel) (pa_cons (pe_lc (own := [("other", 4)]) (g := gName 4) (tt := tYes) rfl scApart.nd (pi_list (pv 1)) (blkOk_by (N := nApart) (sc := defScope sApart) (by decide +kernel)) (fun _ _ _ _ _ => pg_name (i := 4) scApart.nd rfl (Or.inl rfl)) (fun _ _ _ _ _ => pts_nil) (fun _ _ _ _ _ => (pe_cmpR (r := rIn K false) op_in_seq (pv 4) (pv 3) (by rfl)))) pa_nil)))))) (pss_one (ps_ret pe_bl)) pss_nil)))
        (pss_one (ps_ret (pe_cmpR (r := rIn K true) op_notIn_seq (pv 2) (pv 1) (by rfl))))), ?_⟩
    refine ⟨_, rfl, R, rfl, ⟨_, SqL.of hR⟩, for_list (K := K) (a := R) (xs := refsOf rs)
      (fun i σ H' => (∃ v3 : Option V, σ = [some (.ref R), some (.ref t), some (.str x), v3, none]) ∧ L2.Same H H' ∧ ((rmsOf rs).take i).all (fun r => !(decide (x ∈ r) && taken.any fun y => decide (y ∈ r))) = true)
      ⟨⟨_, rfl⟩, L2.Same.refl H, rfl⟩ (fun i σ H' _ q => SqL.of (q.2.1 _ _ hR)) ?_ ?_⟩
    · rintro i v σ H1 hi ⟨⟨v3, rfl⟩, S, ha⟩
      obtain ⟨r, hr', rfl⟩ := refs_at hi
      have hm := List.mem_of_getElem? hr'
      have hrm : (rmsOf rs)[i]? = some r.2 := by
        unfold rmsOf
        rw [List.getElem?_map, hr']
        rfl
      have hst : ((rmsOf rs).take (i + 1)).all (fun r => !(decide (x ∈ r) && taken.any fun y => decide (y ∈ r))) = !(decide (x ∈ r.2) && taken.any fun y => decide (y ∈ r.2)) := by
        rw [List.take_add_one, hrm, List.all_append, ha]
        simp
      have hno : (decide (x ∈ r.2) && taken.any fun y => decide (y ∈ r.2)) = true → apartB (rmsOf rs) taken x = false := fun h => by
        unfold apartB
        rw [Bool.and_eq_false_iff]
        refine .inl (List.all_eq_false.mpr ⟨r.2, List.mem_map_of_mem hm, ?_⟩)
        rw [h]
        decide
      refine ⟨_, rfl, _, rfl, r.1, _, rfl, .inr (SqT.of (S _ _ (hI r hm))), rfl, flat_strs r.2, _, rfl, ?_⟩
      show if (inV (.str x) (r.2.map V.str)) = true then _ else _
      rw [inV_str]
      refine ite2 (fun hb => ?_) (fun hb => ?_)
      · refine ⟨_, rfl, t, rfl, ⟨_, SqL.of (S _ _ ht)⟩, fun D hD => ?_⟩
        refine lc_list (K := K) (a := t) (xs := taken.map V.str) (fun j H' => L2.Same H1 H' ∧ H' D = some (.lst (((taken.take j).map fun y => decide (y ∈ r.2)).map V.bl))) ⟨RK.Same.upd hD, upd_same⟩ (fun j H' _ q => SqL.of (q.1 _ _ (S _ _ ht))) ?_ ?_
        · rintro j v H2 hj ⟨S2, e2⟩
          obtain ⟨y, hy, rfl⟩ := strs_at hj
          refine ⟨rfl, ?_⟩
          unfold tYes
          refine iteT ⟨_, rfl, _, rfl, r.1, _, rfl, .inr (SqT.of (S2 _ _ (S _ _ (hI r hm)))), rfl, flat_strs r.2, _, e2, ?_, RK.Same.updAt S2 hD, ?_⟩
          · rw [List.length_map, List.length_map, List.length_take]
            exact Nat.lt_of_lt_of_le (by omega : min j taken.length < 101) (by decide)
          · rw [upd_same, List.take_add_one, hy, List.map_append, List.map_append]
            show some (HO.lst (_ ++ [V.bl (inV (.str y) (r.2.map V.str))])) = _
            rw [inV_str]
            rfl
        · rintro H2 ⟨S2, e2⟩
          rw [List.length_map, List.take_length] at e2
          refine ⟨D, _, rfl, SqL.of e2, _, rfl, ?_⟩
          have ea : (taken.map fun y => decide (y ∈ r.2)).any id = taken.any fun y => decide (y ∈ r.2) := by rw [List.any_map]; rfl
          rw [ea]
          refine ite2 (fun hc => ?_) (fun hc => ?_)
          · have := k H2 (S.trans S2)
            rw [hno (by rw [hb, hc]; rfl)] at this
            exact this
          · refine ⟨⟨_, rfl⟩, S.trans S2, ?_⟩
            rw [hst, Bool.eq_false_iff.mpr hc, Bool.and_false]
            rfl
      · refine ⟨⟨_, rfl⟩, S, ?_⟩
        rw [hst, Bool.eq_false_iff.mpr hb]
        rfl
    · rintro σ H1 ⟨⟨v3, rfl⟩, S, ha⟩
      refine ⟨_, rfl, _, rfl, t, _, rfl, .inl (SqL.of (S _ _ ht)), rfl, flat_strs taken, ?_⟩
      have := k H1 S
      rw [if_pos rfl, inV_str]
      have e : apartB (rmsOf rs) taken x = !decide (x ∈ taken) := by
        have hl : (refsOf rs).length = (rmsOf rs).length := by unfold refsOf rmsOf; rw [List.length_map, List.length_map]
        rw [hl, List.take_length] at ha
        unfold apartB
        rw [ha, Bool.true_and]
        by_cases h : x ∈ taken
        · rw [decide_eq_true h, decide_eq_false (not_not_intro h)]
          rfl
        · rw [decide_eq_false h, decide_eq_true h]
          rfl
      rw [← e]
      exact this
/-- a pick that is put behind a list -/
theorem pick_app {D : Ends} {σ : L2.St} {H' : Hp} {h l p O : Addr} {i : Nat} {xs : List Str} {ys : List V} (h0 : σ[0]? = some (some (.ref h))) (h8 : σ[8]? = some (some (.ref p))) (hi : σ[i]? = some (some (.ref O)))
    (hH : HeapAt H' h l) (hO : H' O = some (.lst (xs.map V.str))) (ne : xs ≠ []) (hl : xs.length ≤ 1000) (n1 : O ≠ h) (n2 : O ≠ l) (hp : H' p = some (.lst ys)) (n3 : p ≠ h) (n4 : p ≠ l) (hy : ys.length < sizeLine)
    (k : ∀ (x : Str) (H2 : Hp), x ∈ xs → HeapAt H2 h l → Kh h l H' H2 → D.nx σ (upd H2 p (.lst (ys ++ [.str x])))) :
    tDrop (tBM K "list" rAppend (tVar 8) (tCons (tCall (spPick K) [] E0 (tCons (tVar 0) (tCons (tVar i) tNil))) tNil)) D σ H' := by
  refine ⟨_, h8, .inl ⟨rfl, _, SqL.of hp⟩, _, h0, _, hi, h, l, O, _, rfl, hH, .inl ⟨SqL.of hO, n1, n2⟩, ?_, ?_, fun v H2 hv hH2 k2 => ?_⟩
  · rw [List.length_map]
    exact List.length_pos_iff.mpr ne
  · rw [List.length_map]
    exact hl
  · obtain ⟨x, hx, rfl⟩ := List.mem_map.mp hv
    exact ⟨p, _, _, rfl, rfl, k2 _ _ hp n3 n4, hy, k x H2 hx hH2 k2⟩
/-- what stands while rooms are drawn -/
structure StR (H H' : Hp) (h l R U : Addr) (rs : List (Addr × Rm)) (us : List Str) : Prop where
  heap : HeapAt H' h l
  kh : Kh h l H H'
  r : H' R = some (.lst (refsOf rs))
  rin : RoomsIn H' rs
  u : H' U = some (.lst (us.map V.str))
  rh : R ≠ h
  rl : R ≠ l
  uh : U ≠ h
  ul : U ≠ l
  ru : R ≠ U
  r0 : H R = none
theorem RoomsIn.kh {h l : Addr} {H H' : Hp} {rs : List (Addr × Rm)} (hH : HeapAt H h l) (k : Kh h l H H') (a : RoomsIn H rs) : RoomsIn H' rs := fun r hr => by
  obtain ⟨-, zs, s, e1, e2, _⟩ := hH
  exact k _ _ (a r hr) (ne_of (a r hr) e1 (by intro z; cases z)) (ne_of (a r hr) e2 (by intro z; cases z))
theorem RoomsIn.updL {p : Addr} {H : Hp} {o : HO} {xs : List V} {rs : List (Addr × Rm)} (hp : H p = some (.lst xs)) (a : RoomsIn H rs) : RoomsIn (upd H p o) rs := fun r hr => by
  rw [upd_ne (ne_of (a r hr) hp (by intro z; cases z))]
  exact a r hr
theorem StR.same {H H1 H2 : Hp} {h l R U : Addr} {rs : List (Addr × Rm)} {us : List Str} (a : StR H H1 h l R U rs us) (S : L2.Same H1 H2) : StR H H2 h l R U rs us :=
  { a with heap := a.heap.same S, kh := a.kh.trans (Kh.of S), r := S _ _ a.r, rin := a.rin.same S, u := S _ _ a.u }
theorem StR.khs {H H1 H2 : Hp} {h l R U : Addr} {rs : List (Addr × Rm)} {us : List Str} (a : StR H H1 h l R U rs us) (hh : HeapAt H2 h l) (k : Kh h l H1 H2) : StR H H2 h l R U rs us :=
  { a with heap := hh, kh := a.kh.trans k, r := k _ _ a.r a.rh a.rl, rin := RoomsIn.kh a.heap k a.rin, u := k _ _ a.u a.uh a.ul }
theorem heap_updO {H : Hp} {h l p : Addr} {o : HO} (a : HeapAt H h l) (n1 : p ≠ h) (n2 : p ≠ l) : HeapAt (upd H p o) h l := by
  obtain ⟨ne, zs, s, e1, e2, e3⟩ := a
  exact ⟨ne, zs, s, by rw [upd_ne n1.symm]; exact e1, by rw [upd_ne n2.symm]; exact e2, e3⟩
theorem StR.updp {H H1 : Hp} {h l R U p : Addr} {o : HO} {xs : List V} {rs : List (Addr × Rm)} {us : List Str} (a : StR H H1 h l R U rs us) (hp : H1 p = some (.lst xs)) (p0 : H p = none) (n1 : p ≠ h) (n2 : p ≠ l) (n3 : p ≠ R) (n4 : p ≠ U) : StR H (upd H1 p o) h l R U rs us :=
  { a with
    heap := heap_updO a.heap n1 n2
    kh := fun b u hb m1 m2 => by rw [upd_ne (ne_of_none hb p0)]; exact a.kh _ _ hb m1 m2
    r := by rw [upd_ne n3.symm]; exact a.r
    rin := a.rin.updL hp
    u := by rw [upd_ne n4.symm]; exact a.u }
theorem StR.newp {H H1 : Hp} {h l R U : Addr} {rs : List (Addr × Rm)} {us : List Str} (a : StR H H1 h l R U rs us) {p : Addr} (hp : H1 p = none) : p ≠ h ∧ p ≠ l ∧ p ≠ R ∧ p ≠ U ∧ H p = none := by
  obtain ⟨-, zs, s, e1, e2, _⟩ := a.heap
  have n1 : p ≠ h := fun z => by rw [z, e1] at hp; cases hp
  have n2 : p ≠ l := fun z => by rw [z, e2] at hp; cases hp
  refine ⟨n1, n2, (fun z => by rw [z, a.r] at hp; cases hp), (fun z => by rw [z, a.u] at hp; cases hp), ?_⟩
  cases e : H p with
  | none => rfl
  | some o =>
    have := a.kh _ _ e n1 n2
    rw [hp] at this
    cases this
theorem StR.newu {H H1 : Hp} {h l R U U2 : Addr} {rs : List (Addr × Rm)} {us vs : List Str} (a : StR H H1 h l R U rs us) (hu : H1 U2 = some (.lst (vs.map V.str))) (n1 : U2 ≠ h) (n2 : U2 ≠ l) (n3 : R ≠ U2) : StR H H1 h l R U2 rs vs :=
  { a with u := hu, uh := n1, ul := n2, ru := n3 }
theorem low_ok {x : Str} (h : LowS x) : PyData.strOk x = true := by
  unfold PyData.strOk
  rw [Array.all_eq_true']
  intro c hc
  have := h c (Array.mem_toList_iff.mpr hc)
  unfold lowB at this
  rw [Bool.and_eq_true, decide_eq_true_eq, decide_eq_true_eq] at this
  exact decide_eq_true (by omega)
theorem filt_take {l : List Str} {q : Str → Bool} {i : Nat} {x : Str} (h : l[i]? = some x) : (l.take (i + 1)).filter q = if q x = true then (l.take i).filter q ++ [x] else (l.take i).filter q := by
  rw [List.take_add_one, h, List.filter_append]
  by_cases hx : q x = true
  · rw [if_pos hx]
    simp [hx]
  · rw [if_neg hx]
    simp [hx]
/-- a room is being made -/
def InvJ (H : Hp) (h l Nm R U p : Addr) (a2 a3 a6 a7 : V) (names : List Str) (rs : List (Addr × Rm)) (us : List Str) (j : Nat) (σ : L2.St) (H' : Hp) : Prop :=
  ∃ (v9 v10 v11 : Option V) (rm : List Str), σ = [some (.ref h), some (.ref Nm), some a2, some a3, some (.ref R), some (.ref U), some a6, some a7, some (.ref p), v9, v10, v11, none] ∧
    StR H H' h l R U rs us ∧ H' p = some (.lst (rm.map V.str)) ∧ Mkr names (rmsOf rs) us rm j
theorem invJ_add {H H7 H8 : Hp} {h l Nm R U p : Addr} {a2 a3 a6 a7 : V} {names : List Str} {rs : List (Addr × Rm)} {us rm : List Str} {j : Nat} {σ : L2.St} {v9 v10 v11 : Option V} {x : Str}
    (hs : σ = [some (.ref h), some (.ref Nm), some a2, some a3, some (.ref R), some (.ref U), some a6, some a7, some (.ref p), v9, v10, v11, none]) (st : StR H H7 h l R U rs us) (ep : H7 p = some (.lst (rm.map V.str)))
    (pn : p ≠ h ∧ p ≠ l ∧ p ≠ R ∧ p ≠ U ∧ H p = none) (hH8 : HeapAt H8 h l) (k8 : Kh h l H7 H8) (m : Mkr names (rmsOf rs) us rm j) (h1 : x ∈ names) (h2 : x ∉ rm) (h3 : ∀ r ∈ rmsOf rs, x ∈ r → ∀ y ∈ rm, y ∉ r) :
    InvJ H h l Nm R U p a2 a3 a6 a7 names rs us (j + 1) σ (upd H8 p (.lst (rm.map V.str ++ [.str x]))) := by
  obtain ⟨p1, p2, p3, p4, p5⟩ := pn
  refine ⟨v9, v10, v11, rm ++ [x], hs, (st.khs hH8 k8).updp (k8 _ _ ep p1 p2) p5 p1 p2 p3 p4, ?_, mkr_add m h1 h2 h3⟩
  rw [upd_same, List.map_append]
  rfl
def spRooms : Sp := fun vs H Q _ => ∃ (h l Nm : Addr) (names : List Str) (many most : Nat), vs = [.ref h, .ref Nm, .int (many : Int), .int (most : Int)] ∧ HeapAt H h l ∧ H Nm = some (.lst (names.map V.str)) ∧ Nm ≠ h ∧ Nm ≠ l ∧
  names.Nodup ∧ (∀ x ∈ names, NameOk x) ∧ 5 ≤ names.length ∧ names.length ≤ 24 ∧ 1 ≤ many ∧ many ≤ 9 ∧ 3 ≤ most ∧ most ≤ 5 ∧
  ∀ (R : Addr) (rs : List (Addr × Rm)) (H' : Hp), HeapAt H' h l → Kh h l H H' → H R = none → H' R = some (.lst (refsOf rs)) → RoomsIn H' rs → RoomsOk (rmsOf rs) → rs.length ≤ 9 → (∀ r ∈ rs, ∀ x ∈ r.2, x ∈ names) → Q (.ref R) H'
abbrev nRooms : List Str := ["heap", "names", "many", "most", "rooms", "used", "turn", "size", "room", "place", "old", "new", "one"]
theorem scRooms : FnScope nRooms ["heap", "names", "many", "most"] (defScope sRooms) := ⟨rfl, rfl, rfl, by decide +kernel, rfl, by decide +kernel, by decide +kernel⟩
theorem ok_rooms {f : Addr} {fd : FuncData} (F : Fun K "_law_rooms" "_law_rooms" sRooms f fd) (T : TL mg) (c__law_draw : Cl P w K mg base CX0 1 "_law_draw" ["heap", "many"] spDraw) (c__law_pick : Cl P w K mg base CX0 2 "_law_pick" ["heap", "some"] (spPick K)) (c__law_apart : Cl P w K mg base CX0 1 "_law_apart" ["rooms", "taken", "one"] spApart) :
    FnOk P w K mg base CX0 3 f fd ["heap", "names", "many", "most"] spRooms := by
  refine F.ok scRooms (fun vs H Q E h => ?_) (fun cdv A outer s H vs Q E hr h => ?_)
  · obtain ⟨h, l, Nm, names, many, most, rfl, _⟩ := h
    rfl
  · obtain ⟨h, l, Nm, names, many, most, rfl, hH, hN, nh, nl, nnd, nok, n5, n23, m1, m9, o3, o5, k⟩ := h
    refine ⟨_, (pss_cons (ps_asg (pe_tup (pa_cons (pe_lst pa_nil) (pa_cons (pe_lst pa_nil) pa_nil))) (pg_tup (n := 2) rfl (pgs_cons (pg_name (i := 4) scRooms.nd rfl (Or.inr rfl)) (pgs_cons (pg_name (i := 5) scRooms.nd rfl (Or.inr rfl)) pgs_nil))))
        (pss_cons (ps_for PassesOwn.never rfl (pi_range1 (by rfl) T.range (pa_cons (pv 2) pa_nil)) (pg_name (i := 6) scRooms.nd rfl (Or.inl rfl))
        (pss_cons (ps_asg (pe_tup (pa_cons (pe_op op_add pe_int (pe_f c__law_draw hr (by decide) pass0 (pa_cons (pv 0) (pa_cons (pe_op op_sub (pv 3) pe_int) pa_nil)))) (pa_cons (pe_lst pa_nil) pa_nil))) (pg_tup (n := 2) rfl (pgs_cons (pg_name (i := 7) scRooms.nd rfl (Or.inl rfl)) (pgs_cons (pg_name (i := 8) scRooms.nd rfl (Or.inr rfl)) pgs_nil))))
        (pss_cons (ps_for PassesOwn.never rfl (pi_range1 (by rfl) T.range (pa_cons (pv 7) pa_nil)) (pg_name (i := 9) scRooms.nd rfl (Or.inl rfl))
        (pss_cons (ps_setLc (i := 10) (own := [("one", 12)]) (g := gName 12) rfl scRooms.nd rfl rfl (sw_true rfl rfl rfl (by decide +kernel)) (pi_list (pv 5)) (blkOk_by (N := nRooms) (sc := defScope sRooms) (by decide +kernel)) (fun _ _ _ _ _ => pg_name (i := 12) scRooms.nd rfl (Or.inl rfl)) (fun _ _ _ _ _ => (pts_one (pt_val (pe_f c__law_apart hr (by decide) pass0 (pa_cons (pv 4) (pa_cons (pv 8) (pa_cons (pv 12) pa_nil))))))) (fun _ _ _ _ _ => (pv 12)))
        (pss_cons (ps_setLc (i := 11) (own := [("one", 12)]) (g := gName 12) rfl scRooms.nd rfl rfl (sw_true rfl rfl rfl (by decide +kernel)) (pi_list (pv 1)) (blkOk_by (N := nRooms) (sc := defScope sRooms) (by decide +kernel)) (fun _ _ _ _ _ => pg_name (i := 12) scRooms.nd rfl (Or.inl rfl)) (fun _ _ _ _ _ => (pts_one (PW.pt (pw_and (pt_cmpR (r := rIn K true) op_notIn_seq (pv 12) (pv 5) (by rfl)) (pw_and1 (pt_cmpR (r := rIn K true) op_notIn_seq (pv 12) (pv 8) (by rfl))))))) (fun _ _ _ _ _ => (pv 12)))
        (pss_one (ps_if (PW.pt (pw_and (pt_cmpR (r := rNeD K) (op_neD hr.units) (pv 10) (pe_lst pa_nil) (nomark _)) (pw_and1 (PW.pt (pw_or (pt_cmpR (r := rEqD K) (op_eqD hr.units) (pv 11) (pe_lst pa_nil) (nomark _)) (pw_or1 (pt_cmpR op_eq (pe_f c__law_draw hr (by decide) pass0 (pa_cons (pv 0) (pa_cons pe_int pa_nil))) pe_int (nomark _)))))))) (pss_one (ps_expr (pe_bm PySem.F.plainAttrs_list PySem.F.slot_list_append PySem.F.type_list_append mt_append (pv 8) (pa_cons (pe_f c__law_pick hr (by decide) pass0 (pa_cons (pv 0) (pa_cons (pv 10) pa_nil))) pa_nil)))) (pss_one (ps_if (pt_cmpR (r := rNeD K) (op_neD hr.units) (pv 11) (pe_lst pa_nil) (nomark _)) (pss_one (ps_expr (pe_bm PySem.F.plainAttrs_list PySem.F.slot_list_append PySem.F.type_list_append mt_append (pv 8) (pa_cons (pe_f c__law_pick hr (by decide) pass0 (pa_cons (pv 0) (pa_cons (pv 11) pa_nil))) pa_nil)))) pss_nil)))))))
        (pss_one (ps_if (pt_cmpR op_gt (pe_callB (r := rLenS K) call_lenS (by rfl) T.len PySem.boot_len (pa_cons (pv 8) pa_nil)) pe_int (nomark _)) (pss_cons (ps_expr (pe_bm PySem.F.plainAttrs_list PySem.F.slot_list_append PySem.F.type_list_append mt_append (pv 4) (pa_cons (pe_callTy call_tuple_of (by rfl) T.tuple boot_tuple (pa_cons (pe_callB cr_sortedS (by rfl) T.sorted (by decide +kernel) (pa_cons (pv 8) pa_nil)) pa_nil)) pa_nil)))
        (pss_one (ps_set (i := 5) scRooms.nd rfl (Or.inr rfl) (pe_op op_cat (pv 5) (pe_lc (own := [("one", 12)]) (g := gName 12) rfl scRooms.nd (pi_list (pv 8)) (blkOk_by (N := nRooms) (sc := defScope sRooms) (by decide +kernel)) (fun _ _ _ _ _ => pg_name (i := 12) scRooms.nd rfl (Or.inl rfl)) (fun _ _ _ _ _ => (pts_one (pt_cmpR (r := rIn K true) op_notIn_seq (pv 12) (pv 5) (by rfl)))) (fun _ _ _ _ _ => (pv 12))))))) pss_nil)))))
        (pss_one (ps_ret (pv 4))))), ?_⟩
    refine ⟨(by show 0 ≤ sizeLine; decide), fun R hR => ⟨(by show 0 ≤ sizeLine; decide), fun U hU => ⟨(by show 2 ≤ sizeLine; decide), fun tp htp => ?_⟩⟩⟩
    refine ⟨tp, _, rfl, SqT.of upd_same, rfl, _, _, rfl, _, _, rfl, rfl, ?_⟩
    have S0 : L2.Same H (upd (upd (upd H R (.lst [])) U (.lst [])) tp (.tup [.ref R, .ref U])) := RK.Same.updAt (RK.Same.updAt (RK.Same.upd hR) ((RK.Same.upd hR).free hU)) ((RK.Same.updAt (RK.Same.upd hR) ((RK.Same.upd hR).free hU)).free htp)
    have hUR : R ≠ U := fun z => by rw [← z, upd_same] at hU; cases hU
    have eU : (upd (upd (upd H R (.lst [])) U (.lst [])) tp (.tup [.ref R, .ref U])) U = some (.lst []) := by
      rw [upd_ne (fun z => by rw [← z, upd_same] at htp; cases htp), upd_same]
    have eR : (upd (upd (upd H R (.lst [])) U (.lst [])) tp (.tup [.ref R, .ref U])) R = some (.lst []) := by
      rw [upd_ne (fun z => by rw [← z, upd_ne hUR, upd_same] at htp; cases htp), upd_ne hUR, upd_same]
    generalize upd (upd (upd H R (.lst [])) U (.lst [])) tp (.tup [.ref R, .ref U]) = H0 at S0 eU eR ⊢
    obtain ⟨-, zs, s0, f1, f2, _⟩ := id hH
    have hU0 := (RK.Same.upd hR).free hU
    have st0 : StR H H0 h l R U [] [] := ⟨hH.same S0, Kh.of S0, eR, fun r hr => absurd hr List.not_mem_nil, eU, (fun z => by rw [z, f1] at hR; cases hR), (fun z => by rw [z, f2] at hR; cases hR),
      (fun z => by rw [z, f1] at hU0; cases hU0), (fun z => by rw [z, f2] at hU0; cases hU0), hUR, hR⟩
    have hok : ∀ x ∈ names, PyData.strOk x = true := fun x hx => low_ok (nok x hx).2.2
    refine ⟨_, rfl, (many : Int), rfl, by omega, by omega, for_range (fun i σ H' => ∃ (U : Addr) (v6 v7 v8 v9 v10 v11 : Option V) (rs : List (Addr × Rm)) (us : List Str),
      σ = [some (.ref h), some (.ref Nm), some (.int (many : Int)), some (.int (most : Int)), some (.ref R), some (.ref U), v6, v7, v8, v9, v10, v11, none] ∧ StR H H' h l R U rs us ∧ Mk names (rmsOf rs) us ∧ rs.length ≤ i ∧ (1 ≤ i → rs ≠ []))
      ⟨U, _, _, _, _, _, _, [], [], rfl, st0, mk_nil names, Nat.le_refl 0, fun z => absurd z (by decide)⟩ ?_ ?_⟩
    · rintro i σ H1 hi ⟨U, v6, v7, v8, v9, v10, v11, rs, us, rfl, st, M, rl, rne⟩
      have hul : us.length ≤ 24 := Nat.le_trans (nodup_sub_len M.nd M.sub) n23
      refine ⟨_, rfl, _, rfl, _, _, rfl, rfl, h, l, _, rfl, st.heap, by omega, by omega, fun d H2 hd hH2 k2 => ⟨_, _, rfl, rfl, (by show 0 ≤ sizeLine; decide), fun p hp => ⟨(by show 2 ≤ sizeLine; decide), fun tq htq => ?_⟩⟩⟩
      refine ⟨tq, _, rfl, SqT.of upd_same, rfl, _, _, rfl, _, _, rfl, rfl, ?_⟩
      have st2 := st.khs hH2 k2
      obtain ⟨p1, p2, p3, p4, p5⟩ := st2.newp hp
      have ep : (upd (upd H2 p (.lst [])) tq (.tup [.int ((3 : Int) + (d : Int)), .ref p])) p = some (.lst []) := by
        rw [upd_ne (fun z => by rw [← z, upd_same] at htq; cases htq), upd_same]
      have st3 := st2.same (RK.Same.updAt (o := .tup [.int ((3 : Int) + (d : Int)), .ref p]) (RK.Same.upd (o := .lst []) hp) ((RK.Same.upd hp).free htq))
      generalize upd (upd H2 p (.lst [])) tq (.tup [.int ((3 : Int) + (d : Int)), .ref p]) = H3 at ep st3 ⊢
      refine ⟨_, rfl, _, rfl, by omega, by omega, for_range (fun j σ H' => InvJ H h l Nm R U p (.int (many : Int)) (.int (most : Int)) (.int ((0 : Int) + (i : Nat))) (.int ((3 : Int) + (d : Int))) names rs us j σ H')
        ⟨_, _, _, [], rfl, st3, ep, mkr_nil _ _ _⟩ ?_ ?_⟩
      · rintro j σ H4 hj ⟨v9, v10, v11, rm, rfl, st4, ep4, m⟩
        have hj5 : j < 5 := by omega
        have hml := m.len
        refine ⟨_, rfl, U, rfl, ⟨_, SqL.of st4.u⟩, fun O hO => ?_⟩
        refine lc_list (K := K) (a := U) (xs := us.map V.str) (fun a H' => L2.Same H4 H' ∧ H' O = some (.lst (((us.take a).filter (apartB (rmsOf rs) rm)).map V.str))) ⟨RK.Same.upd hO, upd_same⟩ (fun a H' _ q => SqL.of (q.1 _ _ st4.u)) ?_ ?_
        · rintro a v H5 ha ⟨S5, e5⟩
          obtain ⟨x, hx, rfl⟩ := strs_at ha
          have st5 := st4.same S5
          have hf := filt_take (q := apartB (rmsOf rs) rm) hx
          refine ⟨rfl, _, rfl, _, rfl, _, rfl, R, p, x, rs, rm, rfl, st5.r, st5.rin, S5 _ _ ep4, by omega, fun H6 S6 => ⟨_, rfl, ?_⟩⟩
          refine ite2 (fun hb => ?_) (fun hb => ?_)
          · rw [if_pos hb] at hf
            refine ⟨_, rfl, _, S6 _ _ e5, ?_, RK.Same.updAt (S5.trans S6) hO, ?_⟩
            · rw [List.length_map]
              refine Nat.lt_of_le_of_lt (List.length_filter_le _ _) ?_
              rw [List.length_take]
              exact Nat.lt_of_lt_of_le (by omega : min a us.length < 100) (by decide)
            · rw [upd_same, hf, List.map_append]
              rfl
          · rw [if_neg hb] at hf
            exact ⟨S5.trans S6, by rw [hf]; exact S6 _ _ e5⟩
        · rintro H5 ⟨S5, e5⟩
          rw [List.length_map, List.take_length] at e5
          have st5 := st4.same S5
          obtain ⟨q1, q2, q3, q4, q5⟩ := st4.newp hO
          have hOp : O ≠ p := fun z => by rw [z, ep4] at hO; cases hO
          have eN5 : H5 Nm = some (.lst (names.map V.str)) := st5.kh _ _ hN nh nl
          refine ⟨_, rfl, Nm, rfl, ⟨_, SqL.of eN5⟩, fun W hW => ?_⟩
          refine lc_list (K := K) (a := Nm) (xs := names.map V.str) (fun a H' => L2.Same H5 H' ∧ H' W = some (.lst (((names.take a).filter fun x => decide (x ∉ us) && decide (x ∉ rm)).map V.str))) ⟨RK.Same.upd hW, upd_same⟩ (fun a H' _ q => SqL.of (q.1 _ _ eN5)) ?_ ?_
          · rintro a v H6 ha ⟨S6, e6⟩
            obtain ⟨x, hx, rfl⟩ := strs_at ha
            have st6 := st5.same S6
            have hf := filt_take (q := fun x => decide (x ∉ us) && decide (x ∉ rm)) hx
            have hal : a < names.length := (List.getElem?_eq_some_iff.mp hx).1
            refine ⟨rfl, _, rfl, _, rfl, U, _, rfl, .inl (SqL.of st6.u), rfl, flat_strs us, _, rfl, ?_⟩
            rw [if_pos rfl, inV_str]
            refine ite2 (fun hb => ?_) (fun hb => ?_)
            · have hu1 : x ∉ us := by
                rw [Bool.not_eq_true', decide_eq_false_iff_not] at hb
                exact hb
              refine ⟨_, rfl, _, rfl, p, _, rfl, .inl (SqL.of (S6 _ _ (S5 _ _ ep4))), rfl, flat_strs rm, _, rfl, ?_⟩
              rw [if_pos rfl, inV_str]
              refine ite2 (fun hc => ?_) (fun hc => ?_)
              · have hu2 : x ∉ rm := by
                  rw [Bool.not_eq_true', decide_eq_false_iff_not] at hc
                  exact hc
                rw [if_pos (by rw [decide_eq_true hu1, decide_eq_true hu2]; rfl)] at hf
                refine ⟨_, rfl, _, e6, ?_, RK.Same.updAt S6 hW, ?_⟩
                · rw [List.length_map]
                  refine Nat.lt_of_le_of_lt (List.length_filter_le _ _) ?_
                  rw [List.length_take]
                  exact Nat.lt_of_lt_of_le (by omega : min a names.length < 100) (by decide)
                · rw [upd_same, hf, List.map_append]
                  rfl
              · have hu2 : x ∈ rm := by
                  rw [Bool.not_eq_true', decide_eq_false_iff_not, Classical.not_not] at hc
                  exact hc
                rw [if_neg (by rw [decide_eq_false (not_not_intro hu2), Bool.and_false]; exact Bool.false_ne_true)] at hf
                exact ⟨S6, by rw [hf]; exact e6⟩
            · have hu1 : x ∈ us := by
                rw [Bool.not_eq_true', decide_eq_false_iff_not, Classical.not_not] at hb
                exact hb
              rw [if_neg (by rw [decide_eq_false (not_not_intro hu1), Bool.false_and]; exact Bool.false_ne_true)] at hf
              exact iteF ⟨S6, by rw [hf]; exact e6⟩
          · rintro H6 ⟨S6, e6⟩
            rw [List.length_map, List.take_length] at e6
            have st6 := st5.same S6
            obtain ⟨w1, w2, w3, w4, w5⟩ := st5.newp hW
            have eO6 := S6 _ _ e5
            have ep6 := S6 _ _ (S5 _ _ ep4)
            have okO : ∀ x ∈ us.filter (apartB (rmsOf rs) rm), PyData.strOk x = true := fun x hx => hok x (M.sub x (List.mem_filter.mp hx).1)
            have okW : ∀ x ∈ names.filter (fun x => decide (x ∉ us) && decide (x ∉ rm)), PyData.strOk x = true := fun x hx => hok x (List.mem_filter.mp hx).1
            have factO : ∀ x ∈ us.filter (apartB (rmsOf rs) rm), x ∈ names ∧ x ∉ rm ∧ ∀ r ∈ rmsOf rs, x ∈ r → ∀ y ∈ rm, y ∉ r := fun x hx => by
              obtain ⟨a1, a2⟩ := List.mem_filter.mp hx
              exact ⟨M.sub x a1, apart_of a2⟩
            have factW : ∀ x ∈ names.filter (fun x => decide (x ∉ us) && decide (x ∉ rm)), x ∈ names ∧ x ∉ rm ∧ ∀ r ∈ rmsOf rs, x ∈ r → ∀ y ∈ rm, y ∉ r := fun x hx => by
              obtain ⟨a1, a2⟩ := List.mem_filter.mp hx
              rw [Bool.and_eq_true, decide_eq_true_eq, decide_eq_true_eq] at a2
              exact ⟨a1, a2.2, fun r hr hxr => absurd ((M.uif x).mpr ⟨r, hr, hxr⟩) a2.1⟩
            have hlo : (us.filter (apartB (rmsOf rs) rm)).length ≤ 24 := Nat.le_trans (List.length_filter_le _ _) hul
            have hlw : (names.filter (fun x => decide (x ∉ us) && decide (x ∉ rm))).length ≤ 24 := Nat.le_trans (List.length_filter_le _ _) n23
            have new0 : us = [] → names.filter (fun x => decide (x ∉ us) && decide (x ∉ rm)) ≠ [] := fun e z => by
              have hsub : ∀ x ∈ names, x ∈ rm := fun x hx => by
                by_cases hr' : x ∈ rm
                · exact hr'
                · rw [List.filter_eq_nil_iff] at z
                  exact absurd (by rw [decide_eq_true hr', e]; rfl) (z x hx)
              have := nodup_sub_len nnd hsub
              omega
            have old0 : us.filter (apartB (rmsOf rs) rm) ≠ [] → us ≠ [] := fun z e => z (by rw [e]; rfl)
            generalize us.filter (apartB (rmsOf rs) rm) = os at eO6 okO factO hlo old0
            generalize names.filter (fun x => decide (x ∉ us) && decide (x ∉ rm)) = ns at e6 okW factW hlw new0
            have hrs : (rm.map V.str).length < sizeLine := by
              rw [List.length_map]
              exact Nat.lt_of_lt_of_le (by omega : rm.length < 100) (by decide)
            have pn : p ≠ h ∧ p ≠ l ∧ p ≠ R ∧ p ≠ U ∧ H p = none := ⟨p1, p2, p3, p4, p5⟩
            refine ⟨_, rfl, (by show 0 ≤ sizeLine; decide), fun b1 hb1 => ne_nil_strs okO ((RK.Same.upd hb1) _ _ eO6) upd_same ⟨_, rfl, ?_⟩⟩
            have SA := RK.Same.upd (o := .lst []) hb1
            have st7 := st6.same SA
            have eO7 := SA _ _ eO6
            have ep7 := SA _ _ ep6
            have eW7 := SA _ _ e6
            generalize upd H6 b1 (.lst []) = H7 at st7 eO7 ep7 eW7 ⊢
            refine ite2 (fun hz => ?_) (fun hz => ?_)
            · have neO : os ≠ [] := fun z => by rw [z] at hz; exact absurd hz (by decide)
              refine ⟨_, rfl, (by show 0 ≤ sizeLine; decide), fun b2 hb2 => eq_nil_strs okW ((RK.Same.upd hb2) _ _ eW7) upd_same ⟨_, rfl, ?_⟩⟩
              have SB := RK.Same.upd (o := .lst []) hb2
              have st8 := st7.same SB
              have eO8 := SB _ _ eO7
              have ep8 := SB _ _ ep7
              have eW8 := SB _ _ eW7
              generalize upd H7 b2 (.lst []) = H8 at st8 eO8 ep8 eW8 ⊢
              refine ite2 (fun hy => ?_) (fun hy => ?_)
              · refine iteT ?_
                exact pick_app rfl rfl rfl st8.heap eO8 neO (by omega) q1 q2 ep8 p1 p2 hrs fun x H9 hx hH9 k9 => invJ_add rfl st8 ep8 pn hH9 k9 m (factO x hx).1 (factO x hx).2.1 (factO x hx).2.2
              · have neW : ns ≠ [] := fun z => by rw [z] at hy; exact hy rfl
                refine ⟨_, rfl, h, l, _, rfl, st8.heap, by decide, by decide, fun d2 H9 hd2 hH9 k9 => ⟨rfl, _, rfl, ?_⟩⟩
                have st9 := st8.khs hH9 k9
                have eO9 := k9 _ _ eO8 q1 q2
                have ep9 := k9 _ _ ep8 p1 p2
                have eW9 := k9 _ _ eW8 w1 w2
                refine ite2 (fun hx => ?_) (fun hx => ?_)
                · exact pick_app rfl rfl rfl st9.heap eO9 neO (by omega) q1 q2 ep9 p1 p2 hrs fun x H9 hx hH9 k9 => invJ_add rfl st9 ep9 pn hH9 k9 m (factO x hx).1 (factO x hx).2.1 (factO x hx).2.2
                · refine ⟨_, rfl, (by show 0 ≤ sizeLine; decide), fun b3 hb3 => ne_nil_strs okW ((RK.Same.upd hb3) _ _ eW9) upd_same ⟨_, rfl, ?_⟩⟩
                  have SC := RK.Same.upd (o := .lst []) hb3
                  have st10 := st9.same SC
                  refine ite2 (fun hw => ?_) (fun hw => ?_)
                  · exact pick_app rfl rfl rfl st10.heap (SC _ _ eW9) neW (by omega) w1 w2 (SC _ _ ep9) p1 p2 hrs fun x H9 hx hH9 k9 => invJ_add rfl st10 (SC _ _ ep9) pn hH9 k9 m (factW x hx).1 (factW x hx).2.1 (factW x hx).2.2
                  · exact ⟨_, _, _, rm, rfl, st10, SC _ _ ep9, mkr_stay m (old0 neO)⟩
            · refine iteF ?_
              refine ⟨_, rfl, (by show 0 ≤ sizeLine; decide), fun b3 hb3 => ne_nil_strs okW ((RK.Same.upd hb3) _ _ eW7) upd_same ⟨_, rfl, ?_⟩⟩
              have SC := RK.Same.upd (o := .lst []) hb3
              have st10 := st7.same SC
              refine ite2 (fun hw => ?_) (fun hw => ?_)
              · have neW : ns ≠ [] := fun z => by rw [z] at hw; exact absurd hw (by decide)
                exact pick_app rfl rfl rfl st10.heap (SC _ _ eW7) neW (by omega) w1 w2 (SC _ _ ep7) p1 p2 hrs fun x H9 hx hH9 k9 => invJ_add rfl st10 (SC _ _ ep7) pn hH9 k9 m (factW x hx).1 (factW x hx).2.1 (factW x hx).2.2
              · refine ⟨_, _, _, rm, rfl, st10, SC _ _ ep7, mkr_stay m fun e => new0 e ?_⟩
                cases ns with
                | nil => rfl
                | cons _ _ => exact absurd rfl hw
      · rintro σ H4 ⟨v9, v10, v11, rm, rfl, st4, ep4, m⟩
        have hml := m.len
        have hj5 : ((3 : Int) + (d : Int)).toNat ≤ 5 := by omega
        have hrl : (rmsOf rs).length = rs.length := by unfold rmsOf; rw [List.length_map]
        refine ⟨_, rfl, p, _, rfl, .inl (SqL.of ep4), _, _, rfl, rfl, _, rfl, ?_⟩
        rw [List.length_map]
        refine ite2 (fun hb => ?_) (fun hb => ?_)
        · have hb := of_decide_eq_true hb
          refine ⟨_, rfl, .inl ⟨rfl, _, SqL.of st4.r⟩, _, rfl, p, rm, rfl, SqL.of ep4, by omega, fun s q1 hpm hsr hq1 => ⟨q1, _, rfl, .inl ⟨SqL.of upd_same, fun q2 hq2 => ?_⟩⟩⟩
          have SA := RK.Same.upd (o := .lst (s.map V.str)) hq1
          have SB := RK.Same.upd (o := .tup (s.map V.str)) hq2
          have st5 := (st4.same SA).same SB
          have ep5 := SB _ _ (SA _ _ ep4)
          have eq5 : (upd (upd H4 q1 (.lst (s.map V.str))) q2 (.tup (s.map V.str))) q2 = some (.tup (s.map V.str)) := upd_same
          generalize upd (upd H4 q1 (.lst (s.map V.str))) q2 (.tup (s.map V.str)) = H5 at st5 ep5 eq5 ⊢
          have hRq : q2 ≠ R := ne_of eq5 st5.r (by intro z; cases z)
          have hRp : p ≠ R := p3
          refine ⟨R, _, _, rfl, rfl, st5.r, ?_, ?_⟩
          · unfold refsOf
            rw [List.length_map]
            exact Nat.lt_of_lt_of_le (by omega : rs.length < 100) (by decide)
          have st6 : StR H (upd H5 R (.lst (refsOf rs ++ [.ref q2]))) h l R U (rs ++ [(q2, s)]) us := by
            refine { st5 with heap := heap_updO st5.heap st5.rh st5.rl, kh := fun b u hb m1 m2 => ?_, r := ?_, rin := fun r hr => ?_, u := ?_ }
            · rw [upd_ne (ne_of_none hb hR)]
              exact st5.kh _ _ hb m1 m2
            · rw [upd_same]
              unfold refsOf
              rw [List.map_append]
              rfl
            · rcases List.mem_append.mp hr with hr | hr
              · exact (st5.rin.updL st5.r) r hr
              · rw [List.mem_singleton.mp hr, upd_ne hRq]
                exact eq5
            · rw [upd_ne st5.ru.symm]
              exact st5.u
          have ep6 : (upd H5 R (.lst (refsOf rs ++ [.ref q2]))) p = some (.lst (rm.map V.str)) := by rw [upd_ne hRp]; exact ep5
          generalize upd H5 R (.lst (refsOf rs ++ [.ref q2])) = H6 at st6 ep6 ⊢
          refine ⟨_, rfl, _, rfl, p, rfl, ⟨_, SqL.of ep6⟩, fun D hD => ?_⟩
          refine lc_list (K := K) (a := p) (xs := rm.map V.str) (fun a H' => L2.Same H6 H' ∧ H' D = some (.lst (((rm.take a).filter fun x => decide (x ∉ us)).map V.str))) ⟨RK.Same.upd hD, upd_same⟩ (fun a H' _ q => SqL.of (q.1 _ _ ep6)) ?_ ?_
          · rintro a v H7 ha ⟨S7, e7⟩
            obtain ⟨x, hx, rfl⟩ := strs_at ha
            have st7 := st6.same S7
            have hf := filt_take (q := fun x => decide (x ∉ us)) hx
            refine ⟨rfl, _, rfl, _, rfl, U, _, rfl, .inl (SqL.of st7.u), rfl, flat_strs us, _, rfl, ?_⟩
            rw [if_pos rfl, inV_str]
            refine ite2 (fun hb2 => ?_) (fun hb2 => ?_)
            · have hu1 : x ∉ us := by
                rw [Bool.not_eq_true', decide_eq_false_iff_not] at hb2
                exact hb2
              rw [if_pos (decide_eq_true hu1)] at hf
              refine ⟨_, rfl, _, e7, ?_, RK.Same.updAt S7 hD, ?_⟩
              · rw [List.length_map]
                refine Nat.lt_of_le_of_lt (List.length_filter_le _ _) ?_
                rw [List.length_take]
                exact Nat.lt_of_lt_of_le (by omega : min a rm.length < 100) (by decide)
              · rw [upd_same, hf, List.map_append]
                rfl
            · have hu1 : x ∈ us := by
                rw [Bool.not_eq_true', decide_eq_false_iff_not, Classical.not_not] at hb2
                exact hb2
              rw [if_neg (by rw [decide_eq_false (not_not_intro hu1)]; exact Bool.false_ne_true)] at hf
              exact ⟨S7, by rw [hf]; exact e7⟩
          · rintro H7 ⟨S7, e7⟩
            rw [List.length_map, List.take_length] at e7
            have st7 := st6.same S7
            refine ⟨U, D, _, _, rfl, rfl, st7.u, e7, ?_, fun U2 hU2 => ?_⟩
            · rw [List.length_map, List.length_map]
              have := List.length_filter_le (fun x => decide (x ∉ us)) rm
              exact Nat.le_trans (by omega : _ ≤ 100) (by decide)
            obtain ⟨n1, n2, n3, n4, n5⟩ := st7.newp hU2
            have st8 := st7.same (RK.Same.upd (o := .lst (us.map V.str ++ (rm.filter fun x => decide (x ∉ us)).map V.str)) hU2)
            have hM := mk_add M m hj5 (by omega) nok hpm hsr
            refine ⟨U2, _, _, _, _, _, _, rs ++ [(q2, s)], us ++ rm.filter (fun x => decide (x ∉ us)), rfl, st8.newu ?_ n1 n2 n3.symm, ?_, ?_, fun _ z => ?_⟩
            · rw [upd_same, List.map_append]
            · unfold rmsOf at hM ⊢
              rw [List.map_append]
              exact hM
            · rw [List.length_append]
              exact Nat.add_le_add rl (Nat.le_refl 1)
            · have := congrArg List.length z
              rw [List.length_append] at this
              simp at this
        · have hb : ¬ (2 : Int) < (rm.length : Int) := fun z => hb (decide_eq_true z)
          refine ⟨U, _, _, _, _, _, _, rs, us, rfl, st4, M, Nat.le_succ_of_le rl, fun _ z => ?_⟩
          have hus : us = [] := by
            cases e : us with
            | nil => rfl
            | cons x r =>
              obtain ⟨r', hr', _⟩ := (M.uif x).mp (by rw [e]; exact List.mem_cons_self)
              rw [z] at hr'
              exact absurd hr' List.not_mem_nil
          have := m.first hus
          omega
    · rintro σ H1 ⟨U, v6, v7, v8, v9, v10, v11, rs, us, rfl, st, M, rl, rne⟩
      have hrl : (rmsOf rs).length = rs.length := by unfold rmsOf; rw [List.length_map]
      have h1 : 1 ≤ rs.length := List.length_pos_iff.mpr (rne (by omega))
      refine ⟨_, rfl, k R rs H1 st.heap st.kh hR st.r st.rin (mk_rooms M (by omega) (by omega) (by omega)) (by omega) fun r hr x hx => ?_⟩
      exact M.sub x ((M.uif x).mpr ⟨r.2, List.mem_map_of_mem hr, hx⟩)
end
end K01


set_option Elab.async false
set_option linter.all false
set_option maxRecDepth 100000
set_option maxHeartbeats 4000000
/-! the fault of a value, as the law finds it -/
namespace K01
open PySem PySem.Spec PyProof.Rows L2 RK
abbrev sNamed : Stmt := topL 32
abbrev sFault : Stmt := topL 33
structure TF (mg : Str → Option Value) : Prop where
  isi : mg "isinstance" = none
  str : mg "str" = none
  tuple : mg "tuple" = none
  len : mg "len" = none
  all : mg "all" = none
  any : mg "any" = none
  range : mg "range" = none
def spFault (K : PySem.W.Frag) : Sp := fun vs H Q _ => ∃ (v : V) (val : Vl), vs = [v] ∧ ValAt K H v val ∧ ∀ (o : Option Int) (H' : Hp), FaultIs val o → L2.Same H H' → Q (optI o) H'
theorem rises_ge (l : List Str) : ((List.range (l.length - 1)).map fun k => !decide (ltS (l.getD k Str.empty) (l.getD (k + 1) Str.empty))).any id = !decide (Asc l) := by
  rw [← rises_range]
  generalize List.range (l.length - 1) = ks
  induction ks with
  | nil => rfl
  | cons k ks ih =>
    rw [List.map_cons, List.map_cons, List.any_cons, List.all_cons, ih, Bool.not_and]
    rfl
theorem catL_all {H : Hp} {a b : Addr} {xs ys : List V} {Q : VK} (ha : H a = some (.lst xs)) (hb : H b = some (.lst ys)) (hl : xs.length + ys.length ≤ sizeLine) (k : ∀ (p : Addr) (H' : Hp), L2.Same H H' → H p = none → H' p = some (.lst (xs ++ ys)) → Q (.ref p) H') : rCat (.ref a) (.ref b) H Q :=
  ⟨a, b, xs, ys, rfl, rfl, ha, hb, hl, fun p hp => k p _ (RK.Same.upd hp) hp upd_same⟩
section
variable {P : Program} {w : World} {K : PySem.W.Frag} {mg : Str → Option Value} {base : Heap} {CB : Addr}
abbrev nNamed : List Str := ["word", "letters", "sign"]
theorem scNamed : FnScope nNamed ["word"] (defScope sNamed) := ⟨rfl, rfl, rfl, by decide +kernel, rfl, by decide +kernel, by decide +kernel⟩
theorem ok_named {f : Addr} {fd : FuncData} (F : Fun K "_law_named" "_law_named" sNamed f fd) (T : TF mg) : FnOk P w K mg base CX0 1 f fd ["word"] (spNameA K) := by
  refine F.ok scNamed (fun vs H Q E h => ?_) (fun cdv A outer s H vs Q E hr h => ?_)
  · obtain ⟨v, a, rfl, _⟩ := h
    rfl
  · obtain ⟨v, a, rfl, hv, k⟩ := h
    refine ⟨_, (pss_cons (ps_set (i := 1) scNamed.nd rfl (Or.inr rfl) pe_str)
        (pss_one (ps_ret (pe_and (pe_callB (r := rIsi K) call_isi (by rfl) T.isi boot_isinstance (pa_cons (pv 0) (pa_cons (pe_bltn (v := .ty "str") (by rfl) T.str (by decide +kernel) rfl) pa_nil))) (pe_and (pe_chain op_lt op_lt pe_int (pe_callB call_len_str (by rfl) T.len PySem.boot_len (pa_cons (pv 0) pa_nil)) pe_int) (pe_one (pe_callB (r := rAll K) (cr_all rfl) (by rfl) T.all boot_all (pa_cons (pe_lc (own := [("sign", 2)]) (g := gName 2) (tt := tYes) rfl scNamed.nd (pi_str (pv 0)) (blkOk_by (N := nNamed) (sc := defScope sNamed) (by decide +kernel)) (fun _ _ _ _ _ => pg_name (i := 2) scNamed.nd rfl (Or.inl rfl)) (fun _ _ _ _ _ => pts_nil) (fun _ _ _ _ _ => (pe_cmpR op_in_sign (pv 2) (pv 1) (by rfl)))) pa_nil)))))))), ?_⟩
    rcases hv with ⟨x, rfl, rfl, hx⟩ | ⟨rfl, hn, Ty, hT, hk⟩
    · have hz : x.length ≤ sizeLine := Nat.le_trans hx (by decide)
      have no : ¬ (1 ≤ x.length ∧ x.length ≤ 5) → nameB (some x) = false := fun h => decide_eq_false fun z => h ⟨z.1, z.2.1⟩
      refine ⟨_, rfl, _, .ty "str", _, _, true, rfl, .ty _, .base (.str x), kit_ty (by decide +kernel), true, rfl, iteT ?_⟩
      refine ⟨_, rfl, x, rfl, hz, _, _, rfl, rfl, _, rfl, ?_⟩
      refine ite2 (fun h1 => ?_) (fun h1 => ?_)
      · have h1 := of_decide_eq_true h1
        refine ⟨_, _, rfl, rfl, _, rfl, ?_⟩
        refine ite2 (fun h5 => ?_) (fun h5 => ?_)
        · have h5 := of_decide_eq_true h5
          refine ⟨_, rfl, x, rfl, fun D hD => ?_⟩
          refine lc_it (walk_str (z := x)) (fun i H' => L2.Same H H' ∧ H' D = some (.lst (((x.cps.toList.take i).map lowB).map V.bl))) ⟨RK.Same.upd hD, upd_same⟩ (fun _ _ _ _ => trivial) ?_ ?_
          · rintro i v H1 H2 hi ⟨S, e⟩ ⟨rfl, c, hcz, rfl⟩
            refine ⟨rfl, ?_⟩
            unfold tYes
            refine iteT ⟨_, rfl, _, rfl, c, _, rfl, rfl, _, e, ?_, RK.Same.updAt S hD, ?_⟩
            · rw [List.length_map, List.length_map, List.length_take]
              have : x.cps.toList.length = x.length := by simp [Str.length]
              exact Nat.lt_of_lt_of_le (by omega : min i x.cps.toList.length < 100) (by decide)
            · rw [upd_same, low_dec]
              have hc2 : x.cps.toList[i]? = some c := by rw [Array.getElem?_toList]; exact hcz
              rw [List.take_add_one, hc2, List.map_append, List.map_append]
              rfl
          · rintro H' ⟨S, e⟩
            have hsz : x.cps.size = x.cps.toList.length := by simp
            rw [hsz, List.take_length] at e
            refine ⟨D, _, rfl, SqL.of e, ?_⟩
            have ea : (x.cps.toList.map lowB).all id = nameB (some x) := by
              show _ = decide (NameOk x)
              rw [Bool.eq_iff_iff, decide_eq_true_eq, List.all_map, List.all_eq_true]
              exact ⟨fun h => ⟨by omega, by omega, fun c hc => h c hc⟩, fun h c hc => h.2.2 c hc⟩
            rw [ea]
            exact k H' S
        · have := k H (L2.Same.refl H)
          rw [no fun z => h5 (decide_eq_true (by omega))] at this
          exact this
      · refine ⟨_, rfl, iteF ?_⟩
        have := k H (L2.Same.refl H)
        rw [no fun z => h1 (decide_eq_true (by omega))] at this
        exact this
    · refine ⟨_, rfl, _, .ty "str", _, _, false, rfl, .ty _, hT, kit_ty hk, false, rfl, iteF ?_⟩
      exact k H (L2.Same.refl H)
abbrev nFault : List Str := ["value", "known", "at", "room", "early", "one", "k"]
theorem scFault : FnScope nFault ["value"] (defScope sFault) := ⟨rfl, rfl, rfl, by decide +kernel, rfl, by decide +kernel, by decide +kernel⟩
theorem ok_fault {f : Addr} {fd : FuncData} (F : Fun K "_law_fault" "_law_fault" sFault f fd) (T : TF mg) (c__law_named : Cl P w K mg base CX0 1 "_law_named" ["word"] (spNameA K)) : FnOk P w K mg base CX0 2 f fd ["value"] (spFault K) := by
  refine F.ok scFault (fun vs H Q E h => ?_) (fun cdv A outer s H vs Q E hr h => ?_)
  · obtain ⟨v, val, rfl, _⟩ := h
    rfl
  · obtain ⟨v, val, rfl, hv, k⟩ := h
    refine ⟨_, (pss_cons (ps_if (PW.pt (pw_or (pt_not (pt_val (pe_callB (r := rIsi K) call_isi (by rfl) T.isi boot_isinstance (pa_cons (pv 0) (pa_cons (pe_bltn (v := .ty "tuple") (by rfl) T.tuple boot_tuple rfl) pa_nil))))) (pw_or (pt_cmpR op_eq (pe_callB (r := rLenS K) call_lenS (by rfl) T.len PySem.boot_len (pa_cons (pv 0) pa_nil)) pe_int (nomark _)) (pw_or1 (pt_cmpR op_gt (pe_callB (r := rLenS K) call_lenS (by rfl) T.len PySem.boot_len (pa_cons (pv 0) pa_nil)) pe_int (nomark _)))))) (pss_one (ps_ret (pe_un un_neg pe_int))) pss_nil)
        (pss_cons (ps_set (i := 1) scFault.nd rfl (Or.inr rfl) (pe_lst pa_nil))
        (pss_cons (ps_for PassesOwn.never rfl (pi_range1 (by rfl) T.range (pa_cons (pe_callB (r := rLenS K) call_lenS (by rfl) T.len PySem.boot_len (pa_cons (pv 0) pa_nil)) pa_nil)) (pg_name (i := 2) scFault.nd rfl (Or.inl rfl))
        (pss_cons (ps_set (i := 3) scFault.nd rfl (Or.inr rfl) (pe_ix (r := rIxT K) ix_tup (pv 0) (pv 2) (fun _ _ => rfl)))
        (pss_cons (ps_if (PW.pt (pw_or (pt_not (pt_val (pe_callB (r := rIsi K) call_isi (by rfl) T.isi boot_isinstance (pa_cons (pv 3) (pa_cons (pe_bltn (v := .ty "tuple") (by rfl) T.tuple boot_tuple rfl) pa_nil))))) (pw_or (pt_cmpR op_lt (pe_callB (r := rLenS K) call_lenS (by rfl) T.len PySem.boot_len (pa_cons (pv 3) pa_nil)) pe_int (nomark _)) (pw_or (pt_cmpR op_gt (pe_callB (r := rLenS K) call_lenS (by rfl) T.len PySem.boot_len (pa_cons (pv 3) pa_nil)) pe_int (nomark _)) (pw_or1 (pt_not (pt_val (pe_callB (r := rAll K) (cr_all rfl) (by rfl) T.all boot_all (pa_cons (pe_lc (own := [("one", 5)]) (g := gName 5) (tt := tYes) rfl scFault.nd (pi_tup (pv 3)) (blkOk_by (N := nFault) (sc := defScope sFault) (by decide +kernel)) (fun _ _ _ _ _ => pg_name (i := 5) scFault.nd rfl (Or.inl rfl)) (fun _ _ _ _ _ => pts_nil) (fun _ _ _ _ _ => (pe_f c__law_named hr (by decide) pass0 (pa_cons (pv 5) pa_nil)))) pa_nil))))))))) (pss_one (ps_ret (pv 2))) pss_nil)
        (pss_cons (ps_if (pt_val (pe_callB (r := rAny K) (cr_any rfl) (by rfl) T.any (by decide +kernel) (pa_cons (pe_lc (own := [("k", 6)]) (g := gName 6) (tt := tYes) rfl scFault.nd (pi_range1 (by rfl) T.range (pa_cons (pe_op op_sub (pe_callB (r := rLenS K) call_lenS (by rfl) T.len PySem.boot_len (pa_cons (pv 3) pa_nil)) pe_int) pa_nil)) (blkOk_by (N := nFault) (sc := defScope sFault) (by decide +kernel)) (fun _ _ _ _ _ => pg_name (i := 6) scFault.nd rfl (Or.inl rfl)) (fun _ _ _ _ _ => pts_nil) (fun _ _ _ _ _ => (pe_cmpR op_ge_str (pe_ix (r := rIxT K) ix_tup (pv 3) (pv 6) (fun _ _ => rfl)) (pe_ix (r := rIxT K) ix_tup (pv 3) (pe_op op_add (pv 6) pe_int) (fun _ _ => rfl)) (nomark _)))) pa_nil))) (pss_one (ps_ret (pv 2))) pss_nil)
        (pss_cons (ps_for PassesOwn.never rfl (pi_range1 (by rfl) T.range (pa_cons (pv 2) pa_nil)) (pg_name (i := 4) scFault.nd rfl (Or.inr rfl))
        (pss_one (ps_if (pt_cmpR op_gt (pe_callB (r := rLenS K) call_lenS (by rfl) T.len PySem.boot_len (pa_cons (pe_lc (own := [("one", 5)]) (g := gName 5) rfl scFault.nd (pi_tup (pv 3)) (blkOk_by (N := nFault) (sc := defScope sFault) (by decide +kernel)) (fun _ _ _ _ _ => pg_name (i := 5) scFault.nd rfl (Or.inl rfl)) (fun _ _ _ _ _ => (pts_one (pt_cmpR (r := rIn K false) op_in_seq (pv 5) (pe_ix (r := rIxT K) ix_tup (pv 0) (pv 4) (fun _ _ => rfl)) (by rfl)))) (fun _ _ _ _ _ => (pv 5))) pa_nil)) pe_int (nomark _)) (pss_one (ps_ret (pv 2))) pss_nil)))
        (pss_one (ps_set (i := 1) scFault.nd rfl (Or.inr rfl) (pe_op op_cat (pv 1) (pe_lc (own := [("one", 5)]) (g := gName 5) rfl scFault.nd (pi_tup (pv 3)) (blkOk_by (N := nFault) (sc := defScope sFault) (by decide +kernel)) (fun _ _ _ _ _ => pg_name (i := 5) scFault.nd rfl (Or.inl rfl)) (fun _ _ _ _ _ => (pts_one (pt_cmpR (r := rIn K true) op_notIn_seq (pv 5) (pv 1) (by rfl)))) (fun _ _ _ _ _ => (pv 5)))))))))))
        (pss_one (ps_ret (pe_ifExp (pt_cmpR op_gt (pe_callB (r := rLenS K) call_lenS (by rfl) T.len PySem.boot_len (pa_cons (pv 1) pa_nil)) pe_int (nomark _)) (pe_callB (r := rLenS K) call_lenS (by rfl) T.len PySem.boot_len (pa_cons (pv 0) pa_nil)) pe_non)))))), ?_⟩
    rcases hv with ⟨R, vs, its, rfl, rfl, hR, hl, h2⟩ | ⟨rfl, Ty, hT, hk⟩
    · have hlen := h2.1
      refine ⟨_, rfl, _, .ty "tuple", _, _, true, rfl, .ty _, .base (.tup hR), kit_ty (by decide +kernel), true, rfl, ?_⟩
      refine iteF ⟨_, rfl, R, _, rfl, .inr (SqT.of hR), rfl, _, rfl, ?_⟩
      refine ite2 (fun h0 => ?_) (fun h0 => ?_)
      · have h0 : V.int (vs.length : Int) = V.int 0 := of_decide_eq_true h0
        have h0 : (vs.length : Int) = 0 := by injection h0
        exact ⟨_, rfl, k (some (-1)) H (.shape (.inl (by omega))) (L2.Same.refl H)⟩
      have h0 : ¬ vs.length = 0 := fun z => h0 (decide_eq_true (by rw [z]; rfl))
      refine ⟨_, rfl, R, _, rfl, .inr (SqT.of hR), _, _, rfl, rfl, _, rfl, ?_⟩
      by_cases h10 : 10 < vs.length
      · rw [decide_eq_true (show (10 : Int) < (vs.length : Int) by omega)]
        exact iteT ⟨_, rfl, k (some (-1)) H (.shape (.inr (by omega))) (L2.Same.refl H)⟩
      rw [decide_eq_false (show ¬ (10 : Int) < (vs.length : Int) by omega)]
      refine iteF ?_
      refine ⟨(by show 0 ≤ sizeLine; decide), fun p0 hp0 => ?_⟩
      have S0 : L2.Same H (upd H p0 (.lst [])) := RK.Same.upd hp0
      have e0 : (upd H p0 (.lst [])) p0 = some (.lst (([] : List Str).map V.str)) := upd_same
      generalize upd H p0 (.lst []) = H0 at S0 e0 ⊢
      refine ⟨_, rfl, R, _, rfl, .inr (SqT.of (S0 _ _ hR)), (vs.length : Int), rfl, by omega, by omega, for_range (fun i σ H' => ∃ (v2 v3 v4 : Option V) (p : Addr) (ks : List Str) (rs : List (Addr × Rm)), σ = [some (.ref R), some (.ref p), v2, v3, v4, none, none] ∧ L2.Same H H' ∧
        H' p = some (.lst (ks.map V.str)) ∧ ks.Nodup ∧ ks.length ≤ 5 * i ∧ (∀ x, x ∈ ks ↔ ∃ r ∈ rmsOf rs, x ∈ r) ∧ vs.take i = refsOf rs ∧ RoomsIn H rs ∧ Good (its.take i) (rmsOf rs))
        ⟨_, _, _, p0, [], [], rfl, S0, e0, List.nodup_nil, Nat.le_refl 0, fun x => by simp [rmsOf], rfl, fun r hr => absurd hr List.not_mem_nil, Good.nil⟩ ?_ ?_⟩
      · rintro i σ H1 hi ⟨v2, v3, v4, p, ks, rs, rfl, S1, e1, nd, kl, km, ev, hI, hG⟩
        rw [Int.zero_add]
        have hil : i < vs.length := by omega
        have e2 : vs[i]? = some vs[i] := List.getElem?_eq_getElem hil
        obtain ⟨it, hit, hiv⟩ := h2.get e2
        have hrl : rs.length = i := by
          have := congrArg List.length ev
          rw [List.length_take] at this
          unfold refsOf at this
          rw [List.length_map] at this
          omega
        have bad : ¬ OkNext (rmsOf rs) it → ∀ H', L2.Same H H' → Q (.int (i : Nat)) H' := fun hn H' S' => k (some (i : Nat)) H' (.at_ ⟨by omega, by omega⟩ hG hit hn) S'
        refine ⟨_, rfl, _, rfl, R, vs, _, _, rfl, rfl, SqT.of (S1 _ _ hR), atI_nat e2, ?_⟩
        rcases hiv with ⟨t, us, as, rfl, hyt, ht, hul, h3⟩ | ⟨rfl, Ty, hT, hk⟩
        · rw [hyt]
          have hulen := h3.1
          have ht1 := S1 _ _ ht
          refine ⟨_, rfl, _, .ty "tuple", _, _, true, rfl, .ty _, .base (.tup ht1), kit_ty (by decide +kernel), true, rfl, ?_⟩
          refine iteF ⟨_, rfl, t, _, rfl, .inr (SqT.of ht1), _, _, rfl, rfl, _, rfl, ?_⟩
          by_cases h3l : us.length < 3
          · rw [decide_eq_true (show (us.length : Int) < 3 by omega)]
            refine iteT ⟨_, rfl, bad (fun ⟨r, er, ro, _⟩ => ?_) H1 S1⟩
            cases er
            rw [List.length_map] at hulen
            have := ro.1
            omega
          rw [decide_eq_false (show ¬ (us.length : Int) < 3 by omega)]
          refine iteF ⟨_, rfl, t, _, rfl, .inr (SqT.of ht1), _, _, rfl, rfl, _, rfl, ?_⟩
          by_cases h5l : 5 < us.length
          · rw [decide_eq_true (show (5 : Int) < (us.length : Int) by omega)]
            refine iteT ⟨_, rfl, bad (fun ⟨r, er, ro, _⟩ => ?_) H1 S1⟩
            cases er
            rw [List.length_map] at hulen
            have := ro.2.1
            omega
          rw [decide_eq_false (show ¬ (5 : Int) < (us.length : Int) by omega)]
          refine iteF ⟨_, rfl, t, rfl, ⟨_, SqT.of ht1⟩, fun D hD => ?_⟩
          refine lc_tup (K := K) (a := t) (xs := us) (fun a H' => L2.Same H1 H' ∧ H' D = some (.lst (((as.take a).map nameB).map V.bl))) ⟨RK.Same.upd hD, upd_same⟩ (fun a H' _ q => SqT.of (q.1 _ _ ht1)) ?_ ?_
          · rintro a v H2 ha ⟨S2, e3⟩
            obtain ⟨at2, hat, hva⟩ := h3.get ha
            refine ⟨rfl, ?_⟩
            unfold tYes
            refine iteT ⟨_, rfl, v, at2, rfl, hva.same (S1.trans S2), fun H3 S3 => ⟨_, S3 _ _ e3, ?_, RK.Same.updAt (S2.trans S3) hD, ?_⟩⟩
            · rw [List.length_map, List.length_map, List.length_take]
              exact Nat.lt_of_lt_of_le (by omega : min a as.length < 101) (by decide)
            · rw [upd_same, List.take_add_one, hat, List.map_append, List.map_append]
              rfl
          · rintro H2 ⟨S2, e3⟩
            rw [hulen, List.take_length] at e3
            have S12 := S1.trans S2
            refine ⟨D, _, rfl, SqL.of e3, _, rfl, ?_⟩
            have ea : (as.map nameB).all id = as.all nameB := by rw [List.all_map]; rfl
            rw [ea]
            by_cases hall : as.all nameB = true
            · rw [hall]
              obtain ⟨r, er, rn⟩ := atoms_some hall
              subst er
              have eus := strs_eq h3
              subst eus
              rw [List.length_map] at h3l h5l hulen
              have ht2 := S12 _ _ ht
              refine iteF ?_
              -- rising
              refine ⟨_, rfl, t, _, rfl, .inr (SqT.of ht2), _, _, rfl, rfl, (((r.map V.str).length : Int) - 1), rfl, by rw [List.length_map]; omega, by rw [List.length_map]; omega, fun D2 hD2 => ?_⟩
              refine lc_range (lo := 0) (fun a H' => L2.Same H2 H' ∧ H' D2 = some (.lst (((List.range a).map fun k => !decide (ltS (r.getD k Str.empty) (r.getD (k + 1) Str.empty))).map V.bl))) ⟨RK.Same.upd hD2, upd_same⟩ ?_ ?_
              · rintro a H' ha ⟨S3, e4⟩
                have ha' : a + 1 < r.length := by
                  rw [List.length_map] at ha
                  omega
                have ht3 := S3 _ _ ht2
                have g0 : (r.map V.str)[a]? = some (V.str r[a]) := by rw [List.getElem?_map, List.getElem?_eq_getElem (by omega)]; rfl
                have g1 : (r.map V.str)[a + 1]? = some (V.str r[a + 1]) := by rw [List.getElem?_map, List.getElem?_eq_getElem ha']; rfl
                refine ⟨rfl, ?_⟩
                unfold tYes
                refine iteT ⟨_, rfl, _, rfl, t, _, _, _, rfl, rfl, SqT.of ht3, at_of (by omega : (0 + (a : Int) : Int) = ((a : Nat) : Int)) g0, _, rfl, _, rfl, _, _, rfl, rfl, t, _, _, _, rfl, rfl, SqT.of ht3, at_of (by omega : (0 + (a : Int) + 1 : Int) = ((a + 1 : Nat) : Int)) g1, _, _, rfl, rfl, _, e4, ?_, RK.Same.updAt S3 hD2, ?_⟩
                · rw [List.length_map, List.length_map, List.length_range]
                  exact Nat.lt_of_lt_of_le (by omega : a < 101) (by decide)
                · rw [upd_same]
                  have d0 : r.getD a Str.empty = r[a] := by rw [List.getD_eq_getElem?_getD, List.getElem?_eq_getElem (by omega)]; rfl
                  have d1 : r.getD (a + 1) Str.empty = r[a + 1] := by rw [List.getD_eq_getElem?_getD, List.getElem?_eq_getElem ha']; rfl
                  rw [List.range_succ, List.map_append, List.map_append, List.map_cons, List.map_nil, d0, d1]
                  rfl
              · rintro H3 ⟨S3, e4⟩
                have en : ((((r.map V.str).length : Int) - 1)).toNat = r.length - 1 := by rw [List.length_map]; omega
                rw [en] at e4
                refine ⟨D2, _, rfl, SqL.of e4, _, rfl, ?_⟩
                rw [rises_ge]
                have S13 := S12.trans S3
                have ht3 := S13 _ _ ht
                by_cases hasc : Asc r
                · rw [decide_eq_true hasc]
                  refine iteF ?_
                  have hro : RoomOk r := ⟨by omega, by omega, rn, hasc⟩
                  -- earlier rooms
                  refine ⟨_, rfl, (i : Int), rfl, by omega, by omega, for_range (fun j σ H' => ∃ v4 : Option V, σ = [some (.ref R), some (.ref p), some (.int (i : Nat)), some (.ref t), v4, none, none] ∧ L2.Same H3 H' ∧ ∀ q ∈ rs.take j, (common r q.2).length ≤ 1)
                    ⟨_, rfl, L2.Same.refl _, fun q hq => absurd hq (by simp)⟩ ?_ ?_⟩
                  · rintro j σ H4 hj ⟨v4', rfl, S4, hc⟩
                    rw [Int.zero_add]
                    have hjl : j < rs.length := by omega
                    have hgj : rs[j]? = some rs[j] := List.getElem?_eq_getElem hjl
                    have S14 := S13.trans S4
                    have hvj : vs[j]? = some (V.ref (rs[j]).1) := by
                      have h1 : (vs.take i)[j]? = some (V.ref (rs[j]).1) := by
                        rw [ev]
                        unfold refsOf
                        rw [List.getElem?_map, hgj]
                        rfl
                      rw [List.getElem?_take, if_pos (by omega)] at h1
                      exact h1
                    have ht4 := S14 _ _ ht
                    have hq4 := S14 _ _ (hI _ (List.getElem_mem hjl))
                    refine ⟨_, rfl, t, rfl, ⟨_, SqT.of ht4⟩, fun D3 hD3 => ?_⟩
                    refine lc_tup (K := K) (a := t) (xs := r.map V.str) (fun a H' => L2.Same H4 H' ∧ H' D3 = some (.lst ((common (r.take a) (rs[j]).2).map V.str))) ⟨RK.Same.upd hD3, upd_same⟩ (fun a H' _ q => SqT.of (q.1 _ _ ht4)) ?_ ?_
                    · rintro a v H5 ha ⟨S5, e5⟩
                      obtain ⟨x, hx, rfl⟩ := strs_at ha
                      refine ⟨rfl, _, rfl, _, rfl, _, rfl, R, vs, _, _, rfl, rfl, SqT.of (S5 _ _ (S14 _ _ hR)), atI_nat hvj, _, _, rfl, .inr (SqT.of (S5 _ _ hq4)), rfl, flat_strs _, _, rfl, ?_⟩
                      show if (inV (.str x) ((rs[j]).2.map V.str)) = true then _ else _
                      rw [inV_str]
                      have hcm := common_take (ys := (rs[j]).2) hx
                      refine ite2 (fun hb => ?_) (fun hb => ?_)
                      · rw [if_pos (of_decide_eq_true hb)] at hcm
                        refine ⟨_, rfl, _, e5, ?_, RK.Same.updAt S5 hD3, ?_⟩
                        · rw [List.length_map]
                          have h1 : (common (r.take a) (rs[j]).2).length ≤ (r.take a).length := List.length_filter_le _ _
                          have h2 := List.length_take_le' a r
                          exact Nat.lt_of_lt_of_le (by omega : _ < 101) (by decide)
                        · rw [upd_same, hcm, List.map_append]
                          rfl
                      · rw [if_neg (fun z => hb (decide_eq_true z))] at hcm
                        exact ⟨S5, by rw [hcm]; exact e5⟩
                    · rintro H5 ⟨S5, e5⟩
                      rw [List.length_map, List.take_length] at e5
                      refine ⟨D3, _, rfl, .inl (SqL.of e5), _, _, rfl, rfl, _, rfl, ?_⟩
                      rw [List.length_map]
                      by_cases hgt : 1 < (common r (rs[j]).2).length
                      · rw [decide_eq_true (show (1 : Int) < ((common r (rs[j]).2).length : Int) by omega)]
                        refine iteT ⟨_, rfl, bad (fun ⟨r', er', _, hall'⟩ => ?_) H5 (S14.trans S5)⟩
                        have h1 := hall' (rs[j]).2 (List.mem_map_of_mem (List.getElem_mem hjl))
                        rw [← some_inj (Option.some.inj er')] at h1
                        omega
                      · rw [decide_eq_false (show ¬ (1 : Int) < ((common r (rs[j]).2).length : Int) by omega)]
                        refine iteF ⟨_, rfl, S4.trans S5, fun q hq => ?_⟩
                        rw [List.take_add_one, hgj] at hq
                        rcases List.mem_append.mp hq with hq | hq
                        · exact hc q hq
                        · have e : q = rs[j] := by simpa using hq
                          rw [e]
                          omega
                  · rintro σ H4 ⟨v4', rfl, S4, hc⟩
                    rw [show (i : Int).toNat = i from Int.toNat_natCast i, ← hrl, List.take_length] at hc
                    have S14 := S13.trans S4
                    have ht4 := S14 _ _ ht
                    have e14 : H4 p = some (.lst (ks.map V.str)) := ((S2.trans S3).trans S4) _ _ e1
                    refine ⟨_, rfl, _, rfl, t, rfl, ⟨_, SqT.of ht4⟩, fun D4 hD4 => ?_⟩
                    refine lc_tup (K := K) (a := t) (xs := r.map V.str) (fun a H' => L2.Same H4 H' ∧ H' D4 = some (.lst (((r.take a).filter fun x => decide (x ∉ ks)).map V.str))) ⟨RK.Same.upd hD4, upd_same⟩ (fun a H' _ q => SqT.of (q.1 _ _ ht4)) ?_ ?_
                    · rintro a v H5 ha ⟨S5, e5⟩
                      obtain ⟨x, hx, rfl⟩ := strs_at ha
                      have hf := filt_take (q := fun x => decide (x ∉ ks)) hx
                      refine ⟨rfl, _, rfl, _, rfl, p, _, rfl, .inl (SqL.of (S5 _ _ e14)), rfl, flat_strs ks, _, rfl, ?_⟩
                      rw [if_pos rfl, inV_str]
                      refine ite2 (fun hb2 => ?_) (fun hb2 => ?_)
                      · have hu1 : x ∉ ks := by
                          rw [Bool.not_eq_true', decide_eq_false_iff_not] at hb2
                          exact hb2
                        rw [if_pos (decide_eq_true hu1)] at hf
                        refine ⟨_, rfl, _, e5, ?_, RK.Same.updAt S5 hD4, ?_⟩
                        · rw [List.length_map]
                          refine Nat.lt_of_le_of_lt (List.length_filter_le _ _) ?_
                          rw [List.length_take]
                          exact Nat.lt_of_lt_of_le (by omega : min a r.length < 100) (by decide)
                        · rw [upd_same, hf, List.map_append]
                          rfl
                      · have hu1 : x ∈ ks := by
                          rw [Bool.not_eq_true', decide_eq_false_iff_not, Classical.not_not] at hb2
                          exact hb2
                        rw [if_neg (by rw [decide_eq_false (not_not_intro hu1)]; exact Bool.false_ne_true)] at hf
                        exact ⟨S5, by rw [hf]; exact e5⟩
                    · rintro H5 ⟨S5, e5⟩
                      rw [List.length_map, List.take_length] at e5
                      have hfl := List.length_filter_le (fun x => decide (x ∉ ks)) r
                      refine catL_all (S5 _ _ e14) e5 (Nat.le_trans (by rw [List.length_map, List.length_map]; omega : _ ≤ 100) (by decide)) fun p2 H6 S6 np e6 => ?_
                      rw [← List.map_append] at e6
                      refine ⟨_, _, _, p2, _, rs ++ [(t, r)], rfl, (S14.trans S5).trans S6, e6, ?_, ?_, fun x => ?_, ?_, ?_, ?_⟩
                      · rw [List.nodup_append]
                        refine ⟨nd, List.Nodup.sublist List.filter_sublist hasc.nodup, fun a ha b hb e => ?_⟩
                        rw [List.mem_filter, decide_eq_true_eq] at hb
                        exact hb.2 (e ▸ ha)
                      · rw [List.length_append]
                        omega
                      · have e3 : rmsOf (rs ++ [(t, r)]) = rmsOf rs ++ [r] := by unfold rmsOf; rw [List.map_append]; rfl
                        rw [e3, List.mem_append, km x, List.mem_filter, decide_eq_true_eq]
                        constructor
                        · rintro (⟨q, hq, hx⟩ | ⟨hx, _⟩)
                          · exact ⟨q, List.mem_append.mpr (.inl hq), hx⟩
                          · exact ⟨r, List.mem_append.mpr (.inr List.mem_cons_self), hx⟩
                        · rintro ⟨q, hq, hx⟩
                          rcases List.mem_append.mp hq with hq | hq
                          · exact .inl ⟨q, hq, hx⟩
                          · rw [List.mem_singleton.mp hq] at hx
                            by_cases hk : x ∈ ks
                            · exact .inl ((km x).mp hk)
                            · exact .inr ⟨hx, hk⟩
                      · rw [List.take_add_one, e2, ev, hyt]
                        unfold refsOf
                        rw [List.map_append]
                        rfl
                      · intro q hq
                        rcases List.mem_append.mp hq with hq | hq
                        · exact hI q hq
                        · rw [List.mem_singleton.mp hq]
                          exact ht
                      · have e3 : rmsOf (rs ++ [(t, r)]) = rmsOf rs ++ [r] := by unfold rmsOf; rw [List.map_append]; rfl
                        rw [e3]
                        refine hG.add hit rfl hro fun q hq => ?_
                        obtain ⟨q', hq', rfl⟩ := List.mem_map.mp hq
                        exact hc q' hq'
                · rw [decide_eq_false hasc]
                  refine iteT ⟨_, rfl, bad (fun ⟨r', er', ok', _⟩ => ?_) H3 S13⟩
                  rw [← some_inj (Option.some.inj er')] at ok'
                  exact hasc ok'.2.2.2
            · rw [Bool.eq_false_iff.mpr hall]
              refine iteT ⟨_, rfl, bad (fun ⟨r', er', ok', _⟩ => ?_) H2 S12⟩
              cases er'
              refine hall ?_
              rw [List.all_map, List.all_eq_true]
              exact fun x hx => decide_eq_true (ok'.2.2.1 x hx)
        · refine ⟨_, rfl, _, .ty "tuple", _, _, false, rfl, .ty _, TyX.mono S1 hT, kit_ty hk, false, rfl, ?_⟩
          exact iteT ⟨_, rfl, bad (fun ⟨r, er, _⟩ => by cases er) H1 S1⟩
      · rintro σ H1 ⟨v2, v3, v4, p, ks, rs, rfl, S1, e1, nd, kl, km, ev, hI, hG⟩
        rw [show ((vs.length : Int)).toNat = its.length from by rw [hlen]; exact Int.toNat_natCast _, List.take_length] at hG
        have hkl : ks.length = (outsOf (rmsOf rs)).length := by
          refine Nat.le_antisymm (nodup_sub_len nd fun x hx => mem_outsOf.mpr ((km x).mp hx)) (nodup_sub_len (nodup_firsts _) fun x hx => (km x).mpr (mem_outsOf.mp hx))
        refine ⟨_, rfl, p, _, rfl, .inl (SqL.of e1), _, _, rfl, rfl, _, rfl, ?_⟩
        rw [List.length_map, hkl]
        have hml := hG.len
        by_cases hgt : 24 < (outsOf (rmsOf rs)).length
        · rw [decide_eq_true (show (24 : Int) < ((outsOf (rmsOf rs)).length : Int) by omega)]
          refine iteT ⟨_, rfl, R, _, rfl, .inr (SqT.of (S1 _ _ hR)), ?_⟩
          have := k _ H1 (.many ⟨by omega, by omega⟩ hG hgt) S1
          rw [hlen]
          exact this
        · rw [decide_eq_false (show ¬ (24 : Int) < ((outsOf (rmsOf rs)).length : Int) by omega)]
          exact iteF (k none H1 (.fine hG ⟨⟨by omega, by omega⟩, hG.ok, hG.one, by omega⟩) S1)
    · refine ⟨_, rfl, _, .ty "tuple", _, _, false, rfl, .ty _, hT, kit_ty hk, false, rfl, ?_⟩
      exact iteT ⟨_, rfl, k (some (-1)) H .shape0 (L2.Same.refl H)⟩
end
end K01


set_option Elab.async false
set_option linter.all false
set_option maxRecDepth 100000
/-! the rooms of an outcome, by their numbers -/
namespace RK
open PySem PySem.Spec PyProof.Rows L2
theorem numsOf_app (o o2 : List (Str × Nat)) (x : Str) : RK.numsOf (o ++ o2) x = RK.numsOf o x ++ RK.numsOf o2 x := by
  unfold RK.numsOf
  rw [List.filter_append, List.map_append]
theorem numsOf_room (n : Nat) (x : Str) : ∀ r : List Str, r.Nodup → RK.numsOf (r.map fun y => (y, n)) x = if x ∈ r then [n] else []
  | [], _ => rfl
  | y :: r, nd => by
    rw [List.nodup_cons] at nd
    have ih := numsOf_room n x r nd.2
    have e : RK.numsOf ((y :: r).map fun y => (y, n)) x = RK.numsOf [(y, n)] x ++ RK.numsOf (r.map fun y => (y, n)) x := numsOf_app [(y, n)] _ x
    rw [e, ih]
    by_cases h : y = x
    · subst h
      rw [if_neg nd.1, if_pos List.mem_cons_self, List.append_nil]
      unfold RK.numsOf
      simp
    · have e2 : RK.numsOf [(y, n)] x = [] := by
        unfold RK.numsOf
        simp [h]
      rw [e2, List.nil_append]
      by_cases hx : x ∈ r
      · rw [if_pos hx, if_pos (List.mem_cons_of_mem _ hx)]
      · rw [if_neg hx, if_neg (fun z => (List.mem_cons.mp z).elim (fun e => h e.symm) hx)]
def plc (rms : List Rm) (x : Str) (m : Nat) : List Nat := (List.range m).filter fun i => decide (x ∈ rms.getD i [])
theorem plc_succ (rms : List Rm) (x : Str) (m : Nat) : plc rms x (m + 1) = plc rms x m ++ if x ∈ rms.getD m [] then [m] else [] := by
  unfold plc
  rw [List.range_succ, List.filter_append]
  congr 1
  by_cases h : x ∈ rms.getD m []
  · rw [if_pos h, List.filter_cons, if_pos (decide_eq_true h)]
    rfl
  · rw [if_neg h, List.filter_cons, if_neg (by rw [decide_eq_false h]; exact Bool.false_ne_true)]
    rfl
theorem places_eq (x : Str) (rms : List Rm) : (∀ r ∈ rms, r.Nodup) → placesOf rms x = plc rms x rms.length := by
  refine snoc_ind (P := fun rms : List Rm => (∀ r ∈ rms, r.Nodup) → placesOf rms x = plc rms x rms.length) (fun _ => rfl) (fun l r ih hn => ?_) rms
  have ih := ih fun s hs => hn s (List.mem_append.mpr (.inl hs))
  unfold placesOf at ih ⊢
  rw [occs_snoc, numsOf_app, ih, Nat.zero_add, numsOf_room _ _ _ (hn r (by simp)), List.length_append, List.length_singleton, plc_succ]
  have e1 : plc (l ++ [r]) x l.length = plc l x l.length := by
    unfold plc
    refine List.filter_congr fun i hi => ?_
    have hi := List.mem_range.mp hi
    rw [List.getD_eq_getElem?_getD, List.getD_eq_getElem?_getD, List.getElem?_append_left hi]
  have e2 : (l ++ [r]).getD l.length [] = r := by
    rw [List.getD_eq_getElem?_getD, List.getElem?_append_right (Nat.le_refl _), Nat.sub_self]
    rfl
  rw [e1, e2]
theorem isort_asc {rms : List Rm} {ys : List Str} (hp : ys.Perm (outsOf rms)) (hs : sortedS ys = true) : Asc ys ∧ ∀ x, x ∈ ys ↔ ∃ r ∈ rms, x ∈ r :=
  ⟨asc_of hs (hp.nodup_iff.mpr (nodup_firsts _)), fun x => hp.mem_iff.trans mem_outsOf⟩
/-! ### data that equal themselves -/
theorem eqv_str (x : Str) : (PyData.str x).eqv (.str x) = true := by
  show (x == x) = true
  exact beq_self_eq_true x
theorem eqvAll_refl {l : List PyData} (h : ∀ d ∈ l, d.eqv d = true) : PyData.eqvAll l l = true := by
  induction l with
  | nil => rfl
  | cons d r ih =>
    have e : PyData.eqvAll (d :: r) (d :: r) = (d.eqv d && PyData.eqvAll r r) := rfl
    rw [e, h d List.mem_cons_self, ih fun z hz => h z (List.mem_cons_of_mem _ hz)]
    rfl
end RK


set_option Elab.async false
set_option linter.all false
set_option maxRecDepth 100000
/-! rooms as data, and when they equal -/
namespace RK
open PySem PySem.Spec PyProof.Rows L2
def dRoom (r : Rm) : PyData := .tuple (r.map PyData.str)
theorem eqvAll_strs : ∀ r s : List Str, PyData.eqvAll (r.map PyData.str) (s.map PyData.str) = decide (r = s)
  | [], [] => rfl
  | [], _ :: _ => rfl
  | _ :: _, [] => rfl
  | x :: r, y :: s => by
    have e : PyData.eqvAll ((x :: r).map PyData.str) ((y :: s).map PyData.str) = ((x == y) && PyData.eqvAll (r.map PyData.str) (s.map PyData.str)) := rfl
    rw [e, eqvAll_strs r s, Bool.eq_iff_iff, Bool.and_eq_true, beq_iff_eq, decide_eq_true_eq, decide_eq_true_eq, List.cons.injEq]
theorem eqvAll_rooms : ∀ r s : List Rm, PyData.eqvAll (r.map dRoom) (s.map dRoom) = decide (r = s)
  | [], [] => rfl
  | [], _ :: _ => rfl
  | _ :: _, [] => rfl
  | x :: r, y :: s => by
    have e : PyData.eqvAll ((x :: r).map dRoom) ((y :: s).map dRoom) = (PyData.eqvAll (x.map PyData.str) (y.map PyData.str) && PyData.eqvAll (r.map dRoom) (s.map dRoom)) := rfl
    rw [e, eqvAll_strs x y, eqvAll_rooms r s, Bool.eq_iff_iff, Bool.and_eq_true, decide_eq_true_eq, decide_eq_true_eq, decide_eq_true_eq, List.cons.injEq]
theorem eqv_tups (r s : List PyData) : (PyData.tuple r).eqv (.tuple s) = PyData.eqvAll r s := rfl
theorem eqv_lsts (r s : List PyData) : (PyData.list r).eqv (.list s) = PyData.eqvAll r s := rfl
theorem lay_rooms : ∀ rs : List Rm, (∀ r ∈ rs, ∀ x ∈ r, PyData.strOk x = true) → PyData.canLayAll0 (rs.map dRoom) = true
  | [], _ => rfl
  | r :: rs, h => by
    have e : PyData.canLayAll0 ((r :: rs).map dRoom) = (PyData.canLayAll0 (r.map PyData.str) && PyData.canLayAll0 (rs.map dRoom)) := rfl
    rw [e, lay_strs r (h r List.mem_cons_self), lay_rooms rs fun s hs => h s (List.mem_cons_of_mem _ hs)]
    rfl
theorem depth_rooms : ∀ rs : List Rm, PyData.depthAll (rs.map dRoom) ≤ 2
  | [] => by decide
  | r :: rs => by
    have h : PyData.depthAll ((r :: rs).map dRoom) = max (PyData.depthAll (r.map PyData.str) + 1) (PyData.depthAll (rs.map dRoom)) := rfl
    rw [h]
    have := depth_strs r
    exact Nat.max_le.mpr ⟨by omega, depth_rooms rs⟩
theorem shapedT {l : List PyData} (h1 : PyData.canLayAll0 l = true) (h2 : PyData.depthAll l ≤ 50) : SeqAt.shaped (.tuple l) = true := by
  unfold SeqAt.shaped
  have h : (PyData.tuple l).canLay0 = PyData.canLayAll0 l := rfl
  have h3 : (PyData.tuple l).depth = PyData.depthAll l + 1 := rfl
  rw [h, h1, h3, Bool.true_and]
  exact decide_eq_true (by omega)
theorem shapedL {l : List PyData} (h1 : PyData.canLayAll0 l = true) (h2 : PyData.depthAll l ≤ 50) : SeqAt.shaped (.list l) = true := by
  unfold SeqAt.shaped
  have h : (PyData.list l).canLay0 = PyData.canLayAll0 l := rfl
  have h3 : (PyData.list l).depth = PyData.depthAll l + 1 := rfl
  rw [h, h1, h3, Bool.true_and]
  exact decide_eq_true (by omega)
theorem shaped_roomsT {rs : List Rm} (h : ∀ r ∈ rs, ∀ x ∈ r, PyData.strOk x = true) : SeqAt.shaped (.tuple (rs.map dRoom)) = true := shapedT (lay_rooms rs h) (by have := depth_rooms rs; omega)
theorem shaped_roomsL {rs : List Rm} (h : ∀ r ∈ rs, ∀ x ∈ r, PyData.strOk x = true) : SeqAt.shaped (.list (rs.map dRoom)) = true := shapedL (lay_rooms rs h) (by have := depth_rooms rs; omega)
theorem dp_rooms {K : PySem.W.Frag} {H : Hp} : ∀ rs : List (Addr × Rm), (∀ r ∈ rs, H r.1 = some (.tup (r.2.map V.str))) → DpAll K H (rs.map fun r => V.ref r.1) ((rs.map (·.2)).map dRoom)
  | [], _ => .nil
  | r :: rs, h => .cons (.tup (SqT.of (h r List.mem_cons_self)) (dp_strs r.2)) (dp_rooms rs fun s hs => h s (List.mem_cons_of_mem _ hs))
/-- tuples of texts, != and == -/
theorem strsT_eq {K : PySem.W.Frag} {H : Hp} {a b : Addr} {xs ys : List Str} {Q : VK} (hx : ∀ x ∈ xs, PyData.strOk x = true) (hy : ∀ x ∈ ys, PyData.strOk x = true) (ha : H a = some (.tup (xs.map V.str))) (hb : H b = some (.tup (ys.map V.str))) (k : Q (.bl (!decide (xs = ys))) H) : rNeD K (.ref a) (.ref b) H Q := by
  refine ⟨.tuple (xs.map PyData.str), .tuple (ys.map PyData.str), .tup (SqT.of ha) (dp_strs xs), .tup (SqT.of hb) (dp_strs ys), shapedT (lay_strs xs hx) (by have := depth_strs xs; omega), shapedT (lay_strs ys hy) (by have := depth_strs ys; omega), ?_⟩
  rw [eqv_tups, eqvAll_strs]
  exact k
/-- tuples of ints that are the same -/
theorem eqvAll_self_ints : ∀ r : List Int, PyData.eqvAll (r.map PyData.int) (r.map PyData.int) = true
  | [] => rfl
  | x :: r => by
    have e : PyData.eqvAll ((x :: r).map PyData.int) ((x :: r).map PyData.int) = ((x == x) && PyData.eqvAll (r.map PyData.int) (r.map PyData.int)) := rfl
    rw [e, eqvAll_self_ints r, beq_self_eq_true]
    rfl
theorem intsT_self {K : PySem.W.Frag} {H : Hp} {a b : Addr} {xs : List Int} {Q : VK} (ha : H a = some (.tup (xs.map V.int))) (hb : H b = some (.tup (xs.map V.int))) (k : Q (.bl true) H) : rEqD K (.ref a) (.ref b) H Q := by
  refine ⟨.tuple (xs.map PyData.int), .tuple (xs.map PyData.int), .tup (SqT.of ha) (dp_ints xs), .tup (SqT.of hb) (dp_ints xs), shapedT (lay_ints xs) (by have := depth_ints xs; omega), shapedT (lay_ints xs) (by have := depth_ints xs; omega), ?_⟩
  rw [eqv_tups, eqvAll_self_ints]
  exact k
/-! ### triples -/
def dTrip (c : Nat × Nat × Str) : PyData := .tuple [.int (c.1 : Int), .int (c.2.1 : Int), .str c.2.2]
theorem dp_trips {K : PySem.W.Frag} {H : Hp} : ∀ cs : List (Addr × (Nat × Nat × Str)), (∀ c ∈ cs, H c.1 = some (.tup [.int (c.2.1 : Int), .int (c.2.2.1 : Int), .str c.2.2.2])) → DpAll K H (cs.map fun c => V.ref c.1) ((cs.map (·.2)).map dTrip)
  | [], _ => .nil
  | c :: cs, h => .cons (.tup (SqT.of (h c List.mem_cons_self)) (.cons (.int _) (.cons (.int _) (.cons (.str _) .nil)))) (dp_trips cs fun s hs => h s (List.mem_cons_of_mem _ hs))
theorem lay_trips : ∀ cs : List (Nat × Nat × Str), (∀ c ∈ cs, PyData.strOk c.2.2 = true) → PyData.canLayAll0 (cs.map dTrip) = true
  | [], _ => rfl
  | c :: cs, h => by
    have e : PyData.canLayAll0 ((c :: cs).map dTrip) = ((PyData.strOk c.2.2 && true) && PyData.canLayAll0 (cs.map dTrip)) := rfl
    rw [e, h c List.mem_cons_self, lay_trips cs fun s hs => h s (List.mem_cons_of_mem _ hs)]
    rfl
theorem depth_trips : ∀ cs : List (Nat × Nat × Str), PyData.depthAll (cs.map dTrip) ≤ 2
  | [] => by decide
  | c :: cs => by
    have h : PyData.depthAll ((c :: cs).map dTrip) = max (dTrip c).depth (PyData.depthAll (cs.map dTrip)) := rfl
    rw [h]
    exact Nat.max_le.mpr ⟨Nat.le_of_ble_eq_true rfl, depth_trips cs⟩
theorem eqvAll_trips : ∀ cs : List (Nat × Nat × Str), PyData.eqvAll (cs.map dTrip) (cs.map dTrip) = true
  | [] => rfl
  | c :: cs => by
    have e : PyData.eqvAll ((c :: cs).map dTrip) ((c :: cs).map dTrip) = ((((c.1 : Int) == (c.1 : Int)) && (((c.2.1 : Int) == (c.2.1 : Int)) && ((c.2.2 == c.2.2) && true))) && PyData.eqvAll (cs.map dTrip) (cs.map dTrip)) := rfl
    rw [e, eqvAll_trips cs, beq_self_eq_true, beq_self_eq_true, beq_self_eq_true]
    rfl
theorem tripsT_ne {K : PySem.W.Frag} {H : Hp} {a b : Addr} {cs ds : List (Addr × (Nat × Nat × Str))} {Q : VK} (hs : ∀ c ∈ cs.map (·.2), PyData.strOk c.2.2 = true) (e : cs.map (·.2) = ds.map (·.2))
    (ha : H a = some (.tup (cs.map fun c => V.ref c.1))) (hb : H b = some (.tup (ds.map fun c => V.ref c.1)))
    (h1 : ∀ c ∈ cs, H c.1 = some (.tup [.int (c.2.1 : Int), .int (c.2.2.1 : Int), .str c.2.2.2])) (h2 : ∀ c ∈ ds, H c.1 = some (.tup [.int (c.2.1 : Int), .int (c.2.2.1 : Int), .str c.2.2.2])) (k : Q (.bl false) H) : rNeD K (.ref a) (.ref b) H Q := by
  have sh := shapedT (lay_trips _ hs) (by have := depth_trips (cs.map (·.2)); omega)
  refine ⟨.tuple ((cs.map (·.2)).map dTrip), .tuple ((ds.map (·.2)).map dTrip), .tup (SqT.of ha) (dp_trips cs h1), .tup (SqT.of hb) (dp_trips ds h2), sh, by rw [← e]; exact sh, ?_⟩
  rw [← e, eqv_tups, eqvAll_trips]
  exact k
/-- tuples of rooms -/
theorem roomsT_ne {K : PySem.W.Frag} {H : Hp} {a b : Addr} {rs qs : List (Addr × Rm)} {Q : VK} (o1 : ∀ r ∈ rs.map (·.2), ∀ x ∈ r, PyData.strOk x = true) (o2 : ∀ r ∈ qs.map (·.2), ∀ x ∈ r, PyData.strOk x = true)
    (ha : H a = some (.tup (rs.map fun r => V.ref r.1))) (hb : H b = some (.tup (qs.map fun r => V.ref r.1))) (h1 : ∀ r ∈ rs, H r.1 = some (.tup (r.2.map V.str))) (h2 : ∀ r ∈ qs, H r.1 = some (.tup (r.2.map V.str)))
    (k : Q (.bl (!decide (rs.map (·.2) = qs.map (·.2)))) H) : rNeD K (.ref a) (.ref b) H Q := by
  refine ⟨.tuple ((rs.map (·.2)).map dRoom), .tuple ((qs.map (·.2)).map dRoom), .tup (SqT.of ha) (dp_rooms rs h1), .tup (SqT.of hb) (dp_rooms qs h2), shaped_roomsT o1, shaped_roomsT o2, ?_⟩
  rw [eqv_tups, eqvAll_rooms]
  exact k
theorem roomsT_eq {K : PySem.W.Frag} {H : Hp} {a b : Addr} {rs qs : List (Addr × Rm)} {Q : VK} (o1 : ∀ r ∈ rs.map (·.2), ∀ x ∈ r, PyData.strOk x = true) (o2 : ∀ r ∈ qs.map (·.2), ∀ x ∈ r, PyData.strOk x = true)
    (ha : H a = some (.tup (rs.map fun r => V.ref r.1))) (hb : H b = some (.tup (qs.map fun r => V.ref r.1))) (h1 : ∀ r ∈ rs, H r.1 = some (.tup (r.2.map V.str))) (h2 : ∀ r ∈ qs, H r.1 = some (.tup (r.2.map V.str)))
    (k : Q (.bl (decide (rs.map (·.2) = qs.map (·.2)))) H) : rEqD K (.ref a) (.ref b) H Q := by
  refine ⟨.tuple ((rs.map (·.2)).map dRoom), .tuple ((qs.map (·.2)).map dRoom), .tup (SqT.of ha) (dp_rooms rs h1), .tup (SqT.of hb) (dp_rooms qs h2), shaped_roomsT o1, shaped_roomsT o2, ?_⟩
  rw [eqv_tups, eqvAll_rooms]
  exact k
end RK


set_option Elab.async false
set_option linter.all false
set_option maxRecDepth 100000
/-! try with several clauses, each with a name or none -/
namespace RK
open PySem PySem.Spec PyProof.Rows L2
/-- a clause: the class it names, the slot of its name (if it has one), what its suite does -/
abbrev Clz := Value × Option Nat × (Addr → Value → Option Addr → TS)
def putE (i : Option Nat) (v : Option V) (σ : L2.St) : L2.St := match i with | some j => σ.set j v | none => σ
def endsE (i : Option Nat) (D : Ends) : Ends := { nx := fun σ' H' => D.nx (putE i none σ') H', rt := D.rt, bk := fun σ' H' => D.bk (putE i none σ') H', ct := fun σ' H' => D.ct (putE i none σ') H' }
def wClz (K : PySem.W.Frag) (Wout : WX) (D : Ends) : List Clz → WX
  | [] => Wout
  | z :: r => fun cls d σ H => ∃ b, PySem.W.exmOne K cls z.1 = some b ∧ (b = true → ∀ a, H a = none → z.2.2 a cls d (endsE z.2.1 D) (putE z.2.1 (some (.ref a)) σ) H) ∧ (b = false → wClz K Wout D r cls d σ H)
/-- the name of a clause is a local of the def, in that slot -/
def SlotOf (X : Cx) (n : Option Str) (i : Option Nat) : Prop := match n, i with
  | some m, some j => X.N[j]? = some m ∧ X.env.kindOf m = some .local
  | none, none => True
  | _, _ => False
inductive ClzOk (X : Cx) : List ExceptHandler → List Clz → Prop
  | nil : ClzOk X [] []
  | cons {x : Str} {n : Option Str} {z : Clz} {b₀ : Stmt} {suite : List Stmt} {np pos' : Pos} {hds : List ExceptHandler} {l : List Clz} (hc : Names X x z.1) (sl : SlotOf X n z.2.1)
      (hsu : ∀ (a : Addr) (oe : Obj) (cls : Value) (d : Option Addr) (pn : List (Addr × Obj)), Zc cls d oe → (∃ vs, oe.data = .fields vs) → PSs (X.suite a ((a, oe) :: pn)) (b₀ :: suite) (z.2.2 a cls d)) (r : ClzOk X hds l) :
      ClzOk X (.ExceptHandler (some (.Name x np)) n (b₀ :: suite) pos' :: hds) (z :: l)
section
variable {X : Cx} {body : List Stmt} {k0 : ExceptHandler} {ks : List ExceptHandler} {l : List Clz} {pos : Pos} {tb : WX → TS} {Wout : WX}
theorem ps_try_clz (stk : X.stack = X.env :: X.outer) (frm : X.env.frame = some X.env.locals) (nd : X.N.Nodup) (tk : Takes X Wout)
    (hb : ∀ (W : WX) (pn : List (Addr × Obj)) (xe : Value → Shared → Prop), Takes (X.tr pn xe) W → PassesOwn (model X.prog X.w) X.A X.env xe → PSs (X.tr pn xe) body (tb W))
    (hh : ClzOk X (k0 :: ks) l) : PS X (.Try body (k0 :: ks) [] [] pos) (fun D σ H => tb (wClz X.K Wout D l) D σ H) := by
  refine ⟨fun pins s σ H D I h => wpAny_Try_except ?_⟩
  have okX := I.ok
  have fr0 : X.A.frames = some (X.env :: X.outer) := okX.frames.trans (congrArg some stk)
  let xe1 : Value → Shared → Prop := fun e sa => wpAny (model X.prog X.w) X.A (noteFrame e X.env) (fun _ sb => wpAny (model X.prog X.w) X.A (setFlight e none) (fun _ sc => wpAny (model X.prog X.w) X.A (handleBy e X.env (k0 :: ks)) (SP X pins D) X.xe sc) X.xe sb) X.xe sa
  have caught : Takes (X.tr (X.pn ++ pins) xe1) (wClz X.K Wout D l) := by
    intro u sx ⟨a, B, sI, pinsX, σx, Hx, cls, d, eu, Jx, nbare, up0, sky0, afree, osx, allb, wish⟩
    subst eu
    have J := Jx.ofTry okX
    show wpAny (model X.prog X.w) X.A (noteFrame (.ref a) X.env) _ _ _
    refine Sky.land Zc.steady fr0 frm (show Sky B (X.env :: X.outer) a (Zc cls d) X.env.locals sx.heap from stk ▸ sky0) fun hA flA upA => ?_
    obtain ⟨oA, vA, getA, zA, dataA⟩ := flA.there
    have IA : L2.Inv X pins σx Hx { sx with heap := hA } := J.landed nbare flA.1 (up0.trans upA) osx allb
    have notin : a ∉ frs (X.env :: X.outer) := fun mem => by
      obtain ⟨_, o2, g2, n2⟩ := flA.2.2.1.mem mem
      have eo := Option.some.inj (getA.symm.trans g2)
      subst eo
      exact n2 _ dataA
    have aL : a ≠ X.env.locals := fun z => notin (List.mem_filterMap.mpr ⟨X.env, List.mem_cons_self, frm.trans (congrArg some z.symm)⟩)
    have aF : a ∉ X.fs := fun mem => by
      obtain ⟨en, he, q⟩ := List.mem_filterMap.mp mem
      exact notin (List.mem_filterMap.mpr ⟨en, List.mem_cons_of_mem _ he, q⟩)
    have SA := IA.suite getA dataA afree aL aF
    have run : ∀ {hs2 : List ExceptHandler} {l2 : List Clz}, ClzOk X hs2 l2 → wClz X.K Wout D l2 cls d σx Hx → wpAny (model X.prog X.w) X.A (handleBy (.ref a) X.env hs2) (SP X pins D) X.xe { sx with heap := hA } := by
      intro hs2 l2 hk
      induction hk with
      | nil =>
        intro wsh
        refine wpAny_handleBy_nil ?_
        obtain ⟨_, _, _, oB, vB, T, oT, _, getB, _, dataB, oneB, _⟩ := id flA
        have last : wpAny (model X.prog X.w) X.A (setFlight (.ref a) X.env.frame) (fun _ sd => wpAny (model X.prog X.w) X.A (throw (.ref a) : Sem Flow) (SP X pins D) X.xe sd) X.xe { sx with heap := hA } := by
          rw [frm]
          exact HandSPX.setFlight_upZ flA fun hB skyB upB => wpAny_throw (tk _ _ ⟨a, B, sI, pins, σx, Hx, cls, d, rfl, J, nbare, (up0.trans upA).trans upB, .inr (.inr (stk ▸ skyB)), afree, osx, allb, wsh⟩)
        unfold PySem.passOn
        refine wpAny_bind (wpAny_field getB dataB oneB ?_)
        rw [if_neg (by simp : ¬ ((Value.ref T == Value.none) = true))]
        first | exact wpAny_bind (wpAny_pure (wpAny_bind last)) | exact wpAny_bind last
      | @cons x n z b₀ suite np pos' hds2 l3 hc sl hsu rr ih =>
        rintro ⟨b, eb, yes, no⟩
        refine wpAny_handleBy_cons (codeAny_handlers_test ?_) (fun q => by cases q)
        have tyA : PySem.W.Looks (model X.prog X.w) hA (typeOf (.ref a)) cls := fun _ _ _ _ kk qq => wpAny_typeOf_ref (kk _ _ getA) (by rw [zA.1]; exact qq)
        have nameIt : ∀ {Qn En : Value → Shared → Prop}, Qn z.1 { sx with heap := hA } → wpAny (model X.prog X.w) (X.A.mark (some (.ref a))) (eval (.Name x np) X.env) Qn En { sx with heap := hA } := fun {Qn En} qn => by
          obtain ⟨g1, g2, g3 | ⟨g3, g4, g5⟩⟩ := hc
          · exact ld_glob (X := X.suite a ((a, oA) :: (X.pn ++ pins))) SA g1 g3 qn g2
          · exact ld_blt (X := X.suite a ((a, oA) :: (X.pn ++ pins))) SA g1 g3 g4 qn g5 g2
        refine nameIt ((PySem.W.exm_one (M := model X.prog X.w) (IA.kIn) tyA eb).here ?_)
        cases b with
        | false => exact ih (no rfl)
        | true =>
          have hy := yes rfl a afree
          cases n with
          | none =>
            obtain ⟨c1, i1, ts1⟩ := z
            cases i1 with
            | some j => exact absurd sl (fun q => q)
            | none =>
              refine codeAny_handlers_suite (HandSPX.lands_againZ flA fun hB flB upB => ?_)
              obtain ⟨oB, vB, getB, zB, dataB⟩ := flB.there
              have IB : L2.Inv X pins σx Hx { sx with heap := hB } := J.landed nbare flB.1 ((up0.trans upA).trans upB) osx allb
              have SB := IB.suite getB dataB afree aL aF
              refine wpAny_mono ((hsu a oB cls d (X.pn ++ pins) zB ⟨_, dataB⟩).run [] _ _ Hx _ SB hy) (fun fl s6 got => ?_) (fun _ _ q => q.elim)
              cases fl with
              | next => obtain ⟨σ6, H6, J6, q6⟩ := got; exact ⟨_, _, J6.unsuite okX, q6⟩
              | brk => obtain ⟨σ6, H6, J6, q6⟩ := got; exact ⟨_, _, J6.unsuite okX, q6⟩
              | cont => obtain ⟨σ6, H6, J6, q6⟩ := got; exact ⟨_, _, J6.unsuite okX, q6⟩
              | ret u => obtain ⟨v6, σ6, H6, J6, r6, q6⟩ := got; exact ⟨_, _, _, J6.unsuite okX, r6, q6⟩
          | some m =>
            obtain ⟨c1, i1, ts1⟩ := z
            cases i1 with
            | none => exact absurd sl (fun q => q)
            | some j =>
              obtain ⟨hj, hloc⟩ : X.N[j]? = some m ∧ X.env.kindOf m = some .local := sl
              refine codeAny_handlers_suite_as (HandSPX.lands_againZ flA fun hB flB upB => ?_)
              obtain ⟨oB, vB, getB, zB, dataB⟩ := flB.there
              have IB : L2.Inv X pins σx Hx { sx with heap := hB } := J.landed nbare flB.1 ((up0.trans upA).trans upB) osx allb
              have SB := IB.suite getB dataB afree aL aF
              refine store_ok (X := X.suite a ((a, oB) :: (X.pn ++ pins))) (v := .ref a) SB nd hj (.inl hloc) rfl (fun s5 S5 => ?_) (.inr hloc)
              refine wpAny_mono ((hsu a oB cls d (X.pn ++ pins) zB ⟨_, dataB⟩).run [] s5 _ Hx _ S5 hy) (fun fl s6 got => ?_) (fun _ _ q => q.elim)
              cases fl with
              | next => obtain ⟨σ6, H6, J6, q6⟩ := got; exact gone_ok (J6.unsuite okX) nd hj hloc fun s7 J7 => ⟨_, _, J7, q6⟩
              | brk => obtain ⟨σ6, H6, J6, q6⟩ := got; exact gone_ok (J6.unsuite okX) nd hj hloc fun s7 J7 => ⟨_, _, J7, q6⟩
              | cont => obtain ⟨σ6, H6, J6, q6⟩ := got; exact gone_ok (J6.unsuite okX) nd hj hloc fun s7 J7 => ⟨_, _, J7, q6⟩
              | ret u => obtain ⟨v6, σ6, H6, J6, r6, q6⟩ := got; exact gone_ok (J6.unsuite okX) nd hj hloc fun s7 J7 => ⟨_, _, _, J7, r6, q6⟩
    exact run hh wish
  refine wpAny_mono ((hb (wClz X.K Wout D l) (X.pn ++ pins) xe1 caught PassesOwn.looking).run [] s σ H D (I.toTry _) h) (fun fl s1 got => ?_) (fun _ _ q => q)
  cases fl with
  | next => obtain ⟨σ1, H1, J1, q1⟩ := got; exact wpAny_execs_nil ⟨σ1, H1, J1.ofTry okX, q1⟩
  | brk => obtain ⟨σ1, H1, J1, q1⟩ := got; exact ⟨σ1, H1, J1.ofTry okX, q1⟩
  | cont => obtain ⟨σ1, H1, J1, q1⟩ := got; exact ⟨σ1, H1, J1.ofTry okX, q1⟩
  | ret u => obtain ⟨v1, σ1, H1, J1, r1, q1⟩ := got; exact ⟨v1, σ1, H1, J1.ofTry okX, r1, q1⟩
end
end RK


set_option Elab.async false
set_option linter.all false
set_option maxRecDepth 100000
set_option maxHeartbeats 4000000
/-! a book of any value, or the error that is caught -/
namespace K01
open PySem PySem.Spec PyProof.Rows L2 RK
abbrev sToldA : Stmt := topL 34
structure TTo (K : PySem.W.Frag) (mg : Str → Option Value) (CB CI CR fI : Addr) : Prop where
  cl : Cls K CB
  nR : NoAttr K CB "rooms"
  err : ErrC K mg "InvalidBook" "at" CI fI
  gR : mg "RoomError" = some (.ref CR)
  xm : PySem.W.exmOne K (.ref CI) (.ref CI) = some true
theorem rooms_ok {rms : List Rm} (h : RoomsOk rms) : ∀ r ∈ rms, ∀ x ∈ r, PyData.strOk x = true := fun r hr x hx => low_ok ((h.ok r hr).2.2.1 x hx).2.2
/-- right items are rooms at some addresses -/
theorem items_rooms {K : PySem.W.Frag} {H : Hp} : ∀ {vs : List V} {rms : List Rm}, At2 (ItemAt K H) vs (rms.map fun r => some (r.map some)) → ∃ rs : List (Addr × Rm), vs = refsOf rs ∧ RoomsIn H rs ∧ rmsOf rs = rms
  | [], [], _ => ⟨[], rfl, fun r hr => absurd hr List.not_mem_nil, rfl⟩
  | v :: vs, [], h => absurd h.1 (by simp)
  | [], r :: rms, h => absurd h.1 (by simp)
  | v :: vs, r :: rms, h => by
    have h0 := h.2 0 v (some (r.map some)) rfl rfl
    have ht : At2 (ItemAt K H) vs (rms.map fun r => some (r.map some)) := ⟨by have := h.1; simpa using this, fun i u a e1 e2 => h.2 (i + 1) u a (by simpa using e1) (by simpa using e2)⟩
    obtain ⟨rs, e1, e2, e3⟩ := items_rooms ht
    rcases h0 with ⟨t, us, as, eas, ev, htp, _, h3⟩ | ⟨eas, _⟩
    · cases eas
      have eus := strs_eq h3
      subst eus
      refine ⟨(t, r) :: rs, by rw [ev, e1]; rfl, fun q hq => ?_, by rw [← e3]; rfl⟩
      rcases List.mem_cons.mp hq with hq | hq
      · rw [hq]
        exact htp
      · exact e2 q hq
    · cases eas
def spToldA (K : PySem.W.Frag) : Sp := fun vs H Q _ => ∃ (v : V) (val : Vl), vs = [v] ∧ ValAt K H v val ∧ ∀ (o : Option Int) (H' : Hp), FaultIs val o → L2.Same H H' → Q (optI o) H'
def tToldB (K : PySem.W.Frag) (CB CI : Addr) : WX → TS := fun W => tRet (tIf (tTest (tOp (rEqD K) (tFld K (tMakeKS CB (spBInitA K CB CI) kwApp (WE W) (tCons (tVar 0) tNil)) "rooms") (tVar 0))) (tC .non) (tC (.str "other rooms")))
def lTold (CI CR : Addr) : List Clz := [(.ref CI, some 1, fun a cls d => tRet (tXf a cls d CI "at" (tVar 1))), (.ref CR, none, fun _ _ _ => tRet (tC (.str "another error")))]
/-- each value has a fault or none -/
theorem fault_some (val : Vl) : ∃ o, FaultIs val o := by
  cases val with
  | none => exact ⟨_, .shape0⟩
  | some its =>
    by_cases h : its.length = 0 ∨ 10 < its.length
    · exact ⟨_, .shape h⟩
    · have key : ∀ n ≤ its.length, (∃ i rms it, Good (its.take i) rms ∧ its[i]? = some it ∧ ¬ OkNext rms it) ∨ ∃ rms, Good (its.take n) rms := by
        intro n
        induction n with
        | zero => intro _; exact .inr ⟨[], by rw [List.take_zero]; exact Good.nil⟩
        | succ n ih =>
          intro hn
          rcases ih (by omega) with hh | ⟨rms, g⟩
          · exact .inl hh
          · have e : its[n]? = some its[n] := List.getElem?_eq_getElem (by omega)
            by_cases hk : OkNext rms its[n]
            · obtain ⟨r, er, ok, hc⟩ := hk
              exact .inr ⟨_, g.add e er ok hc⟩
            · exact .inl ⟨n, rms, _, g, e, hk⟩
      rcases key its.length (Nat.le_refl _) with ⟨i, rms, it, g, e, n⟩ | ⟨rms, g⟩
      · exact ⟨_, .at_ ⟨by omega, by omega⟩ g e n⟩
      · rw [List.take_length] at g
        by_cases hm : 24 < (outsOf rms).length
        · exact ⟨_, .many ⟨by omega, by omega⟩ g hm⟩
        · have := g.len
          exact ⟨_, .fine g ⟨⟨by omega, by omega⟩, g.ok, g.one, by omega⟩⟩
section
variable {P : Program} {w : World} {K : PySem.W.Frag} {mg : Str → Option Value} {base : Heap} {CB CI CR fI : Addr}
abbrev nToldA : List Str := ["value", "e"]
theorem scToldA : FnScope nToldA ["value"] (defScope sToldA) := ⟨rfl, rfl, rfl, by decide +kernel, rfl, by decide +kernel, by decide +kernel⟩
theorem ok_toldA {f : Addr} {fd : FuncData} (F : Fun K "_law_told" "_law_told" sToldA f fd) (T : TTo K mg CB CI CR fI) (c_Book : Cck P w K mg base (L2.CX P w) 4 "Book" CB ["self", "rooms"] ["rooms"] kwApp (spBInitA K CB CI)) :
    FnOk P w K mg base CX0 6 f fd ["value"] (spToldA K) := by
  refine F.ok scToldA (fun vs H Q E h => ?_) (fun cdv A outer s H vs Q E hr h => ?_)
  · obtain ⟨v, val, rfl, _⟩ := h
    rfl
  · obtain ⟨v, val, rfl, hv, k⟩ := h
    refine ⟨_, pss_one (ps_try_clz (tb := tToldB K CB CI) (l := lTold CI CR) (Wout := fun _ _ _ _ => False) rfl rfl scToldA.nd takes0
      (fun W pn xe tk _ => pss_one (ps_ret (pe_ifExp (pt_cmpR (r := rEqD K) (op_eqD hr.units) (pe_fld (pe_makeKS c_Book (j := 5) (hr.mono (by decide)) (by decide) (fun σ => passAt tk σ) (pk_cons (pv 0) pk_nil)) rfl) (pv 0) (nomark _)) pe_non pe_str)))
      (.cons ⟨rfl, by decide, Or.inl T.err.gC⟩ ⟨rfl, rfl⟩ (fun a oe cls d pn hz hf => pss_one (ps_ret (pe_xf T.err.xf T.err.no hz hf (pv 1))))
        (.cons ⟨rfl, by decide, Or.inl T.gR⟩ trivial (fun a oe cls d pn hz hf => pss_one (ps_ret pe_str)) .nil))), ?_⟩
    show tRet _ _ _ _
    refine ⟨_, rfl, fun b dx hb hdx hne => ?_⟩
    have S : L2.Same H (upd (upd H dx (.own b)) b (.ins CB dx [])) := RK.Same.updAt (RK.Same.upd hdx) hb
    refine ⟨b, v, dx, val, rfl, upd_same, hv.same S, fun z hz H' d S' hd => ?_, fun rms its ev hG ok H' hB hk => ⟨rfl, ?_⟩⟩
    · refine ⟨true, T.xm, fun _ a ha => ?_, fun q => Bool.noConfusion q⟩
      exact ⟨_, rfl, rfl, rfl, d, _, _, rfl, upd_same, rfl, k (some z) _ hz ((S.trans S').trans (RK.Same.upd hd))⟩
    · subst ev
      have keep : L2.Same H H' := fun c o hc => hk c o (S _ _ hc) (ne_of_none hc hb)
      rcases hv with ⟨R, vs, its', eits, rfl, hR, hl, h2⟩ | ⟨eits, _⟩
      · cases eits
        rw [hG.e] at h2
        obtain ⟨rs, rfl, hI, er⟩ := items_rooms h2
        obtain ⟨dx2, R2, D2, qs, g1, g2, g3, g4, _⟩ := id hB.ex
        have o1 : ∀ r ∈ rmsOf qs, ∀ x ∈ r, PyData.strOk x = true := by rw [g2]; exact rooms_ok ok
        have o2 : ∀ r ∈ rmsOf rs, ∀ x ∈ r, PyData.strOk x = true := by rw [er]; exact rooms_ok ok
        refine ⟨b, CB, dx2, _, _, rfl, g1, T.cl, T.nR, bflds_rooms _ _, _, rfl, roomsT_eq o1 o2 g3 (keep _ _ hR) g4 (fun r hr => keep _ _ (hI r hr)) ⟨_, rfl, ?_⟩⟩
        have e2 : qs.map (·.2) = rs.map (·.2) := g2.trans er.symm
        rw [decide_eq_true e2]
        exact iteT (k none _ (.fine hG ok) keep)
      · cases eits
end
end K01


set_option Elab.async false
set_option linter.all false
set_option maxRecDepth 100000
/-! heaps that differ in what lists have; values stay what they are -/
namespace RK
open PySem PySem.Spec PyProof.Rows L2
def Ls (H H' : Hp) : Prop := ∀ b o, H b = some o → H' b = some o ∨ ∃ xs ys, o = .lst xs ∧ H' b = some (.lst ys)
theorem Ls.of {H H' : Hp} (S : L2.Same H H') : Ls H H' := fun b o e => .inl (S b o e)
theorem Ls.refl (H : Hp) : Ls H H := fun b o e => .inl e
theorem Ls.trans {H H1 H2 : Hp} (a : Ls H H1) (b : Ls H1 H2) : Ls H H2 := fun c o e => by
  rcases a c o e with h | ⟨xs, ys, h1, h2⟩
  · exact b c o h
  · rcases b c _ h2 with h | ⟨us, vs, _, h⟩
    · exact .inr ⟨xs, ys, h1, h⟩
    · exact .inr ⟨xs, vs, h1, h⟩
theorem Ls.kh {h l : Addr} {H H' : Hp} (a : HeapAt H h l) (b : HeapAt H' h l) (k : Kh h l H H') : Ls H H' := fun c o e => by
  obtain ⟨_, zs, s, e1, e2, _⟩ := a
  obtain ⟨_, zs', s', f1, f2, _⟩ := b
  by_cases ch : c = h
  · subst ch
    rw [e1] at e
    cases e
    exact .inr ⟨_, _, rfl, f1⟩
  · by_cases cl : c = l
    · subst cl
      rw [e2] at e
      cases e
      exact .inr ⟨_, _, rfl, f2⟩
    · exact .inl (k c o e ch cl)
theorem Ls.upd {H : Hp} {m : Addr} {xs ys : List V} (e : H m = some (.lst xs)) : Ls H (L2.upd H m (.lst ys)) := fun c o h => by
  by_cases cm : c = m
  · subst cm
    rw [e] at h
    cases h
    exact .inr ⟨_, _, rfl, upd_same⟩
  · exact .inl (by rw [upd_ne cm]; exact h)
theorem Ls.keep {H H' : Hp} (a : Ls H H') {b : Addr} {o : HO} (e : H b = some o) (n : ∀ xs, o ≠ .lst xs) : H' b = some o := by
  rcases a b o e with h | ⟨xs, ys, h, _⟩
  · exact h
  · exact absurd h (n xs)
theorem Ls.tup {H H' : Hp} (a : Ls H H') {b : Addr} {xs : List V} (e : H b = some (.tup xs)) : H' b = some (.tup xs) := a.keep e fun ys z => by cases z
theorem Ls.ty {K : PySem.W.Frag} {H H' : Hp} (a : Ls H H') {v : V} {t : Value} (h : TyX K H v t) : TyX K H' v t := by
  cases h with
  | base b =>
    refine .base ?_
    cases b with
    | non => exact .non
    | bl x => exact .bl x
    | int i => exact .int i
    | str x => exact .str x
    | flt x => exact .flt x
    | lst e =>
      rcases a _ _ e with h | ⟨_, ys, _, h⟩
      · exact .lst h
      · exact .lst h
    | frz e => exact .frz (a.keep e fun ys z => by cases z)
    | tup e => exact .tup (a.tup e)
    | dK e => exact .dK (a.keep e fun ys z => by cases z)
    | dT e => exact .dT (a.keep e fun ys z => by cases z)
    | ins e cl ha hn ht hm => exact .ins (a.keep e fun ys z => by cases z) cl ha hn ht hm
  | byt b => exact .byt b
  | set e => exact .set (a.keep e fun ys z => by cases z)
  | kList e c => exact .kList e c
  | kTuple e c => exact .kTuple e c
  | kDict e c => exact .kDict e c
  | fTuple e => exact .fTuple (a.keep e fun ys z => by cases z)
  | fDict e => exact .fDict (a.keep e fun ys z => by cases z)
theorem NotTy.ls {K : PySem.W.Frag} {H H' : Hp} (a : Ls H H') {v : V} {t : String} (h : NotTy K H v t) : NotTy K H' v t := by
  obtain ⟨T, x, y⟩ := h
  exact ⟨T, a.ty x, y⟩
theorem AtomAt.ls {K : PySem.W.Frag} {H H' : Hp} (a : Ls H H') {v : V} {t : Atom} (h : AtomAt K H v t) : AtomAt K H' v t := by
  rcases h with h | ⟨e, n, h⟩
  · exact .inl h
  · exact .inr ⟨e, n, h.ls a⟩
theorem ItemAt.ls {K : PySem.W.Frag} {H H' : Hp} (a : Ls H H') {v : V} {t : Item} (h : ItemAt K H v t) : ItemAt K H' v t := by
  rcases h with ⟨t, vs, as, e, ev, ht, hl, h2⟩ | ⟨e, h⟩
  · exact .inl ⟨t, vs, as, e, ev, a.tup ht, hl, h2.imp fun _ _ z => z.ls a⟩
  · exact .inr ⟨e, h.ls a⟩
theorem ValAt.ls {K : PySem.W.Frag} {H H' : Hp} (a : Ls H H') {v : V} {t : Vl} (h : ValAt K H v t) : ValAt K H' v t := by
  rcases h with ⟨t, vs, as, e, ev, ht, hl, h2⟩ | ⟨e, h⟩
  · exact .inl ⟨t, vs, as, e, ev, a.tup ht, hl, h2.imp fun _ _ z => z.ls a⟩
  · exact .inr ⟨e, h.ls a⟩
/-! ### what is an atom, an item -/
def IsAtom (K : PySem.W.Frag) (H : Hp) (v : V) : Prop := ∃ a, AtomAt K H v a
def IsItem (K : PySem.W.Frag) (H : Hp) (v : V) : Prop := ∃ it, ItemAt K H v it
section
variable {K : PySem.W.Frag} {H H' : Hp}
theorem IsAtom.ls (a : Ls H H') {v : V} (h : IsAtom K H v) : IsAtom K H' v := by
  obtain ⟨x, hx⟩ := h
  exact ⟨x, hx.ls a⟩
theorem IsItem.ls (a : Ls H H') {v : V} (h : IsItem K H v) : IsItem K H' v := by
  obtain ⟨x, hx⟩ := h
  exact ⟨x, hx.ls a⟩
theorem atom_str {x : Str} (h : x.length ≤ 1000) : IsAtom K H (.str x) := ⟨_, .inl ⟨x, rfl, rfl, h⟩⟩
theorem atom_non : IsAtom K H .non := ⟨none, .inr ⟨rfl, (fun x z => by cases z), "NoneType", .base .non, by decide +kernel⟩⟩
theorem atom_int (i : Int) : IsAtom K H (.int i) := ⟨none, .inr ⟨rfl, (fun x z => by cases z), "int", .base (.int i), by decide +kernel⟩⟩
theorem atom_bl (i : Bool) : IsAtom K H (.bl i) := ⟨none, .inr ⟨rfl, (fun x z => by cases z), "bool", .base (.bl i), by decide +kernel⟩⟩
theorem atom_tup {a : Addr} {xs : List V} (e : H a = some (.tup xs)) : IsAtom K H (.ref a) := ⟨none, .inr ⟨rfl, (fun x z => by cases z), "tuple", .base (.tup e), by decide +kernel⟩⟩
theorem atom_lst {a : Addr} {xs : List V} (e : H a = some (.lst xs)) : IsAtom K H (.ref a) := ⟨none, .inr ⟨rfl, (fun x z => by cases z), "list", .base (.lst e), by decide +kernel⟩⟩
theorem item_tup {a : Addr} {xs : List V} (e : H a = some (.tup xs)) (hl : xs.length ≤ 1000) (h : ∀ x ∈ xs, IsAtom K H x) : IsItem K H (.ref a) := by
  obtain ⟨as, has⟩ := At2.ex h
  exact ⟨some as, .inl ⟨a, xs, as, rfl, rfl, e, hl, has⟩⟩
theorem item_strs {a : Addr} {xs : List Str} (e : H a = some (.tup (xs.map V.str))) (hl : xs.length ≤ 1000) (h : ∀ x ∈ xs, x.length ≤ 1000) : IsItem K H (.ref a) := by
  refine item_tup e (by rw [List.length_map]; exact hl) fun v hv => ?_
  obtain ⟨x, hx, rfl⟩ := List.mem_map.mp hv
  exact atom_str (h x hx)
theorem item_non : IsItem K H .non := ⟨none, .inr ⟨rfl, "NoneType", .base .non, by decide +kernel⟩⟩
theorem item_int (i : Int) : IsItem K H (.int i) := ⟨none, .inr ⟨rfl, "int", .base (.int i), by decide +kernel⟩⟩
theorem item_str (x : Str) : IsItem K H (.str x) := ⟨none, .inr ⟨rfl, "str", .base (.str x), by decide +kernel⟩⟩
theorem item_lst {a : Addr} {xs : List V} (e : H a = some (.lst xs)) : IsItem K H (.ref a) := ⟨none, .inr ⟨rfl, "list", .base (.lst e), by decide +kernel⟩⟩
theorem val_tup {a : Addr} {xs : List V} (e : H a = some (.tup xs)) (hl : xs.length ≤ 1000) (h : ∀ x ∈ xs, IsItem K H x) : ∃ val, ValAt K H (.ref a) val := by
  obtain ⟨as, has⟩ := At2.ex h
  exact ⟨some as, .inl ⟨a, xs, as, rfl, rfl, e, hl, has⟩⟩
theorem slA_all {a : Addr} {xs : List V} {lo hi : Option Int} {Q : VK} (ha : H a = some (.tup xs)) (k : ∀ (p : Addr) (H' : Hp), L2.Same H H' → H' p = some (.tup (cutV xs lo hi)) → Q (.ref p) H') : rSlA K (.ref a) lo hi H Q := by
  refine ⟨a, xs, rfl, SqT.of ha, fun z => k a H (L2.Same.refl H) ?_, fun _ p hp => k p _ (RK.Same.upd hp) upd_same⟩
  rw [ha]
  unfold cutV
  rw [z.1, z.2, List.drop_zero, Nat.sub_zero, List.take_length]
theorem mem_cutV {xs : List V} {lo hi : Option Int} {v : V} (h : v ∈ cutV xs lo hi) : v ∈ xs := List.mem_of_mem_drop (List.mem_of_mem_take h)
end
end RK


set_option Elab.async false
set_option linter.all false
set_option maxRecDepth 100000
/-! a tuple turned about: t[::-1] -/
namespace RK
open PySem PySem.Spec PyProof.Rows L2
theorem fm_congr {α β : Type} {f g : α → Option β} : ∀ {l : List α}, (∀ x ∈ l, f x = g x) → l.filterMap f = l.filterMap g
  | [], _ => rfl
  | x :: l, h => by rw [List.filterMap_cons, List.filterMap_cons, h x List.mem_cons_self, fm_congr fun y hy => h y (List.mem_cons_of_mem _ hy)]
theorem rev_pick (xs : Array Value) : ((List.range xs.size).filterMap fun (m : Nat) => xs[((((xs.size : Int) - 1) + (m : Int) * (-1))).toNat]?).toArray = xs.toList.reverse.toArray := by
  have e1 : ((List.range xs.size).filterMap fun (m : Nat) => xs[((((xs.size : Int) - 1) + (m : Int) * (-1))).toNat]?) = (List.range xs.size).filterMap fun m => some (xs.toList.reverse.getD m Value.none) := by
    refine fm_congr fun m hm => ?_
    have hm := List.mem_range.mp hm
    have e : ((((xs.size : Int) - 1) + (m : Int) * (-1))).toNat = xs.size - 1 - m := by omega
    rw [e, Array.getElem?_eq_getElem (by omega), List.getD_eq_getElem?_getD, List.getElem?_reverse (by simpa using hm), Array.length_toList, Array.getElem?_toList, Array.getElem?_eq_getElem (by omega)]
    rfl
  rw [e1]
  congr 1
  have e2 : ((List.range xs.size).filterMap fun m => some (xs.toList.reverse.getD m Value.none)) = (List.range xs.size).map fun m => xs.toList.reverse.getD m Value.none := by
    exact congrFun (List.filterMap_eq_map (f := fun m => xs.toList.reverse.getD m Value.none)) _
  rw [e2]
  refine List.ext_getElem? fun i => ?_
  rw [List.getElem?_map]
  by_cases hi : i < xs.size
  · have hr : xs.toList.reverse[i]? = some (xs.toList.reverse[i]'(by simpa using hi)) := List.getElem?_eq_getElem (by simpa using hi)
    rw [List.getElem?_range hi, hr, Option.map_some, List.getD_eq_getElem?_getD, hr]
    rfl
  · rw [List.getElem?_eq_none (by simp; omega), List.getElem?_eq_none (by simp; omega)]
    rfl
section
variable {prog : Program} {w : World} {A : Around} {E : Value → Shared → Prop} {s : Shared}
theorem applied_rev {sl : Addr} {tk : Tok} {n : Nat} {Q : Int × Int × Nat → Shared → Prop} (hs : s.heap.IsSliceOf sl .none .none (.int (-1) tk)) (h : Q ((n : Int) - 1, -1, n) s) :
    wpAny (model prog w) A (Builtin.Slice.sliceApplied (.ref sl) (pure (n : Int))) Q E s := by
  obtain ⟨oS, gS, _, fS⟩ := id hs
  unfold Builtin.Slice.sliceApplied Builtin.Slice.sliceFields
  refine wpAny_bind (wpAny_bind (wpAny_field gS fS (x := .none) rfl (wpAny_bind (wpAny_field gS fS (x := .none) rfl (wpAny_bind (wpAny_field gS fS (x := .int (-1) tk) rfl (wpAny_pure ?_)))))))
  refine wpAny_bind (slicePart_int ?_)
  show wpAny _ _ (if ((-1 : Int) == 0) = true then _ else _) _ _ s
  rw [if_neg (by decide)]
  refine wpAny_bind (slicePart_none (wpAny_bind (slicePart_none (wpAny_bind (wpAny_pure ?_)))))
  show wpAny _ _ (pure ((n : Int) - 1, (-1 : Int), Builtin.Slice.slicePlaces ((n : Int) - 1) (-1) (-1))) _ _ s
  have e : Builtin.Slice.slicePlaces ((n : Int) - 1) (-1) (-1) = n := by
    unfold Builtin.Slice.slicePlaces
    rw [if_neg (by decide)]
    by_cases h0 : n = 0
    · subst h0
      decide
    · rw [if_pos (by omega)]
      have : (((n : Int) - 1 - -1 - 1) / - -1 + 1) = (n : Int) := by
        rw [show (- -1 : Int) = 1 from rfl, Int.ediv_one]
        omega
      rw [this, Int.toNat_natCast]
  rw [e]
  exact wpAny_pure h
theorem getItem_tuple_rev {t sl : Addr} {items : Array Value} {tk : Tok} {Q : Value → Shared → Prop} (ht : IsTup s.heap t items) (hs : s.heap.IsSliceOf sl .none .none (.int (-1) tk))
    (h : Q (.ref s.heap.objs.size) { s with heap := s.heap.push { cls := .type "tuple", data := .seq items.toList.reverse.toArray } }) (fits : items.size ≤ sizeLine) : wpAny (model prog w) A (getItem (.ref t) (.ref sl)) Q E s := by
  have okS : sizeOk (.seq items.toList.reverse.toArray) := by
    show items.toList.reverse.toArray.size ≤ sizeLine
    rw [List.size_toArray, List.length_reverse, Array.length_toList]
    exact fits
  obtain ⟨oS, gS, cS, _⟩ := id hs
  have isS : s.TypeIs (.ref sl) "slice" := ⟨oS, gS, cS⟩
  unfold getItem
  try with_reducible refine wpAny_holding ?_
  first | refine wpAny_bind (wpAny_pure ?_) | skip
  refine wpAny_bind (wpAny_sequenceKey ht.typeIs (by decide) (wpAny_bind (wpAny_callSpecial?_slot (name := Str.ofString "__getitem__") ht.typeIs PyProof.Rows.slot_tuple_getitem (wpAny_call_entry PyProof.Rows.slot_tuple_getitem ht.typeIs entry_tuple_getitem ?_ (args_tuple_getitem _ _)))))
  show wpAny _ _ (Builtin.Tuple.tupleItemsOf (.ref t) >>= _) _ _ s
  refine wpAny_bind (tupleItemsOf_ ht (wpAny_bind (wpAny_typeOf isS ?_)))
  rw [if_pos (by decide)]
  refine wpAny_bind (applied_rev hs ?_)
  have no : ¬ (((items.size : Int) - 1 == 0 && (-1 : Int) == 1 && items.size == items.size) = true) := by
    rw [show ((-1 : Int) == 1) = false from by decide, Bool.and_false, Bool.false_and]
    exact Bool.false_ne_true
  show wpAny _ _ (if ((items.size : Int) - 1 == 0 && (-1 : Int) == 1 && items.size == items.size) = true then _ else _) _ _ s
  rw [if_neg no, rev_pick]
  first
    | exact wpAny_bind (m := Builtin.Tuple.tupleExact _) (wpAny_newObj_type (wpAny_pure ⟨_, rfl, wpAny_pure h⟩) okS)
    | exact wpAny_bind (m := Builtin.Tuple.tupleExact _) (wpAny_newObj_type (wpAny_bind (wpAny_pure (wpAny_pure ⟨_, rfl, wpAny_pure h⟩))) okS)
    | exact wpAny_bind (wpAny_bind (m := Builtin.Tuple.tupleExact _) (wpAny_newObj_type (wpAny_pure (wpAny_pure ⟨_, rfl, wpAny_pure h⟩)) okS))
    | exact wpAny_bind (wpAny_bind (m := Builtin.Tuple.tupleExact _) (wpAny_newObj_type (wpAny_pure ⟨_, rfl, wpAny_pure h⟩) okS))
end
def tRevT (K : PySem.W.Frag) (te : TE) : TE := fun σ H Q => te σ H fun x H1 => ∃ a xs, x = .ref a ∧ SqT K H1 a xs ∧ ∀ p, H1 p = none → Q (.ref p) (upd H1 p (.tup xs.reverse))
section
variable {X : Cx}
theorem pe_revT {e : Expr} {te : TE} {k : Nat} {p1 p2 p3 pos : Pos} (he : PE X e te) : PE X (.Subscript e (.Slice none none (some (.UnaryOp .USub (.Constant (.int 1) k p1) p2)) p3) pos) (tRevT X.K te) := by
  refine ⟨fun pins s σ H Q I h => Subscript_ (thn (he.run pins s σ H _ I h) fun v s1 ⟨x, H1, I1, r1, a, xs, ex, hx, q⟩ => ?_)⟩
  subst ex
  cases r1
  have part : PO X (some (.UnaryOp .USub (.Constant (.int 1) k p1) p2)) (tPart (tUn (rU fun i => .int (-i)) (tC (.int 1)))) := po_some (pe_un un_neg pe_int)
  refine wpAny_Slice (thn (po_none.run pins s1 σ H1 (fun o H2 => o = none ∧ H2 = H1) I1 ⟨rfl, rfl⟩) fun vl s2 ⟨l, H2, I2, pl, el, e2⟩ => ?_)
  subst el e2
  refine thn (po_none.run pins s2 σ H2 (fun o H3 => o = none ∧ H3 = H2) I2 ⟨rfl, rfl⟩) fun vu s3 ⟨u, H3, I3, pu, eu, e3⟩ => ?_
  subst eu e3
  refine thn (part.run pins s3 σ H3 (fun o H4 => o = some (-1) ∧ H4 = H3) I3 ⟨1, rfl, -1, rfl, rfl, rfl⟩) fun vs s4 ⟨o, H4, I4, ps, eo, e4⟩ => ?_
  subst eo e4
  obtain rfl : vl = .none := by cases pl; rfl
  obtain rfl : vu = .none := by cases pu; rfl
  obtain ⟨tk, rfl⟩ : ∃ tk, vs = .int (-1) tk := by cases ps; exact ⟨_, rfl⟩
  have I5 : L2.Inv X pins σ H4 { s4 with heap := s4.heap.push { cls := .type "slice", data := .fields #[.none, .none, .int (-1) tk] } } := I4.kept (t' := s4.toks) fun _ _ z => Heap.get?_push_of_some _ z
  obtain ⟨its, r, ht, hz⟩ := I5.tuple hx
  show wpAny (model X.prog X.w) X.A (subscriptTail e (.Slice none none (some (.UnaryOp .USub (.Constant (.int 1) k p1) p2)) p3) (.ref a) (.ref s4.heap.objs.size)) (EP X pins σ Q) X.xe { s4 with heap := s4.heap.push { cls := .type "slice", data := .fields #[.none, .none, .int (-1) tk] } }
  refine tail_any (ops := [.ref a, .ref s4.heap.objs.size]) ht.typeIs (PyProof.Rows.slot_tuple_getitem.lookup) ?_ (by with_unfolding_all rfl)
  have hln := r.length
  refine getItem_tuple_rev ht (Heap.IsSliceOf.new _ .none .none (.int (-1) tk)) ?_ (by rw [List.size_toArray]; omega)
  refine ⟨.ref _, _, I5.laid (t' := s4.toks) (o := .tup xs.reverse) (fun _ _ z => Heap.get?_push_of_some _ z) (Nat.le_refl _) ?_, rfl, q _ (I5.hok.fresh (Nat.le_refl _))⟩
  exact ⟨by rw [List.length_reverse]; exact hz, _, r.reverse, IsTup.new _ _⟩
end
end RK


set_option Elab.async false
set_option linter.all false
set_option maxRecDepth 100000
set_option maxHeartbeats 8000000
/-! rooms, one of them spoilt -/
namespace K01
open PySem PySem.Spec PyProof.Rows L2 RK
abbrev sSpoilt : Stmt := topL 35
def spSpoilt (K : PySem.W.Frag) : Sp := fun vs H Q _ => ∃ (h l R : Addr) (rs : List (Addr × Rm)), vs = [.ref h, .ref R] ∧ HeapAt H h l ∧ H R = some (.lst (refsOf rs)) ∧ R ≠ h ∧ R ≠ l ∧ RoomsIn H rs ∧ (∀ r ∈ rs, RoomOk r.2) ∧ 1 ≤ rs.length ∧ rs.length ≤ 9 ∧
  ∀ (M : Addr) (us : List V) (H' : Hp), HeapAt H' h l → Kh h l H H' → H M = none → H' M = some (.lst us) → 1 ≤ us.length → us.length ≤ 20 → (∀ u ∈ us, IsItem K H' u) → Q (.ref M) H'
theorem heap_other {h l c : Addr} {o : HO} {H : Hp} (a : HeapAt H h l) (n : c ≠ h) (m : c ≠ l) : HeapAt (upd H c o) h l := by
  obtain ⟨ne, zs, s, e1, e2, e3⟩ := a
  exact ⟨ne, zs, s, by rw [upd_ne (Ne.symm n)]; exact e1, by rw [upd_ne (Ne.symm m)]; exact e2, e3⟩
theorem ixN_nat {n d : Nat} (h : d < n) : ixN n (d : Int) = some d := by
  unfold ixN
  rw [if_pos (by omega : (0 : Int) ≤ (d : Int))]
  simp [h]
theorem atI_prev {r : Rm} {k : Nat} (h : k < r.length) : ∃ x ∈ r, atI (r.map V.str) ((k : Int) - 1) = some (V.str x) := by
  by_cases h0 : k = 0
  · subst h0
    have hne : r ≠ [] := fun z => by rw [z] at h; exact absurd h (by decide)
    obtain ⟨ini, x, e⟩ : ∃ ini x, r = ini ++ [x] := ⟨_, _, (List.dropLast_concat_getLast hne).symm⟩
    refine ⟨x, by rw [e]; exact List.mem_append.mpr (.inr List.mem_cons_self), ?_⟩
    rw [e, List.map_append]
    exact atI_last
  · refine ⟨r[k - 1], List.getElem_mem _, ?_⟩
    refine at_of (by omega : ((k : Int) - 1) = ((k - 1 : Nat) : Int)) ?_
    rw [List.getElem?_map, List.getElem?_eq_getElem (by omega)]
    rfl
/-- the rooms that are spoilt, as they stand -/
structure Mst (K : PySem.W.Frag) (H H' : Hp) (h l M : Addr) (us : List V) (lo n : Nat) : Prop where
  heap : HeapAt H' h l
  kh : Kh h l H H'
  m : H' M = some (.lst us)
  lo : lo ≤ us.length
  hi : us.length ≤ 9 + n
  it : ∀ u ∈ us, IsItem K H' u
section
variable {K : PySem.W.Frag} {H H1 H2 : Hp} {h l M : Addr} {us : List V} {lo n : Nat}
theorem Mst.same (a : Mst K H H1 h l M us lo n) (S : L2.Same H1 H2) : Mst K H H2 h l M us lo n :=
  ⟨a.heap.same S, a.kh.trans (Kh.of S), S _ _ a.m, a.lo, a.hi, fun u hu => (a.it u hu).ls (Ls.of S)⟩
theorem Mst.draw (a : Mst K H H1 h l M us lo n) (mh : M ≠ h) (ml : M ≠ l) (hh : HeapAt H2 h l) (k : Kh h l H1 H2) : Mst K H H2 h l M us lo n :=
  ⟨hh, a.kh.trans k, k _ _ a.m mh ml, a.lo, a.hi, fun u hu => (a.it u hu).ls (Ls.kh a.heap hh k)⟩
theorem Mst.put {ys : List V} {n' : Nat} (a : Mst K H H1 h l M us lo n) (hM : H M = none) (mh : M ≠ h) (ml : M ≠ l) (h1 : lo ≤ ys.length) (h2 : ys.length ≤ 9 + n') (hy : ∀ y ∈ ys, IsItem K H1 y) : Mst K H (upd H1 M (.lst ys)) h l M ys lo n' := by
  have L : Ls H1 (upd H1 M (.lst ys)) := Ls.upd a.m
  exact ⟨heap_other a.heap mh ml, fun c o e u v => by rw [upd_ne (ne_of_none e hM)]; exact a.kh c o e u v, upd_same, h1, h2, fun u hu => (hy u hu).ls L⟩
theorem Mst.up (a : Mst K H H1 h l M us lo n) : Mst K H H1 h l M us lo (n + 1) := ⟨a.heap, a.kh, a.m, a.lo, by have := a.hi; omega, a.it⟩
theorem Mst.set {y : V} {d : Nat} (a : Mst K H H1 h l M us lo n) (hM : H M = none) (mh : M ≠ h) (ml : M ≠ l) (hy : IsItem K H1 y) : Mst K H (upd H1 M (.lst (us.set d y))) h l M (us.set d y) lo n :=
  a.put hM mh ml (by rw [List.length_set]; exact a.lo) (by rw [List.length_set]; exact a.hi) fun u hu => by
    rcases List.mem_or_eq_of_mem_set hu with hu | hu
    · exact a.it u hu
    · rw [hu]
      exact hy
theorem Mst.ins {y : V} {i : Nat} (a : Mst K H H1 h l M us lo n) (hM : H M = none) (mh : M ≠ h) (ml : M ≠ l) (hy : IsItem K H1 y) : Mst K H (upd H1 M (.lst (us.take i ++ [y] ++ us.drop i))) h l M (us.take i ++ [y] ++ us.drop i) lo (n + 1) := by
  have hl : (us.take i ++ [y] ++ us.drop i).length = us.length + 1 := by
    rw [List.length_append, List.length_append, List.length_take, List.length_drop, List.length_singleton]
    omega
  have h1 := a.lo
  have h2 := a.hi
  refine a.put hM mh ml (by rw [hl]; omega) (by rw [hl]; omega) fun u hu => ?_
  rcases List.mem_append.mp hu with hu | hu
  · rcases List.mem_append.mp hu with hu | hu
    · exact a.it u (List.mem_of_mem_take hu)
    · rw [List.mem_singleton.mp hu]
      exact hy
  · exact a.it u (List.mem_of_mem_drop hu)
end
theorem catA_all {K : PySem.W.Frag} {H : Hp} {a b : Addr} {xs ys : List V} {Q : VK} (ha : H a = some (.tup xs)) (hb : H b = some (.tup ys)) (hl : xs.length + ys.length ≤ sizeLine) (k : ∀ (p : Addr) (H' : Hp), L2.Same H H' → H' p = some (.tup (xs ++ ys)) → Q (.ref p) H') : rCatA K (.ref a) (.ref b) H Q := by
  refine ⟨a, b, xs, ys, rfl, rfl, SqT.of ha, SqT.of hb, hl, fun e => ?_, fun _ e => ?_, fun _ _ p hp => ?_⟩
  · exact k b H (L2.Same.refl H) (by rw [e]; exact hb)
  · exact k a H (L2.Same.refl H) (by rw [e, List.append_nil]; exact ha)
  · exact k p _ (RK.Same.upd hp) upd_same
theorem refs_len (rs : List (Addr × Rm)) : (refsOf rs).length = rs.length := by unfold refsOf; rw [List.length_map]
theorem refs_get {rs : List (Addr × Rm)} {i : Nat} {r : Addr × Rm} (h : rs[i]? = some r) : (refsOf rs)[i]? = some (V.ref r.1) := by
  unfold refsOf
  rw [List.getElem?_map, h]
  rfl
def SpJ (K : PySem.W.Frag) (H : Hp) (h l M R : Addr) (lo d1 kd k j : Nat) (ra qa : Addr) (wd : Str) (n : Nat) (σ : L2.St) (H' : Hp) : Prop :=
  ∃ (od : V) (vo : Option V) (us : List V), σ = [some (.ref h), some (.ref R), some (.int (d1 : Nat)), some (.int (kd : Nat)), some (.ref M), some (.ref ra), some (.ref qa), some (.int (k : Nat)), some (.int (j : Nat)), some (.str wd), some od, vo] ∧ Mst K H H' h l M us lo n ∧ IsAtom K H' od
theorem cut_strs {xs : List Str} {lo hi : Option Int} : ∃ ys : List Str, cutV (xs.map V.str) lo hi = ys.map V.str ∧ ys.length ≤ xs.length ∧ ∀ y ∈ ys, y ∈ xs := by
  refine ⟨(xs.drop (HT.sIx xs.length 0 lo)).take (HT.sIx xs.length xs.length hi - HT.sIx xs.length 0 lo), ?_, ?_, fun y hy => List.mem_of_mem_drop (List.mem_of_mem_take hy)⟩
  · unfold cutV
    rw [List.map_take, List.map_drop, List.length_map]
  · rw [List.length_take, List.length_drop]
    omega
theorem sum_le {xs : List Str} (h : ∀ x ∈ xs, x.length ≤ 5) : (xs.map fun x => x.length).sum ≤ 5 * xs.length := by
  induction xs with
  | nil => exact Nat.le_refl _
  | cons x xs ih =>
    rw [List.map_cons, List.sum_cons, List.length_cons]
    have := h x List.mem_cons_self
    have := ih fun y hy => h y (List.mem_cons_of_mem _ hy)
    omega
theorem ite_any {c : Prop} [Decidable c] {p q : Prop} (a : c → p) (b : ¬ c → q) : if c then p else q := by
  by_cases h : c
  · rw [if_pos h]; exact a h
  · rw [if_neg h]; exact b h
section
variable {K : PySem.W.Frag} {H H' : Hp} {h l M R ra qa : Addr} {lo d1 kd k j n : Nat} {wd : Str}
theorem go_on {rest : TS} {D : Ends} {σ : L2.St} {H : Hp} (J : L2.St → Hp → Prop) (hJ : J σ H) (h : ∀ σ H, J σ H → rest D σ H) : rest D σ H := h _ _ hJ
theorem SpJ.at_ {od y : V} {vo : Option V} {us : List V} {C : L2.St → Hp → Prop} (hM : H M = none) (mh : M ≠ h) (ml : M ≠ l) (hd : d1 < lo) (m : Mst K H H' h l M us lo n) (oa : IsAtom K H' od) (hy : IsItem K H' y) (fin : ∀ σ' H', SpJ K H h l M R lo d1 kd k j ra qa wd n σ' H' → C σ' H') :
    gSub (tVar 4) (tVar 2) rSetL y [some (.ref h), some (.ref R), some (.int (d1 : Nat)), some (.int (kd : Nat)), some (.ref M), some (.ref ra), some (.ref qa), some (.int (k : Nat)), some (.int (j : Nat)), some (.str wd), some od, vo] H' C := by
  have := m.lo
  exact ⟨_, rfl, _, rfl, M, us, d1, d1, rfl, rfl, m.m, ixN_nat (by omega), fin _ _ ⟨od, vo, _, rfl, m.set hM mh ml hy, oa.ls (Ls.upd m.m)⟩⟩
theorem pick_any {p : Addr} {xs : List V} {Q : VK} {E : XK} (m : HeapAt H h l) (e : H p = some (.lst xs)) (n1 : 0 < xs.length) (n2 : xs.length ≤ 1000) (ph : p ≠ h) (pl : p ≠ l) (c : ∀ v H', v ∈ xs → HeapAt H' h l → Kh h l H H' → Q v H') : spPick K [V.ref h, .ref p] H Q E :=
  ⟨h, l, p, xs, rfl, m, .inl ⟨SqL.of e, ph, pl⟩, n1, n2, fun v H' hv hh hk => c v H' hv hh hk⟩
theorem new_ne {p : Addr} (m : HeapAt H h l) (hp : H p = none) : p ≠ h ∧ p ≠ l := by
  obtain ⟨_, za, sa, g1, g2, _⟩ := m
  exact ⟨fun z => (by rw [z, g1] at hp; cases hp), fun z => (by rw [z, g2] at hp; cases hp)⟩
theorem three {σ : L2.St} {a : Addr} {xs ys : List V} {k m : Int} {tm : TE} {ty : TA} {Q : VK} (e5 : σ[5]? = some (some (.ref a))) (e7 : σ[7]? = some (some (.int k))) (ha : H a = some (.tup xs)) (h5 : xs.length ≤ 5) (hx : ∀ x ∈ xs, IsAtom K H x) (h2 : ys.length ≤ 2) (hys : ∀ y ∈ ys, IsAtom K H y)
    (hY : ∀ H1 (Q : List V → Hp → Prop), L2.Same H H1 → Q ys H1 → ty σ H1 Q) (hm : ∀ H1 (Q : VK), L2.Same H H1 → Q (.int m) H1 → tm σ H1 Q) (c : ∀ p H', L2.Same H H' → IsItem K H' (.ref p) → Q (.ref p) H') :
    tOp (rCatA K) (tOp (rCatA K) (tSl (rSlA K) (tVar 5) tNoPart (tPart (tVar 7))) (tTup ty)) (tSl (rSlA K) (tVar 5) (tPart tm) tNoPart) σ H Q := by
  have l1 := cutV_length xs none (some k)
  have l3 : ∀ n, n ≤ 12 → n ≤ sizeLine := fun n hn => small64 (by omega)
  have l2 := cutV_length xs (some m) none
  refine ⟨_, e5, _, e7, _, rfl, slA_all ha fun p1 H1 S1 f1 => hY H1 _ S1 ⟨small64 (by omega), fun p2 hp2 => ?_⟩⟩
  have S2 := RK.Same.upd (o := .tup ys) hp2
  refine catA_all (S2 _ _ f1) upd_same (small64 (by omega)) fun p3 H3 S3 f3 => ?_
  have S13 := (S1.trans S2).trans S3
  refine ⟨_, e5, hm _ _ S13 ⟨_, rfl, ?_⟩⟩
  dsimp only [tNoPart]
  refine slA_all (S13 _ _ ha) fun p4 H4 S4 f4 => catA_all (S4 _ _ f3) f4 (small64 (by rw [List.length_append]; omega)) fun p5 H5 S5 f5 => ?_
  have S := (S13.trans S4).trans S5
  refine c p5 H5 S (item_tup f5 (by rw [List.length_append, List.length_append]; omega) fun x hx' => IsAtom.ls (Ls.of S) ?_)
  rcases List.mem_append.mp hx' with hx' | hx'
  · rcases List.mem_append.mp hx' with hx' | hx'
    · exact hx x (mem_cutV hx')
    · exact hys x hx'
  · exact hx x (mem_cutV hx')
end
structure TLs (mg : Str → Option Value) : Prop where
  len : mg "len" = none
  list : mg "list" = none
  tuple : mg "tuple" = none
  sorted : mg "sorted" = none
section
variable {P : Program} {w : World} {K : PySem.W.Frag} {mg : Str → Option Value} {base : Heap} {CB : Addr}
abbrev nSpoilt : List Str := ["heap", "rooms", "at", "kind", "made", "room", "mate", "k", "j", "word", "odd", "other"]
theorem scSpoilt : FnScope nSpoilt ["heap", "rooms"] (defScope sSpoilt) := ⟨rfl, rfl, rfl, by decide +kernel, rfl, by decide +kernel, by decide +kernel⟩
theorem ok_spoilt {f : Addr} {fd : FuncData} (F : Fun K "_law_spoilt" "_law_spoilt" sSpoilt f fd) (T : TLs mg) (c__law_draw : Cl P w K mg base CX0 1 "_law_draw" ["heap", "many"] spDraw) (c__law_pick : Cl P w K mg base CX0 2 "_law_pick" ["heap", "some"] (spPick K)) :
    FnOk P w K mg base CX0 3 f fd ["heap", "rooms"] (spSpoilt K) := by
  refine F.ok scSpoilt (fun vs H Q E h => ?_) (fun cdv A outer s H vs Q E hr h => ?_)
  · obtain ⟨h, l, R, rs, rfl, _⟩ := h
    rfl
  · obtain ⟨h, l, R, rs, rfl, hH, hR, rh, rl, hI, hok, n1, n9, kk⟩ := h
    refine ⟨_, (pss_cons (ps_par3 (i := 2) (j := 3) (l := 4) (by rfl) scSpoilt.nd rfl rfl rfl (by decide) (by decide) (by decide) rfl rfl rfl (pa_cons (pe_f c__law_draw hr (by decide) pass0 (pa_cons (pv 0) (pa_cons (pe_callB (r := rLenS K) call_lenS (by rfl) T.len PySem.boot_len (pa_cons (pv 1) pa_nil)) pa_nil))) (pa_cons (pe_f c__law_draw hr (by decide) pass0 (pa_cons (pv 0) (pa_cons pe_int pa_nil))) (pa_cons (pe_callTy call_list_of (by rfl) T.list (by decide +kernel) (pa_cons (pv 1) pa_nil)) pa_nil))) (by rfl))
        (pss_cons (ps_par (i := 5) (j := 6) (by rfl) scSpoilt.nd rfl rfl (by decide) rfl rfl (pa_cons (pe_ix (r := rIxL K) ix_list (pv 1) (pv 2) (fun _ _ => rfl)) (pa_cons (pe_f c__law_pick hr (by decide) pass0 (pa_cons (pv 0) (pa_cons (pv 1) pa_nil))) pa_nil)) (by rfl))
        (pss_cons (ps_par (i := 7) (j := 8) (by rfl) scSpoilt.nd rfl rfl (by decide) rfl rfl (pa_cons (pe_f c__law_draw hr (by decide) pass0 (pa_cons (pv 0) (pa_cons (pe_callB (r := rLenS K) call_lenS (by rfl) T.len PySem.boot_len (pa_cons (pv 5) pa_nil)) pa_nil))) (pa_cons (pe_f c__law_draw hr (by decide) pass0 (pa_cons (pv 0) (pa_cons (pe_callB (r := rLenS K) call_lenS (by rfl) T.len PySem.boot_len (pa_cons (pv 6) pa_nil)) pa_nil))) pa_nil)) (by rfl))
        (pss_cons (ps_set (i := 9) scSpoilt.nd rfl (Or.inl rfl) (pe_ix (r := rIxT K) ix_tup (pv 5) (pv 7) (fun _ _ => rfl)))
        (pss_cons (ps_set (i := 10) scSpoilt.nd rfl (Or.inl rfl) (pe_f c__law_pick hr (by decide) pass0 (pa_cons (pv 0) (pa_cons (pe_lst (pa_cons pe_str (pa_cons pe_str (pa_cons pe_str (pa_cons pe_str (pa_cons pe_str (pa_cons pe_str (pa_cons pe_non (pa_cons pe_int (pa_cons pe_bl (pa_cons (pe_tup (pa_cons pe_str pa_nil)) (pa_cons (pe_lst (pa_cons (pv 9) pa_nil)) (pa_cons (pe_ix (r := rIxT K) ix_tup (pv 5) (pe_op op_sub (pv 7) pe_int) (fun _ _ => rfl)) pa_nil))))))))))))) pa_nil))))
        (pss_cons (ps_if (pt_cmpR op_in_seq (pv 3) (pe_tup (pa_cons pe_int (pa_cons pe_int pa_nil))) (by rfl)) (pss_one (ps_set (i := 10) scSpoilt.nd rfl (Or.inl rfl) (pe_f c__law_pick hr (by decide) pass0 (pa_cons (pv 0) (pa_cons (pe_lst (pa_cons (pe_op op_add_str (pv 9) pe_str) (pa_cons (pe_op op_add_str (pv 9) pe_str) (pa_cons (pe_op op_add_str (pv 9) pe_str) (pa_cons (pe_op op_add_str (pv 9) pe_str) (pa_cons (pe_slice sl_str (pe_op op_add_str (pv 9) pe_str) po_none (po_some pe_int)) (pa_cons (pe_op op_add_str (pe_slice sl_str (pv 9) po_none (po_some pe_int)) pe_str) pa_nil))))))) pa_nil))))) pss_nil)
        (pss_cons (ps_if (pt_cmpR op_eq (pv 3) pe_int (nomark _)) (pss_one (ps_asg (pe_f c__law_pick hr (by decide) pass0 (pa_cons (pv 0) (pa_cons (pe_lst (pa_cons (pe_callTy call_list_of (by rfl) T.list (by decide +kernel) (pa_cons (pv 5) pa_nil)) (pa_cons pe_non (pa_cons pe_int (pa_cons (pe_ix (r := rIxT K) ix_tup (pv 5) pe_int (fun _ _ => rfl)) (pa_cons (pe_join pe_str (pv 5)) (pa_cons (pe_tup pa_nil) pa_nil))))))) pa_nil))) (pg_sub (pv 4) (pv 2) set_list))) pss_nil)
        (pss_cons (ps_if (pt_cmpR op_eq (pv 3) pe_int (nomark _)) (pss_one (ps_asg (pe_slice sl_tupA (pv 5) po_none (po_some pe_int)) (pg_sub (pv 4) (pv 2) set_list))) pss_nil)
        (pss_cons (ps_if (pt_cmpR op_eq (pv 3) pe_int (nomark _)) (pss_one (ps_asg (pe_callTy call_tuple_of (by rfl) T.tuple boot_tuple (pa_cons (pe_callB cr_sortedS (by rfl) T.sorted (by decide +kernel) (pa_cons (pe_op op_cat (pe_callTy call_list_of (by rfl) T.list (by decide +kernel) (pa_cons (pe_slice sl_tupA (pv 5) po_none (po_some pe_int)) pa_nil)) (pe_lst (pa_cons pe_str (pa_cons pe_str (pa_cons pe_str pa_nil))))) pa_nil)) pa_nil)) (pg_sub (pv 4) (pv 2) set_list))) pss_nil)
        (pss_cons (ps_if (pt_cmpR op_eq (pv 3) pe_int (nomark _)) (pss_one (ps_asg (pe_revT (pv 5)) (pg_sub (pv 4) (pv 2) set_list))) pss_nil)
        (pss_cons (ps_if (pt_cmpR op_eq (pv 3) pe_int (nomark _)) (pss_cons (ps_asg (pe_op op_catA (pe_op op_catA (pe_slice sl_tupA (pv 5) po_none (po_some (pv 7))) (pe_tup (pa_cons (pv 9) pa_nil))) (pe_slice sl_tupA (pv 5) (po_some (pv 7)) po_none)) (pg_sub (pv 4) (pv 2) set_list))
        (pss_one (ps_if (PW.pt (pw_and (pt_cmpR op_eq (pe_f c__law_draw hr (by decide) pass0 (pa_cons (pv 0) (pa_cons pe_int pa_nil))) pe_int (nomark _)) (pw_and1 (pt_cmpR op_gt (pv 7) pe_int (nomark _))))) (pss_one (ps_asg (pe_op op_catA (pe_op op_catA (pe_slice sl_tupA (pv 5) po_none (po_some (pv 7))) (pe_tup (pa_cons (pe_ix (r := rIxT K) ix_tup (pv 5) (pe_op op_sub (pv 7) pe_int) (fun _ _ => rfl)) pa_nil))) (pe_slice sl_tupA (pv 5) (po_some (pe_op op_add (pv 7) pe_int)) po_none)) (pg_sub (pv 4) (pv 2) set_list))) pss_nil))) pss_nil)
        (pss_cons (ps_if (pt_cmpR op_in_seq (pv 3) (pe_tup (pa_cons pe_int (pa_cons pe_int (pa_cons pe_int pa_nil)))) (by rfl)) (pss_one (ps_asg (pe_op op_catA (pe_op op_catA (pe_slice sl_tupA (pv 5) po_none (po_some (pv 7))) (pe_tup (pa_cons (pv 10) pa_nil))) (pe_slice sl_tupA (pv 5) (po_some (pe_op op_add (pv 7) pe_int)) po_none)) (pg_sub (pv 4) (pv 2) set_list))) pss_nil)
        (pss_cons (ps_if (pt_cmpR op_eq (pv 3) pe_int (nomark _)) (pss_one (ps_asg (pe_ifExp (pt_cmpR op_lt (pv 7) (pe_op op_sub (pe_callB (r := rLenS K) call_lenS (by rfl) T.len PySem.boot_len (pa_cons (pv 5) pa_nil)) pe_int) (nomark _)) (pe_op op_catA (pe_op op_catA (pe_slice sl_tupA (pv 5) po_none (po_some (pv 7))) (pe_tup (pa_cons (pe_ix (r := rIxT K) ix_tup (pv 5) (pe_op op_add (pv 7) pe_int) (fun _ _ => rfl)) (pa_cons (pe_ix (r := rIxT K) ix_tup (pv 5) (pv 7) (fun _ _ => rfl)) pa_nil)))) (pe_slice sl_tupA (pv 5) (po_some (pe_op op_add (pv 7) pe_int)) po_none)) (pe_op op_catA (pe_slice sl_tupA (pv 5) (po_some pe_int) po_none) (pe_slice sl_tupA (pv 5) po_none (po_some pe_int)))) (pg_sub (pv 4) (pv 2) set_list))) pss_nil)
        (pss_cons (ps_if (pt_cmpR op_eq (pv 3) pe_int (nomark _)) (pss_one (ps_expr (pe_bm PySem.F.plainAttrs_list PySem.F.slot_list_insert PySem.F.type_list_insert mt_insert (pv 4) (pa_cons (pe_f c__law_draw hr (by decide) pass0 (pa_cons (pv 0) (pa_cons (pe_op op_add (pe_callB (r := rLenS K) call_lenS (by rfl) T.len PySem.boot_len (pa_cons (pv 4) pa_nil)) pe_int) pa_nil))) (pa_cons (pv 6) pa_nil))))) pss_nil)
        (pss_cons (ps_if (pt_cmpR op_in_seq (pv 3) (pe_tup (pa_cons pe_int (pa_cons pe_int pa_nil))) (by rfl)) (pss_cons (ps_set (i := 11) scSpoilt.nd rfl (Or.inl rfl) (pe_callTy call_tuple_of (by rfl) T.tuple boot_tuple (pa_cons (pe_callB cr_sortedS (by rfl) T.sorted (by decide +kernel) (pa_cons (pe_lst (pa_cons (pe_ix (r := rIxT K) ix_tup (pv 6) (pe_op op_sub (pv 8) pe_int) (fun _ _ => rfl)) (pa_cons (pe_ix (r := rIxT K) ix_tup (pv 6) (pv 8) (fun _ _ => rfl)) (pa_cons (pe_f c__law_pick hr (by decide) pass0 (pa_cons (pv 0) (pa_cons (pe_lst (pa_cons pe_str (pa_cons (pe_ix (r := rIxT K) ix_tup (pv 5) pe_int (fun _ _ => rfl)) pa_nil))) pa_nil))) pa_nil)))) pa_nil)) pa_nil)))
        (pss_one (ps_expr (pe_bm PySem.F.plainAttrs_list PySem.F.slot_list_insert PySem.F.type_list_insert mt_insert (pv 4) (pa_cons (pe_f c__law_draw hr (by decide) pass0 (pa_cons (pv 0) (pa_cons (pe_op op_add (pe_callB (r := rLenS K) call_lenS (by rfl) T.len PySem.boot_len (pa_cons (pv 4) pa_nil)) pe_int) pa_nil))) (pa_cons (pv 11) pa_nil)))))) pss_nil)
        (pss_one (ps_ret (pv 4)))))))))))))))))), ?_⟩
    have hrl := refs_len rs
    obtain ⟨-, zs0, s0, f1, f2, _⟩ := id hH
    have room5 : ∀ {r : Addr × Rm}, r ∈ rs → r.2.length ≤ 5 ∧ 3 ≤ r.2.length ∧ ∀ x ∈ r.2, x.length ≤ 5 := fun {r} hr => ⟨(hok r hr).2.1, (hok r hr).1, fun x hx => ((hok r hr).2.2.1 x hx).2.1⟩
    have tupK : ∀ {H'}, HeapAt H' h l → Kh h l H H' → ∀ {r : Addr × Rm}, r ∈ rs → H' r.1 = some (.tup (r.2.map V.str)) := fun {H'} hh k {r} hr => (Ls.kh hH hh k).tup (hI r hr)
    refine ⟨_, rfl, _, rfl, R, _, rfl, .inl (SqL.of hR), h, l, _, rfl, hH, by rw [hrl]; omega, by rw [hrl]; omega, fun d1 H1 hd1 hH1 k1 => ⟨_, rfl, h, l, 12, rfl, hH1, by decide, by decide, fun kd H2 hkd hH2 k2 => ?_⟩⟩
    rw [hrl] at hd1
    have hd1 : d1 < rs.length := by omega
    have k12 := k1.trans k2
    have R2 := k12 _ _ hR rh rl
    refine ⟨_, rfl, R, _, rfl, .inl (SqL.of R2), fun M hM2 => ⟨_, _, _, rfl, ?_⟩⟩
    have hM : H M = none := by
      cases e : H M with
      | none => rfl
      | some o =>
        by_cases eh : M = h
        · obtain ⟨-, za, sa, g1, _⟩ := id hH2
          rw [eh, g1] at hM2
          cases hM2
        · by_cases el : M = l
          · obtain ⟨-, za, sa, _, g2, _⟩ := id hH2
            rw [el, g2] at hM2
            cases hM2
          · rw [k12 _ _ e eh el] at hM2
            cases hM2
    have mh : M ≠ h := fun z => by rw [z, f1] at hM; cases hM
    have ml : M ≠ l := fun z => by rw [z, f2] at hM; cases hM
    have S3 := RK.Same.upd (o := .lst (refsOf rs)) hM2
    have m3 : Mst K H (upd H2 M (.lst (refsOf rs))) h l M (refsOf rs) rs.length 0 := by
      refine ⟨hH2.same S3, k12.trans (Kh.of S3), upd_same, by rw [hrl]; exact Nat.le_refl _, by rw [hrl]; omega, fun u hu => ?_⟩
      obtain ⟨r, hr', rfl⟩ := List.mem_map.mp hu
      exact item_strs (S3 _ _ (tupK hH2 k12 hr')) (by have := (room5 hr').1; omega) fun x hx => by have := (room5 hr').2.2 x hx; omega
    have R3 := S3 _ _ R2
    generalize upd H2 M (.lst (refsOf rs)) = H3 at m3 R3 ⊢
    clear S3 hM2
    have hg : rs[d1]? = some rs[d1] := List.getElem?_eq_getElem hd1
    have hrm : rs[d1] ∈ rs := List.getElem_mem hd1
    generalize rs[d1] = r at hg hrm
    refine ⟨_, rfl, _, rfl, R, _, _, _, rfl, rfl, SqL.of R3, atI_nat (refs_get hg), _, rfl, _, rfl, h, l, R, refsOf rs, rfl, m3.heap, .inl ⟨SqL.of R3, rh, rl⟩, by rw [hrl]; omega, by rw [hrl]; omega, fun v H4 hv hH4 k4 => ⟨_, _, rfl, ?_⟩⟩
    obtain ⟨q, hqm, rfl⟩ := List.mem_map.mp hv
    have m4 := m3.draw mh ml hH4 k4
    have rt4 := tupK m4.heap m4.kh hrm
    have qt4 := tupK m4.heap m4.kh hqm
    obtain ⟨r5, r3, rx⟩ := room5 hrm
    obtain ⟨q5, q3, qx⟩ := room5 hqm
    refine ⟨_, rfl, _, rfl, r.1, _, rfl, .inr (SqT.of rt4), h, l, _, rfl, m4.heap, by rw [List.length_map]; omega, by rw [List.length_map]; omega, fun k H5 hk hH5 k5 => ?_⟩
    have m5 := m4.draw mh ml hH5 k5
    rw [List.length_map] at hk
    refine ⟨_, rfl, _, rfl, q.1, _, rfl, .inr (SqT.of (tupK m5.heap m5.kh hqm)), h, l, _, rfl, m5.heap, by rw [List.length_map]; omega, by rw [List.length_map]; omega, fun j H6 hj hH6 k6 => ⟨_, _, rfl, ?_⟩⟩
    have m6 := m5.draw mh ml hH6 k6
    rw [List.length_map] at hj
    have hk : k < r.2.length := by omega
    have hj : j < q.2.length := by omega
    have hgk : (r.2.map V.str)[k]? = some (V.str r.2[k]) := by rw [List.getElem?_map, List.getElem?_eq_getElem hk]; rfl
    have hwm : r.2[k] ∈ r.2 := List.getElem_mem hk
    generalize r.2[k] = wd at hgk hwm
    have wl := rx wd hwm
    refine ⟨_, rfl, _, rfl, r.1, _, _, _, rfl, rfl, SqT.of (tupK m6.heap m6.kh hrm), atI_nat hgk, ?_⟩
    -- an odd one
    refine ⟨_, rfl, (by show 1 ≤ sizeLine; decide), fun p1 hp1 => ?_⟩
    have S7 := RK.Same.upd (o := .tup [V.str "a"]) hp1
    have e7 : (upd H6 p1 (.tup [V.str "a"])) p1 = some (.tup [V.str "a"]) := upd_same
    generalize upd H6 p1 (.tup [V.str "a"]) = H7 at S7 e7 ⊢
    refine ⟨_, rfl, (by show 1 ≤ sizeLine; decide), fun p2 hp2 => ?_⟩
    have S8 := RK.Same.upd (o := .lst [V.str wd]) hp2
    have e8 : (upd H7 p2 (.lst [V.str wd])) p2 = some (.lst [V.str wd]) := upd_same
    generalize upd H7 p2 (.lst [V.str wd]) = H8 at S8 e8 ⊢
    have m8 := m6.same (S7.trans S8)
    obtain ⟨xp, hxp, exp⟩ := atI_prev hk
    refine ⟨_, rfl, _, rfl, _, _, rfl, rfl, r.1, _, _, _, rfl, rfl, SqT.of (tupK m8.heap m8.kh hrm), exp, (by show 12 ≤ sizeLine; decide), fun p3 hp3 => ?_⟩
    have S9 := RK.Same.upd (o := .lst [V.str "", .str "abcdef", .str "A", .str "aB", .str "a b", .str "a\n", .non, .int 5, .bl true, .ref p1, .ref p2, .str xp]) hp3
    have e9 : (upd H8 p3 (.lst [V.str "", .str "abcdef", .str "A", .str "aB", .str "a b", .str "a\n", .non, .int 5, .bl true, .ref p1, .ref p2, .str xp])) p3 = some (.lst [V.str "", .str "abcdef", .str "A", .str "aB", .str "a b", .str "a\n", .non, .int 5, .bl true, .ref p1, .ref p2, .str xp]) := upd_same
    have ph : p3 ≠ h := fun z => by
      obtain ⟨-, za, sa, g1, _⟩ := id m8.heap
      rw [z, g1] at hp3
      cases hp3
    have pl : p3 ≠ l := fun z => by
      obtain ⟨-, za, sa, _, g2, _⟩ := id m8.heap
      rw [z, g2] at hp3
      cases hp3
    generalize upd H8 p3 (.lst [V.str "", .str "abcdef", .str "A", .str "aB", .str "a b", .str "a\n", .non, .int 5, .bl true, .ref p1, .ref p2, .str xp]) = H9 at S9 e9 ⊢
    have m9 := m8.same S9
    refine ⟨h, l, p3, _, rfl, m9.heap, .inl ⟨SqL.of e9, ph, pl⟩, (by show 0 < 12; decide), (by show 12 ≤ 1000; decide), fun od H10 hod hH10 k10 => ?_⟩
    have m10 := m9.draw mh ml hH10 k10
    have oa : IsAtom K H10 od := by
      refine IsAtom.ls (Ls.kh m9.heap m10.heap k10) ?_
      simp only [List.mem_cons, List.not_mem_nil, or_false] at hod
      rcases hod with rfl | rfl | rfl | rfl | rfl | rfl | rfl | rfl | rfl | rfl | rfl | rfl
      · exact atom_str (by decide +kernel)
      · exact atom_str (by decide +kernel)
      · exact atom_str (by decide +kernel)
      · exact atom_str (by decide +kernel)
      · exact atom_str (by decide +kernel)
      · exact atom_str (by decide +kernel)
      · exact atom_non
      · exact atom_int 5
      · exact atom_bl true
      · exact atom_tup ((S8.trans S9) _ _ e7)
      · exact atom_lst (S9 _ _ e8)
      · exact atom_str (by have := rx xp hxp; omega)
    clear e7 e8 e9 S7 S8 S9 hod exp hp1 hp2 hp3
    obtain ⟨x0, hx0, e0⟩ : ∃ x ∈ r.2, atI (r.2.map V.str) 0 = some (V.str x) := ⟨r.2[0]'(by omega), List.getElem_mem _, at_of (by rfl : (0 : Int) = ((0 : Nat) : Int)) (by rw [List.getElem?_map, List.getElem?_eq_getElem (by omega)]; rfl)⟩
    obtain ⟨xj, hxj, ej⟩ := atI_prev hj
    have egj : atI (q.2.map V.str) (j : Int) = some (V.str q.2[j]) := atI_nat (by rw [List.getElem?_map, List.getElem?_eq_getElem hj]; rfl)
    have hmj : q.2[j] ∈ q.2 := List.getElem_mem hj
    generalize q.2[j] = wj at egj hmj
    have hra : ∀ {H'}, ∀ x ∈ r.2.map V.str, IsAtom K H' x := fun {H'} x hx => by
      obtain ⟨z, hz, rfl⟩ := List.mem_map.mp hx
      exact atom_str (by have := rx z hz; omega)
    have hla : (r.2.map V.str).length ≤ 5 := by rw [List.length_map]; exact r5
    dsimp only [gName]
    refine go_on (SpJ K H h l M R rs.length d1 kd k j r.1 q.1 wd 0) ⟨od, none, _, rfl, m10, oa⟩ ?_
    clear m10 oa m9
    rintro σ' H13 ⟨od, vo, us, rfl, m, oa⟩
    have lw : ∀ (z : String), (Str.ofString z).length ≤ 10 → wd.length + (Str.ofString z).length ≤ sizeLine := fun z hz => small64 (by omega)
    clear k1 k2 k12 R2 R3 m3 hv m4 rt4 qt4 hH4 k4 hH5 k5 hH6 k6 m5 m6 m8 hH10 k10 hH1 hH2 f1 f2 hxp xp
    refine seq_fin (SpJ K H h l M R rs.length d1 kd k j r.1 q.1 wd 0) ?_ (fun fin => ?_)
    · clear oa m
      rintro σ' H13 ⟨od, vo, us, rfl, m, oa⟩
      refine seq_fin (SpJ K H h l M R rs.length d1 kd k j r.1 q.1 wd 0) ?_ (fun fin => ?_)
      · clear oa m
        rintro σ' H13 ⟨od, vo, us, rfl, m, oa⟩
        refine seq_fin (SpJ K H h l M R rs.length d1 kd k j r.1 q.1 wd 0) ?_ (fun fin => ?_)
        · clear oa m
          rintro σ' H13 ⟨od, vo, us, rfl, m, oa⟩
          refine seq_fin (SpJ K H h l M R rs.length d1 kd k j r.1 q.1 wd 0) ?_ (fun fin => ?_)
          · clear oa m
            rintro σ' H13 ⟨od, vo, us, rfl, m, oa⟩
            refine seq_fin (SpJ K H h l M R rs.length d1 kd k j r.1 q.1 wd 0) ?_ (fun fin => ?_)
            · clear oa m
              rintro σ' H13 ⟨od, vo, us, rfl, m, oa⟩
              refine seq_fin (SpJ K H h l M R rs.length d1 kd k j r.1 q.1 wd 0) ?_ (fun fin => ?_)
              · clear oa m
                rintro σ' H13 ⟨od, vo, us, rfl, m, oa⟩
                refine seq_fin (SpJ K H h l M R rs.length d1 kd k j r.1 q.1 wd 0) ?_ (fun fin => ?_)
                · clear oa m
                  rintro σ' H13 ⟨od, vo, us, rfl, m, oa⟩
                  refine seq_fin (SpJ K H h l M R rs.length d1 kd k j r.1 q.1 wd 0) ?_ (fun fin => ?_)
                  · clear oa m
                    rintro σ' H13 ⟨od, vo, us, rfl, m, oa⟩
                    refine seq_fin (SpJ K H h l M R rs.length d1 kd k j r.1 q.1 wd 1) ?_ (fun fin => ?_)
                    · clear oa m
                      rintro σ' H13 ⟨od, vo, us, rfl, m, oa⟩
                      refine seq_fin (SpJ K H h l M R rs.length d1 kd k j r.1 q.1 wd 2) ?_ (fun fin => ?_)
                      · clear oa m
                        rintro σ' H13 ⟨od, vo, us, rfl, m, oa⟩
                        have := m.lo
                        have := m.hi
                        exact ⟨_, rfl, kk M us H13 m.heap m.kh hM m.m (by omega) (by omega) m.it⟩
                      · -- kind 1011
                        refine ⟨_, rfl, (by show 2 ≤ sizeLine; decide), fun pt hpt => ?_⟩
                        have St := RK.Same.upd (o := .tup [V.int 10, .int 11]) hpt
                        refine ⟨pt, _, rfl, .inr (SqT.of upd_same), rfl, rfl, _, rfl, ite_any (fun _ => ?_) (fun _ => fin _ _ ⟨od, vo, us, rfl, (m.same St |>.up), oa.ls (Ls.of St)⟩)⟩
                        have m' := m.same St
                        have oa' := oa.ls (Ls.of St)
                        clear m oa
                        have m := m'
                        have oa := oa'
                        have qt := tupK m.heap m.kh hqm
                        have rt := tupK m.heap m.kh hrm
                        clear m'
                        generalize upd H13 pt (.tup [V.int 10, .int 11]) = H14 at m oa qt rt ⊢
                        refine ⟨_, rfl, _, rfl, _, _, rfl, rfl, q.1, _, _, _, rfl, rfl, SqT.of qt, ej, _, rfl, _, rfl, q.1, _, _, _, rfl, rfl, SqT.of qt, egj, _, rfl, _, rfl, r.1, _, _, _, rfl, rfl, SqT.of rt, e0, (by show 2 ≤ sizeLine; decide), fun p hp => ?_⟩
                        obtain ⟨ph, pl⟩ := new_ne m.heap hp
                        have Sp := RK.Same.upd (o := .lst [V.str "zzzzd", .str x0]) hp
                        refine pick_any (E := E0) (m.same Sp).heap upd_same (by show 0 < 2; decide) (by show 2 ≤ 1000; decide) ph pl fun v H15 hv hH15 k15 => ?_
                        have m1 := (m.same Sp).draw mh ml hH15 k15
                        have oa1 := (oa.ls (Ls.of Sp)).ls (Ls.kh (m.same Sp).heap hH15 k15)
                        obtain ⟨z, rfl, hz⟩ : ∃ z : Str, v = .str z ∧ z.length ≤ 5 := by
                          simp only [List.mem_cons, List.not_mem_nil, or_false] at hv
                          rcases hv with rfl | rfl
                          · exact ⟨_, rfl, (by decide +kernel)⟩
                          · exact ⟨_, rfl, rx _ hx0⟩
                        refine ⟨(by show 3 ≤ sizeLine; decide), fun p4 hp4 => ⟨p4, [xj, wj, z], rfl, SqL.of upd_same, (by show 3 < 64; decide), fun zs p5 hzs _ hp5 => ⟨p5, _, rfl, .inl ⟨SqL.of upd_same, fun p6 hp6 => ?_⟩⟩⟩⟩
                        have S4 := RK.Same.upd (o := .lst [V.str xj, .str wj, .str z]) hp4
                        have S5 := RK.Same.upd (o := .lst (zs.map V.str)) hp5
                        have S6 := RK.Same.upd (o := .tup (zs.map V.str)) hp6
                        have f6 : (upd (upd (upd H15 p4 (.lst [V.str xj, .str wj, .str z])) p5 (.lst (zs.map V.str))) p6 (.tup (zs.map V.str))) p6 = _ := upd_same
                        have S := (S4.trans S5).trans S6
                        have m2 := m1.same S
                        have oa2 := oa1.ls (Ls.of S)
                        generalize upd (upd (upd H15 p4 (.lst [V.str xj, .str wj, .str z])) p5 (.lst (zs.map V.str))) p6 (.tup (zs.map V.str)) = H16 at f6 m2 oa2
                        refine ⟨_, rfl, .inl ⟨rfl, _, SqL.of m2.m⟩, _, rfl, _, rfl, M, _, rfl, .inl (SqL.of m2.m), _, _, rfl, rfl, h, l, ((us.length : Int) + 1), rfl, m2.heap, by omega, by have := m2.hi; omega, fun i H17 hi hH17 k17 => ?_⟩
                        have m' := m2.draw mh ml hH17 k17
                        have hu := m.hi
                        refine ⟨_, rfl, M, us, _, _, rfl, rfl, m'.m, small64 (by omega), by omega, by omega, ?_⟩
                        have L := Ls.kh m2.heap hH17 k17
                        refine fin _ _ ⟨od, _, _, rfl, m'.ins hM mh ml (item_strs (L.tup f6) (by have := hzs.length_eq; have : [xj, wj, z].length = 3 := rfl; omega) fun x hx => ?_), (oa2.ls L).ls (Ls.upd m'.m)⟩
                        have hx := hzs.mem_iff.mp hx
                        simp only [List.mem_cons, List.not_mem_nil, or_false] at hx
                        rcases hx with rfl | rfl | rfl
                        · have := qx _ hxj
                          omega
                        · have := qx _ hmj
                          omega
                        · omega
                    · -- kind 9
                      refine ⟨_, rfl, rfl, _, rfl, ite_any (fun _ => ?_) (fun _ => fin _ _ ⟨od, vo, us, rfl, m.up, oa⟩)⟩
                      refine ⟨_, rfl, .inl ⟨rfl, _, SqL.of m.m⟩, _, rfl, _, rfl, M, _, rfl, .inl (SqL.of m.m), _, _, rfl, rfl, h, l, ((us.length : Int) + 1), rfl, m.heap, by omega, by have := m.hi; omega, fun i H14 hi hH14 k14 => ?_⟩
                      have m' := m.draw mh ml hH14 k14
                      have hu := m.hi
                      refine ⟨_, rfl, M, us, _, _, rfl, rfl, m'.m, small64 (by omega), by omega, by omega, ?_⟩
                      refine fin _ _ ⟨od, vo, _, rfl, m'.ins hM mh ml (item_strs (tupK m'.heap m'.kh hqm) (by omega) fun x hx => by have := qx x hx; omega), (oa.ls (Ls.kh m.heap hH14 k14)).ls (Ls.upd m'.m)⟩
                  · -- kind 8
                    refine ⟨_, rfl, rfl, _, rfl, ite_any (fun _ => ?_) (fun _ => fin _ _ ⟨od, vo, us, rfl, m, oa⟩)⟩
                    have rt := tupK m.heap m.kh hrm
                    refine ⟨_, rfl, _, rfl, r.1, _, rfl, .inr (SqT.of rt), _, _, rfl, rfl, _, _, rfl, rfl, _, rfl, ite_any (fun hc => ?_) (fun _ => ?_)⟩
                    · have hc := of_decide_eq_true hc
                      rw [List.length_map] at hc
                      have en : atI (r.2.map V.str) ((k : Int) + 1) = some (V.str (r.2[k + 1]'(by omega))) := at_of (by omega : ((k : Int) + 1) = ((k + 1 : Nat) : Int)) (by rw [List.getElem?_map, List.getElem?_eq_getElem (by omega)]; rfl)
                      have hmn : (r.2[k + 1]'(by omega)) ∈ r.2 := List.getElem_mem _
                      exact three (ys := [V.str (r.2[k + 1]'(by omega)), V.str wd]) (m := (k : Int) + 2) rfl rfl rt hla hra (by show 2 ≤ 2; decide) (fun y hy => by
                        simp only [List.mem_cons, List.not_mem_nil, or_false] at hy
                        rcases hy with rfl | rfl
                        · exact hra _ (List.mem_map.mpr ⟨_, hmn, rfl⟩)
                        · exact hra _ (List.mem_map.mpr ⟨_, hwm, rfl⟩)) (fun H1 Q S h => ⟨_, rfl, _, rfl, _, _, rfl, rfl, r.1, _, _, _, rfl, rfl, SqT.of (S _ _ rt), en, _, rfl, _, rfl, r.1, _, _, _, rfl, rfl, SqT.of (S _ _ rt), atI_nat hgk, h⟩) (fun H1 Q S h => ⟨_, rfl, _, _, rfl, rfl, h⟩) fun p H14 S it => SpJ.at_ hM mh ml hd1 (m.same S) (oa.ls (Ls.of S)) it fin
                    · refine ⟨_, rfl, _, rfl, ?_⟩
                      dsimp only [tNoPart]
                      refine slA_all rt fun p1 H14 S1 f1 => ⟨_, rfl, _, rfl, slA_all (S1 _ _ rt) fun p2 H15 S2 f2 => ?_⟩
                      have l1 := cutV_length (r.2.map V.str) (some 1) none
                      have l2 := cutV_length (r.2.map V.str) none (some 1)
                      refine catA_all (S2 _ _ f1) f2 (small64 (by omega)) fun p3 H16 S3 f3 => ?_
                      have S := (S1.trans S2).trans S3
                      refine SpJ.at_ hM mh ml hd1 (m.same S) (oa.ls (Ls.of S)) (item_tup f3 (by rw [List.length_append]; omega) fun x hx => ?_) fin
                      rcases List.mem_append.mp hx with hx | hx
                      · exact hra x (mem_cutV hx)
                      · exact hra x (mem_cutV hx)
                · -- kind 567
                  refine ⟨_, rfl, (by show 3 ≤ sizeLine; decide), fun pt hpt => ?_⟩
                  have St := RK.Same.upd (o := .tup [V.int 5, .int 6, .int 7]) hpt
                  refine ⟨pt, _, rfl, .inr (SqT.of upd_same), rfl, rfl, _, rfl, ite_any (fun _ => ?_) (fun _ => fin _ _ ⟨od, vo, us, rfl, (m.same St), oa.ls (Ls.of St)⟩)⟩
                  have m' := m.same St
                  have oa' := oa.ls (Ls.of St)
                  clear m oa
                  have m := m'
                  have oa := oa'
                  exact three (ys := [od]) (m := (k : Int) + 1) rfl rfl (tupK m.heap m.kh hrm) hla hra (by show 1 ≤ 2; decide) (fun y hy => by
                    rw [List.mem_singleton.mp hy]
                    exact oa) (fun H1 Q S h => ⟨_, rfl, h⟩) (fun H1 Q S h => ⟨_, rfl, _, _, rfl, rfl, h⟩) fun p H14 S it => SpJ.at_ hM mh ml hd1 (m.same S) (oa.ls (Ls.of S)) it fin
              · -- kind 4
                refine ⟨_, rfl, rfl, _, rfl, ite_any (fun _ => ?_) (fun _ => fin _ _ ⟨od, vo, us, rfl, m, oa⟩)⟩
                refine seq_fin (SpJ K H h l M R rs.length d1 kd k j r.1 q.1 wd 0) ?_ (fun fin => ?_)
                · clear oa m
                  rintro σ' H13 ⟨od, vo, us, rfl, m, oa⟩
                  refine ⟨_, rfl, h, l, 2, rfl, m.heap, by decide, by decide, fun b H14 hb hH14 k14 => ⟨rfl, _, rfl, ite_any (fun _ => ⟨_, rfl, _, _, rfl, rfl, _, rfl, ite_any (fun _ => ?_) (fun _ => ?_)⟩) (fun _ => ?_)⟩⟩
                  · have m' := m.draw mh ml hH14 k14
                    have oa' := oa.ls (Ls.kh m.heap hH14 k14)
                    clear m oa
                    have m := m'
                    have oa := oa'
                    obtain ⟨xp, hxp, exp⟩ := atI_prev hk
                    exact three (ys := [V.str xp]) (m := (k : Int) + 1) rfl rfl (tupK m.heap m.kh hrm) hla hra (by show 1 ≤ 2; decide) (fun y hy => by
                      rw [List.mem_singleton.mp hy]
                      exact hra _ (List.mem_map.mpr ⟨_, hxp, rfl⟩)) (fun H1 Q S h => ⟨_, rfl, _, rfl, _, _, rfl, rfl, r.1, _, _, _, rfl, rfl, SqT.of (S _ _ (tupK m.heap m.kh hrm)), exp, h⟩) (fun H1 Q S h => ⟨_, rfl, _, _, rfl, rfl, h⟩) fun p H14 S it => SpJ.at_ hM mh ml hd1 (m.same S) (oa.ls (Ls.of S)) it fin
                  · exact fin _ _ ⟨od, vo, us, rfl, m.draw mh ml hH14 k14, oa.ls (Ls.kh m.heap hH14 k14)⟩
                  · exact fin _ _ ⟨od, vo, us, rfl, m.draw mh ml hH14 k14, oa.ls (Ls.kh m.heap hH14 k14)⟩
                · exact three (ys := [V.str wd]) (m := (k : Int)) rfl rfl (tupK m.heap m.kh hrm) hla hra (by show 1 ≤ 2; decide) (fun y hy => by
                    rw [List.mem_singleton.mp hy]
                    exact hra _ (List.mem_map.mpr ⟨_, hwm, rfl⟩)) (fun H1 Q S h => ⟨_, rfl, h⟩) (fun H1 Q S h => ⟨_, rfl, h⟩) fun p H14 S it => SpJ.at_ hM mh ml hd1 (m.same S) (oa.ls (Ls.of S)) it fin
            · -- kind 3
              refine ⟨_, rfl, rfl, _, rfl, ite_any (fun _ => ?_) (fun _ => fin _ _ ⟨od, vo, us, rfl, m, oa⟩)⟩
              have rt := tupK m.heap m.kh hrm
              refine ⟨_, rfl, r.1, _, rfl, SqT.of rt, fun p hp => ?_⟩
              have S := RK.Same.upd (o := .tup (r.2.map V.str).reverse) hp
              exact SpJ.at_ hM mh ml hd1 (m.same S) (oa.ls (Ls.of S)) (item_tup upd_same (by rw [List.length_reverse]; omega) fun x hx => hra x (List.mem_reverse.mp hx)) fin
          · -- kind 2
            refine ⟨_, rfl, rfl, _, rfl, ite_any (fun _ => ?_) (fun _ => fin _ _ ⟨od, vo, us, rfl, m, oa⟩)⟩
            refine ⟨_, rfl, _, rfl, slA_all (tupK m.heap m.kh hrm) fun p1 H14 S1 f1 => ?_⟩
            obtain ⟨ys, ey, ly, my⟩ := cut_strs (xs := r.2) (lo := none) (hi := some 3)
            rw [ey] at f1
            refine ⟨p1, _, rfl, .inr (SqT.of f1), fun p2 hp2 => ⟨(by show 3 ≤ sizeLine; decide), fun p3 hp3 => ?_⟩⟩
            have S2 := RK.Same.upd (o := .lst (ys.map V.str)) hp2
            have f2 : (upd H14 p2 (.lst (ys.map V.str))) p2 = _ := upd_same
            generalize upd H14 p2 (.lst (ys.map V.str)) = H15 at S2 f2 hp3 ⊢
            have S3 := RK.Same.upd (o := .lst ([Str.ofString "zzzza", Str.ofString "zzzzb", Str.ofString "zzzzc"].map V.str)) hp3
            have f3 : (upd H15 p3 (.lst ([Str.ofString "zzzza", Str.ofString "zzzzb", Str.ofString "zzzzc"].map V.str))) p3 = _ := upd_same
            refine ⟨p2, p3, _, _, rfl, rfl, S3 _ _ f2, f3, small64 (by rw [List.length_map]; show ys.length + 3 < 64; omega), fun p4 hp4 => ?_⟩
            rw [← List.map_append]
            refine ⟨p4, _, rfl, SqL.of upd_same, (by rw [List.length_append]; show ys.length + 3 < 64; omega), fun zs p5 hz _ hp5 => ⟨p5, _, rfl, .inl ⟨SqL.of upd_same, fun p6 hp6 => ?_⟩⟩⟩
            have S4 := RK.Same.upd (o := .lst ((ys ++ [Str.ofString "zzzza", Str.ofString "zzzzb", Str.ofString "zzzzc"]).map V.str)) hp4
            have S5 := RK.Same.upd (o := .lst (zs.map V.str)) hp5
            have S6 := RK.Same.upd (o := .tup (zs.map V.str)) hp6
            have S := ((((S1.trans S2).trans S3).trans S4).trans S5).trans S6
            refine SpJ.at_ hM mh ml hd1 (m.same S) (oa.ls (Ls.of S)) (item_strs upd_same (by have := hz.length_eq; rw [List.length_append] at this; have : [Str.ofString "zzzza", Str.ofString "zzzzb", Str.ofString "zzzzc"].length = 3 := rfl; omega) fun x hx => ?_) fin
            rcases List.mem_append.mp (hz.mem_iff.mp hx) with hx | hx
            · have := rx x (my x hx)
              omega
            · simp only [List.mem_cons, List.not_mem_nil, or_false] at hx
              rcases hx with rfl | rfl | rfl <;> exact (by decide +kernel)
        · -- kind 1
          refine ⟨_, rfl, rfl, _, rfl, ite_any (fun _ => ?_) (fun _ => fin _ _ ⟨od, vo, us, rfl, m, oa⟩)⟩
          refine ⟨_, rfl, _, rfl, slA_all (tupK m.heap m.kh hrm) fun p H14 S f => ?_⟩
          exact SpJ.at_ hM mh ml hd1 (m.same S) (oa.ls (Ls.of S)) (item_tup f (by have := cutV_length (r.2.map V.str) none (some 2); omega) fun x hx => hra x (mem_cutV hx)) fin
      · -- kind 0
        refine ⟨_, rfl, rfl, _, rfl, ite_any (fun _ => ?_) (fun _ => fin _ _ ⟨od, vo, us, rfl, m, oa⟩)⟩
        have rt := tupK m.heap m.kh hrm
        refine ⟨_, rfl, _, rfl, r.1, _, rfl, .inr (SqT.of rt), fun p1 hp1 => ?_⟩
        have S1 := RK.Same.upd (o := .lst (r.2.map V.str)) hp1
        have f1 : (upd H13 p1 (.lst (r.2.map V.str))) p1 = _ := upd_same
        generalize upd H13 p1 (.lst (r.2.map V.str)) = H14 at S1 f1 ⊢
        refine ⟨_, rfl, r.1, _, _, _, rfl, rfl, SqT.of (S1 _ _ rt), e0, ⟨_, rfl⟩, _, rfl, _, r.1, r.2, rfl, rfl, .inr (SqT.of (S1 _ _ rt)), (by have := sum_le rx; have : (Str.ofString "").length = 0 := rfl; rw [this]; omega), (by show 0 ≤ sizeLine; decide), fun p2 hp2 => ?_⟩
        have S2 := RK.Same.upd (o := .tup []) hp2
        have f2 : (upd H14 p2 (.tup [])) p2 = _ := upd_same
        generalize upd H14 p2 (.tup []) = H15 at S2 f2 ⊢
        refine ⟨(by show 6 ≤ sizeLine; decide), fun p hp => ?_⟩
        have m := (m.same S1).same S2
        have oa := (oa.ls (Ls.of S1)).ls (Ls.of S2)
        obtain ⟨ph, pl⟩ := new_ne m.heap hp
        have Sp := RK.Same.upd (o := .lst [V.ref p1, .non, .int 7, .str x0, .str (Txt.join (Str.ofString "") r.2), .ref p2]) hp
        refine pick_any (E := E0) (m.same Sp).heap upd_same (by show 0 < 6; decide) (by show 6 ≤ 1000; decide) ph pl fun v H16 hv hH16 k16 => ?_
        have m' := (m.same Sp).draw mh ml hH16 k16
        have L := (Ls.of Sp).trans (Ls.kh (m.same Sp).heap hH16 k16)
        refine SpJ.at_ hM mh ml hd1 m' (oa.ls L) ?_ fin
        refine IsItem.ls L ?_
        simp only [List.mem_cons, List.not_mem_nil, or_false] at hv
        rcases hv with rfl | rfl | rfl | rfl | rfl | rfl
        · exact item_lst (S2 _ _ f1)
        · exact item_non
        · exact item_int 7
        · exact item_str _
        · exact item_str _
        · exact item_tup f2 (by show 0 ≤ 1000; decide) fun x hx => absurd hx List.not_mem_nil
    · -- kind 67
      refine ⟨_, rfl, (by show 2 ≤ sizeLine; decide), fun pt hpt => ?_⟩
      have St := RK.Same.upd (o := .tup [V.int 6, .int 7]) hpt
      refine ⟨pt, _, rfl, .inr (SqT.of upd_same), rfl, rfl, _, rfl, ite_any (fun _ => ?_) (fun _ => fin _ _ ⟨od, vo, us, rfl, (m.same St), oa.ls (Ls.of St)⟩)⟩
      have m := m.same St
      have oa := oa.ls (Ls.of St)
      refine ⟨_, rfl, _, rfl, wd, _, rfl, rfl, lw "A" (by decide), _, rfl, wd, _, rfl, rfl, lw "1" (by decide), _, rfl, wd, _, rfl, rfl, lw " " (by decide), _, rfl, wd, _, rfl, rfl, lw "_" (by decide), _, rfl, wd, _, rfl, rfl, lw "zzzzz" (by decide), _, rfl, _, rfl, (by rw [app_len]; exact lw "zzzzz" (by decide)), _, rfl, _, rfl, _, rfl, small64 (by omega), _, _, rfl, rfl, small64 (by have := cutS_length wd none (some 4); have : (Str.ofString "-").length = 1 := rfl; omega), (by show 6 ≤ sizeLine; decide), fun p hp => ?_⟩
      obtain ⟨ph, pl⟩ := new_ne m.heap hp
      have Sp := RK.Same.upd (o := .lst [V.str (wd ++ Str.ofString "A"), .str (wd ++ Str.ofString "1"), .str (wd ++ Str.ofString " "), .str (wd ++ Str.ofString "_"), .str (cutS (wd ++ Str.ofString "zzzzz") none (some 6)), .str (cutS wd none (some 4) ++ Str.ofString "-")]) hp
      refine pick_any (E := E0) (m.same Sp).heap upd_same (by show 0 < 6; decide) (by show 6 ≤ 1000; decide) ph pl fun v H14 hv hH14 k14 => ?_
      have m' := (m.same Sp).draw mh ml hH14 k14
      refine fin _ _ ⟨v, vo, us, rfl, m', ?_⟩
      have la : ∀ {z : Str}, z.length ≤ 10 → IsAtom K H14 (.str z) := fun {z} hz => atom_str (by omega)
      simp only [List.mem_cons, List.not_mem_nil, or_false] at hv
      rcases hv with rfl | rfl | rfl | rfl | rfl | rfl
      · exact la (by rw [app_len]; have : (Str.ofString "A").length = 1 := rfl; omega)
      · exact la (by rw [app_len]; have : (Str.ofString "1").length = 1 := rfl; omega)
      · exact la (by rw [app_len]; have : (Str.ofString " ").length = 1 := rfl; omega)
      · exact la (by rw [app_len]; have : (Str.ofString "_").length = 1 := rfl; omega)
      · exact la (by have := cutS_length (wd ++ Str.ofString "zzzzz") none (some 6); rw [app_len] at this; have : (Str.ofString "zzzzz").length = 5 := rfl; omega)
      · exact la (by rw [app_len]; have := cutS_length wd none (some 4); have : (Str.ofString "-").length = 1 := rfl; omega)
end
end K01


set_option Elab.async false
set_option linter.all false
set_option maxRecDepth 100000
/-! texts of rooms: lines, words, joined rooms -/
namespace RK
open PySem PySem.Spec PyProof.Rows L2 TL
/-! ### a list of signs, cut at one sign -/
theorem pre_hit {c : Nat} {b : List Nat} : pre [c] (c :: b) = true := by
  show ([c] == [c]) = true
  exact beq_self_eq_true _
theorem pre_miss {c x : Nat} {b : List Nat} (h : ¬ x = c) : pre [c] (x :: b) = false := by
  show ([x] == [c]) = false
  exact beq_eq_false_iff_ne.mpr fun z => h (List.cons.inj z).1
theorem spl_app {c : Nat} {b : List Nat} : ∀ (a acc : List Nat), spl [c] 0 acc (a ++ c :: b) = spl [c] 0 acc a ++ spl [c] 0 [] b
  | [], acc => by
    rw [List.nil_append, spl_hit pre_hit, spl_nil]
    rfl
  | x :: a, acc => by
    by_cases h : x = c
    · subst h
      rw [List.cons_append, spl_hit pre_hit, spl_hit pre_hit, List.cons_append]
      exact congrArg (acc :: ·) (spl_app a [])
    · rw [List.cons_append, spl_miss (pre_miss h), spl_miss (pre_miss h)]
      exact spl_app a (acc ++ [x])
/-- the words between blanks -/
def wl (l : List Nat) : List (List Nat) := (spl [32] 0 [] l).filter fun p => !p.isEmpty
theorem wl_app (a b : List Nat) : wl (a ++ 32 :: b) = wl a ++ wl b := by
  unfold wl
  rw [spl_app, List.filter_append]
theorem wl_nil : wl [] = [] := rfl
theorem wl_cons (b : List Nat) : wl (32 :: b) = wl b := wl_app [] b
theorem wl_word {w : List Nat} (h : w ≠ []) (n : 32 ∉ w) : wl w = [w] := by
  unfold wl
  rw [spl_last1 n, List.nil_append]
  cases w with
  | nil => exact absurd rfl h
  | cons x w => rfl
theorem wl_last (a : List Nat) : wl (a ++ [32]) = wl a := by rw [wl_app, wl_nil, List.append_nil]
/-- what stands behind it is words of its own -/
def Closed (a : List Nat) : Prop := ∀ b, wl (a ++ b) = wl a ++ wl b
theorem closed_nil : Closed [] := fun b => rfl
theorem closed_bl (a : List Nat) : Closed (a ++ [32]) := fun b => by
  rw [List.append_assoc, wl_last]
  exact wl_app a b
theorem wl_rep (b : List Nat) : ∀ k : Nat, wl (List.replicate k 32 ++ b) = wl b
  | 0 => rfl
  | k + 1 => by
    rw [List.replicate_succ, List.cons_append, wl_cons]
    exact wl_rep b k
theorem closed_rep (k : Nat) : Closed (List.replicate k 32) := fun b => by
  have := wl_rep [] k
  rw [List.append_nil] at this
  rw [wl_rep, this]
  rfl
/-- a word and one blank or more behind what is closed -/
theorem closed_add {a w : List Nat} {m : Nat} (ha : Closed a) (h : w ≠ []) (n : 32 ∉ w) (hm : 1 ≤ m) : Closed (a ++ w ++ List.replicate m 32) ∧ wl (a ++ w ++ List.replicate m 32) = wl a ++ [w] ∧ ∃ l, a ++ w ++ List.replicate m 32 = l ++ [32] := by
  obtain ⟨m, rfl⟩ : ∃ k, m = k + 1 := ⟨m - 1, by omega⟩
  have e : a ++ w ++ List.replicate (m + 1) 32 = (a ++ w ++ List.replicate m 32) ++ [32] := by rw [List.replicate_succ', List.append_assoc, List.append_assoc, List.append_assoc]
  refine ⟨by rw [e]; exact closed_bl _, ?_, _, e⟩
  rw [List.append_assoc, ha, List.replicate_succ, wl_app, wl_word h n]
  have := wl_rep [] m
  rw [List.append_nil] at this
  rw [this, wl_nil]
  rfl
/-! ### the same of texts -/
def blS : Str := Str.ofString " "
def nlS : Str := Str.ofString "\n"
theorem tl_bl : tl blS = [32] := by decide +kernel
theorem tl_nl : tl nlS = [10] := by decide +kernel
theorem k_bl : blS.cps.all (· < 256) = true := by decide +kernel
theorem k_nl : nlS.cps.all (· < 256) = true := by decide +kernel
def wdsOf (x : Str) : List Str := (Txt.split x blS).filter fun y => ((y.length : Int) != 0)
theorem words_tl (x : Str) : (wdsOf x).map tl = wl (tl x) := by
  unfold wdsOf wl
  have e := split_spl x blS (by rw [tl_bl]; simp) (kind_ok k_bl)
  rw [tl_bl] at e
  rw [← e, List.filter_map]
  congr 1
  refine List.filter_congr fun y _ => ?_
  have hl := len_tl y
  rw [Bool.eq_iff_iff]
  constructor
  · intro h
    show (!(tl y).isEmpty) = true
    rw [Bool.not_eq_true', List.isEmpty_eq_false_iff]
    intro z
    rw [z] at hl
    rw [hl] at h
    exact absurd h (by decide)
  · intro h
    have h : (!(tl y).isEmpty) = true := h
    rw [Bool.not_eq_true', List.isEmpty_eq_false_iff] at h
    rw [bne_iff_ne]
    intro z
    have : (tl y).length = 0 := by omega
    exact h (List.length_eq_zero_iff.mp this)
theorem spl_len {c : Nat} {p : List Nat} : ∀ (l acc : List Nat), p ∈ spl [c] 0 acc l → p.length ≤ acc.length + l.length
  | [], acc, h => by
    rw [spl_nil, List.mem_singleton] at h
    rw [h]
    omega
  | x :: l, acc, h => by
    by_cases e : x = c
    · subst e
      rw [spl_hit pre_hit] at h
      rcases List.mem_cons.mp h with h | h
      · rw [h]; omega
      · have := spl_len l [] h
        simp only [List.length_nil, List.length_cons] at this ⊢
        omega
    · rw [spl_miss (pre_miss e)] at h
      have := spl_len l (acc ++ [x]) h
      simp only [List.length_append, List.length_cons, List.length_nil] at this ⊢
      omega
theorem part_len {x y : Str} (h : y ∈ Txt.split x blS) : y.length ≤ x.length := by
  have e := split_spl x blS (by rw [tl_bl]; simp) (kind_ok k_bl)
  rw [tl_bl] at e
  have := spl_len (c := 32) (p := tl y) (tl x) [] (by rw [← e]; exact List.mem_map_of_mem h)
  rw [len_tl, len_tl]
  simpa using this
/-- a line of a room -/
structure LineOf (x : Str) (r : Rm) : Prop where
  perm : (wdsOf x).Perm r
  one : 10 ∉ tl x
  len : x.length ≤ 100
theorem name_facts {x : Str} (h : NameOk x) : tl x ≠ [] ∧ 32 ∉ tl x ∧ 10 ∉ tl x := by
  have hl := len_tl x
  refine ⟨fun z => ?_, fun z => ?_, fun z => ?_⟩
  · rw [z] at hl
    have := h.1
    rw [hl] at this
    exact absurd this (by decide)
  · exact absurd (h.2.2 32 z) (by decide)
  · exact absurd (h.2.2 10 z) (by decide)
/-! ### joined rooms -/
theorem join_flat {c : Nat} : ∀ {L : List (List Nat)}, L ≠ [] → L.flatMap (fun p => p ++ [c]) = joinL [c] L ++ [c]
  | [], h => absurd rfl h
  | [p], _ => by
    rw [List.flatMap_cons, List.flatMap_nil, List.append_nil]
    rfl
  | p :: q :: r, _ => by
    rw [List.flatMap_cons, join_flat (L := q :: r) (by simp)]
    show p ++ [c] ++ (joinL [c] (q :: r) ++ [c]) = p ++ ([c] ++ joinL [c] (q :: r)) ++ [c]
    simp
def roomS (r : Rm) : Str := Txt.join blS r
def shownS (rms : List Rm) : Str := Txt.join nlS (rms.map roomS)
theorem tl_roomS (r : Rm) : tl (roomS r) = joinL [32] (r.map tl) := by
  unfold roomS
  rw [join_eq, tl_join, tl_bl]
theorem tl_shownS (rms : List Rm) : tl (shownS rms) = joinL [10] (rms.map fun r => joinL [32] (r.map tl)) := by
  unfold shownS
  rw [join_eq, tl_join, tl_nl, List.map_map]
  congr 1
  exact List.map_congr_left fun r _ => tl_roomS r
theorem mem_joinL {c x : Nat} : ∀ {L : List (List Nat)}, x ∈ joinL [c] L → x = c ∨ ∃ p ∈ L, x ∈ p
  | [], h => absurd h List.not_mem_nil
  | [p], h => .inr ⟨p, List.mem_cons_self, h⟩
  | p :: q :: r, h => by
    have h : x ∈ p ++ ([c] ++ joinL [c] (q :: r)) := h
    rcases List.mem_append.mp h with h | h
    · exact .inr ⟨p, List.mem_cons_self, h⟩
    rcases List.mem_append.mp h with h | h
    · exact .inl (List.mem_singleton.mp h)
    · rcases mem_joinL h with h | ⟨z, hz, hx⟩
      · exact .inl h
      · exact .inr ⟨z, List.mem_cons_of_mem _ hz, hx⟩
theorem wl_join : ∀ {L : List (List Nat)}, (∀ p ∈ L, p ≠ [] ∧ 32 ∉ p) → wl (joinL [32] L) = L
  | [], _ => rfl
  | [p], h => wl_word (h p List.mem_cons_self).1 (h p List.mem_cons_self).2
  | p :: q :: r, h => by
    have e : joinL [32] (p :: q :: r) = p ++ 32 :: joinL [32] (q :: r) := rfl
    rw [e, wl_app, wl_join fun z hz => h z (List.mem_cons_of_mem _ hz), wl_word (h p List.mem_cons_self).1 (h p List.mem_cons_self).2]
    rfl
theorem len_joinL {c m : Nat} : ∀ {L : List (List Nat)}, (∀ p ∈ L, p.length ≤ m) → (joinL [c] L).length ≤ L.length * (m + 1)
  | [], _ => Nat.zero_le _
  | [p], h => by
    have := h p List.mem_cons_self
    show p.length ≤ 1 * (m + 1)
    omega
  | p :: q :: r, h => by
    have h1 := h p List.mem_cons_self
    have ih := len_joinL (c := c) (L := q :: r) fun z hz => h z (List.mem_cons_of_mem _ hz)
    show (p ++ ([c] ++ joinL [c] (q :: r))).length ≤ (r.length + 1 + 1) * (m + 1)
    rw [List.length_append, List.length_append, List.length_singleton]
    have e : (q :: r).length = r.length + 1 := rfl
    rw [e] at ih
    have : (r.length + 1 + 1) * (m + 1) = (r.length + 1) * (m + 1) + (m + 1) := Nat.succ_mul _ _
    omega
theorem roomS_len {r : Rm} (h : RoomOk r) : (roomS r).length ≤ 30 := by
  rw [len_tl, tl_roomS]
  have := len_joinL (c := 32) (m := 5) (L := r.map tl) fun p hp => by
    obtain ⟨x, hx, rfl⟩ := List.mem_map.mp hp
    rw [← len_tl]
    exact (h.2.2.1 x hx).2.1
  rw [List.length_map] at this
  have h5 := h.2.1
  omega
theorem line_roomS {r : Rm} (h : RoomOk r) : LineOf (roomS r) r := by
  have hf : ∀ p ∈ r.map tl, p ≠ [] ∧ 32 ∉ p := fun p hp => by
    obtain ⟨x, hx, rfl⟩ := List.mem_map.mp hp
    exact ⟨(name_facts (h.2.2.1 x hx)).1, (name_facts (h.2.2.1 x hx)).2.1⟩
  have e : wdsOf (roomS r) = r := map_tl_inj (by rw [words_tl, tl_roomS, wl_join hf])
  refine ⟨by rw [e], fun z => ?_, ?_⟩
  · rw [tl_roomS] at z
    rcases mem_joinL z with z | ⟨p, hp, z⟩
    · exact absurd z (by decide)
    · obtain ⟨x, hx, rfl⟩ := List.mem_map.mp hp
      exact (name_facts (h.2.2.1 x hx)).2.2 z
  · have := roomS_len h
    omega
/-- a text of lines -/
def TextOf (x : Str) (rms : List Rm) : Prop := ∃ ls : List Str, Txt.split x nlS = ls ∧ ls.length = rms.length ∧ (∀ (i : Nat) (y : Str) (r : Rm), ls[i]? = some y → rms[i]? = some r → LineOf y r) ∧ x.length ≤ 100000
theorem text_join {ls : List Str} {rms : List Rm} (h0 : ls ≠ []) (hl : ls.length = rms.length) (h10 : ls.length ≤ 10) (h : ∀ (i : Nat) (y : Str) (r : Rm), ls[i]? = some y → rms[i]? = some r → LineOf y r) : TextOf (Txt.join nlS ls) rms := by
  have lo : ∀ y ∈ ls, ∃ r, LineOf y r := fun y hy => by
    obtain ⟨i, hi, e⟩ := List.getElem_of_mem hy
    exact ⟨rms[i]'(by omega), h i y _ (by rw [List.getElem?_eq_getElem hi, e]) (List.getElem?_eq_getElem (by omega))⟩
  refine ⟨ls, split_join tl_nl k_nl h0 fun p hp => ?_, hl, h, ?_⟩
  · obtain ⟨r, hr⟩ := lo p hp
    exact hr.one
  · rw [len_tl, join_eq, tl_join, tl_nl]
    have := len_joinL (c := 10) (m := 100) (L := ls.map tl) fun p hp => by
      obtain ⟨x, hx, rfl⟩ := List.mem_map.mp hp
      obtain ⟨r, hr⟩ := lo x hx
      rw [← len_tl]
      exact hr.len
    rw [List.length_map] at this
    omega
theorem text_shown {rms : List Rm} (h0 : rms ≠ []) (h10 : rms.length ≤ 10) (h : ∀ r ∈ rms, RoomOk r) : TextOf (shownS rms) rms := by
  refine text_join (fun z => h0 (List.map_eq_nil_iff.mp z)) (by rw [List.length_map]) (by rw [List.length_map]; exact h10) fun i y r hy hr => ?_
  rw [List.getElem?_map, hr] at hy
  obtain rfl := Option.some.inj hy
  exact line_roomS (h r (List.mem_of_getElem? hr))
/-! ### a text so many times, none and once too -/
theorem repS_list (z : Str) (k : Nat) : tl (repS z (k : Int)) = (List.replicate k (tl z)).flatten := by
  show ((List.replicate ((k : Int)).toNat z.cps).foldl (fun x1 x2 => x1 ++ x2) #[]).toList = _
  rw [rep_list]
  rfl
theorem repS_bl (k : Nat) : tl (repS blS (k : Int)) = List.replicate k 32 := by
  rw [repS_list, tl_bl]
  induction k with
  | zero => rfl
  | succ k ih => rw [List.replicate_succ, List.flatten_cons, ih]; rfl
theorem op_rep0 {X : Cx} : OpR X (binaryOp .Mult) (fun x y H Q => ∃ (z : Str) (k : Nat), x = .str z ∧ y = .int (k : Int) ∧ k ≤ 100 ∧ 1 ≤ z.length ∧ z.length ≤ 1000 ∧ Q (.str (repS z (k : Int))) H) := by
  intro pins s σ H x y v u Q I rx ry h
  obtain ⟨z, k, rfl, rfl, k9, z1, z9, q⟩ := h
  by_cases k2 : 2 ≤ k
  · exact op_repS pins s σ H _ _ v u Q I rx ry ⟨z, k, rfl, rfl, by omega, by omega, z1, z9, q⟩
  · obtain ⟨t, rfl⟩ : ∃ t, v = .str z t := rx
    obtain ⟨tu, rfl⟩ : ∃ t, u = .int (k : Int) t := ry
    refine wpAny_binaryOp_repeat (T := "str") (U := "int") (id := "str.__mul__") (idr := "int.__rmul__") (by decide) ?_ ?_ noFill_str_mul F.fills_int_mul F.slot_int_rmul repeat_str int_index ?_
    · exact fun s' => rfl
    · exact fun s' => rfl
    · refine call_gives F.slot_int_rmul rfl F.entry_int_rmul (F.args_int_rmul_2 _ _) (AutoIntG1.int___rmul___int_str_0 (k : Int) tu z t) ⟨rfl, ?_⟩
      have g := gives_str_mul z (k : Int) t tu (by rw [Bool.or_eq_false_iff]; exact ⟨decide_eq_false (by omega), decide_eq_false (by omega)⟩)
        (fun h1 h2 => by
          rw [Bool.or_eq_false_iff, beq_eq_false_iff_ne] at h2
          omega) (fun h1 h2 => by
          rw [Bool.or_eq_false_iff, beq_eq_false_iff_ne] at h2
          omega)
      by_cases k0 : k = 0
      · subst k0
        rw [if_pos (by decide)] at g
        have e : repS z ((0 : Nat) : Int) = Str.empty := rfl
        rw [e] at q
        refine call_gives F.slot_str_mul rfl F.entry_str_mul (F.args_str_mul_2 _ _) g ?_
        exact ⟨by decide, .str Str.empty, H, I.kept fun _ _ z => z, ⟨_, rfl⟩, q⟩
      · have k1 : k = 1 := by omega
        subst k1
        rw [if_neg (by decide), if_pos (by rfl)] at g
        have e : repS z ((1 : Nat) : Int) = z := ext_tl (by rw [repS_list, List.replicate_one, List.flatten_singleton])
        rw [e] at q
        refine call_gives F.slot_str_mul rfl F.entry_str_mul (F.args_str_mul_2 _ _) g ?_
        exact ⟨.str z, H, I.kept fun _ _ z => z, ⟨_, rfl⟩, q⟩
/-! ### rules whose K is told -/
theorem pe_joinK {X : Cx} (K : PySem.W.Frag) {o e : Expr} {to te : TE} {apos pos : Pos} (ho : PE X o to) (he : PE X e te) (hs : starEach [e] X.env = [(false, eval e X.env)] := by rfl) (hbase : attributeBase o "join" X.env (eval o X.env) = eval o X.env := by rfl) (hline : (apos.endLine == pos.line) = true := by rfl)
    (hK : X.K = K := by rfl) : PE X (.Call (.Attribute o "join" apos) [e] [] pos) (tM1 (fun x xs H Q => ∃ a p, ∃ ys : List Str, x = .str a ∧ xs = [.ref p] ∧ (SqL K H p (ys.map V.str) ∨ SqT K H p (ys.map V.str)) ∧
      (ys.map (·.length)).sum + ys.length * a.length ≤ 16777216 ∧ Q (.str (Txt.join a ys)) H) to te) := by
  subst hK
  exact pe_join ho he hs hbase hline
def rTupOf (K : PySem.W.Frag) : List V → Hp → VK → Prop := fun xs H Q => ∃ p ys, xs = [.ref p] ∧ ((SqL K H p ys ∧ ∀ l, H l = none → Q (.ref l) (upd H l (.tup ys))) ∨ (SqT K H p ys ∧ Q (.ref p) H))
theorem call_tupK {X : Cx} : CallR X (.type "tuple") (rTupOf X.K) := call_tuple_of
def tTruK (K : PySem.W.Frag) (ta : TE) : TT := fun σ H Q => ta σ H fun x H' => ∃ k, TruV K x H' k ∧ Q k H'
theorem pt_truthK {X : Cx} (K : PySem.W.Frag) {a : Expr} {ta : TE} (ha : PE X a ta) (he : ∀ whole, isTrue a X.env whole = (do let v ← whole; standAt a.pos; holding [v] (truthy v)) := by intro _; rfl) (hK : X.K = K := by rfl) :
    PT X a (tTruK K ta) := by
  subst hK
  exact pt_truth ha he
end RK


set_option Elab.async false
set_option linter.all false
set_option maxRecDepth 100000
/-! rooms out of a row of names; tuples of items -/
namespace RK
open PySem PySem.Spec PyProof.Rows L2
def seg (ws : List Str) (a n : Nat) : List Str := (ws.drop a).take n
theorem mem_seg {ws : List Str} {a n : Nat} {x : Str} : x ∈ seg ws a n ↔ ∃ p, a ≤ p ∧ p < a + n ∧ ws[p]? = some x := by
  unfold seg
  rw [List.mem_iff_getElem?]
  constructor
  · rintro ⟨i, h⟩
    rw [List.getElem?_take] at h
    by_cases hi : i < n
    · rw [if_pos hi, List.getElem?_drop] at h
      exact ⟨a + i, by omega, by omega, h⟩
    · rw [if_neg hi] at h
      cases h
  · rintro ⟨p, h1, h2, h⟩
    refine ⟨p - a, ?_⟩
    rw [List.getElem?_take, if_pos (by omega), List.getElem?_drop, show a + (p - a) = p by omega]
    exact h
theorem seg_len {ws : List Str} {a n : Nat} (h : a + n ≤ ws.length) : (seg ws a n).length = n := by
  unfold seg
  rw [List.length_take, List.length_drop]
  omega
theorem seg_nodup {ws : List Str} {a n : Nat} (nd : ws.Nodup) : (seg ws a n).Nodup := List.Nodup.sublist ((List.take_sublist _ _).trans (List.drop_sublist _ _)) nd
theorem len_le1 {l : List Str} (nd : l.Nodup) (h : ∀ x ∈ l, ∀ y ∈ l, x = y) : l.length ≤ 1 := by
  match l, nd, h with
  | [], _, _ => exact Nat.zero_le _
  | [x], _, _ => exact Nat.le_refl _
  | x :: y :: r, nd, h =>
    have e := h x List.mem_cons_self y (List.mem_cons_of_mem _ List.mem_cons_self)
    rw [e] at nd
    exact absurd List.mem_cons_self (List.nodup_cons.mp nd).1
theorem common_one {ws : List Str} (nd : ws.Nodup) {r s : Rm} {a n b m : Nat} (ndr : r.Nodup) (hr : ∀ x ∈ r, x ∈ seg ws a n) (hs : ∀ x ∈ s, x ∈ seg ws b m) (h : a + n ≤ b + 1 ∨ b + m ≤ a + 1) : (common r s).length ≤ 1 := by
  have key : ∀ x ∈ common r s, ws[if a + n ≤ b + 1 then b else a]? = some x := fun x hx => by
    unfold common at hx
    rw [List.mem_filter, decide_eq_true_eq] at hx
    obtain ⟨p, p1, p2, e1⟩ := mem_seg.mp (hr x hx.1)
    obtain ⟨q, q1, q2, e2⟩ := mem_seg.mp (hs x hx.2)
    have hp := (List.getElem?_eq_some_iff.mp e1).1
    have epq : p = q := (List.getElem?_inj hp nd).mp (e1.trans e2.symm)
    subst epq
    by_cases hc : a + n ≤ b + 1
    · rw [if_pos hc, show b = p by omega]
      exact e1
    · rw [if_neg hc, show a = p by omega]
      exact e1
  refine len_le1 (List.Nodup.sublist List.filter_sublist ndr) fun x hx y hy => ?_
  have := (key x hx).symm.trans (key y hy)
  exact Option.some.inj this
theorem room_seg {ws : List Str} (nd : ws.Nodup) (hn : ∀ x ∈ ws, NameOk x) {r : Rm} {a n : Nat} (hp : r.Perm (seg ws a n)) (hs : sortedS r = true) (hl : a + n ≤ ws.length) (h3 : 3 ≤ n) (h5 : n ≤ 5) : RoomOk r := by
  have el := hp.length_eq
  rw [seg_len hl] at el
  refine ⟨by omega, by omega, fun x hx => hn x ?_, asc_of hs (hp.nodup_iff.mpr (seg_nodup nd))⟩
  obtain ⟨p, _, _, e⟩ := mem_seg.mp (hp.mem_iff.mp hx)
  exact List.mem_of_getElem? e
/-! ### tuples of items -/
theorem At2.app {α β : Type} {P : α → β → Prop} {vs us : List α} {as bs : List β} (h : At2 P vs as) (k : At2 P us bs) : At2 P (vs ++ us) (as ++ bs) := by
  refine ⟨by rw [List.length_append, List.length_append, h.1, k.1], fun i v a e1 e2 => ?_⟩
  have hl := h.1
  by_cases hi : i < vs.length
  · rw [List.getElem?_append_left hi] at e1
    rw [List.getElem?_append_left (by omega)] at e2
    exact h.2 i v a e1 e2
  · rw [List.getElem?_append_right (by omega)] at e1
    rw [List.getElem?_append_right (by omega), ← hl] at e2
    exact k.2 _ v a e1 e2
theorem At2.one {α β : Type} {P : α → β → Prop} {v : α} {a : β} (h : P v a) : At2 P [v] [a] := by
  refine ⟨rfl, fun i u b e1 e2 => ?_⟩
  cases i with
  | zero =>
    cases e1
    cases e2
    exact h
  | succ i => simp at e1
theorem At2.map {α β γ : Type} {P : α → β → Prop} {f : γ → α} {g : γ → β} {l : List γ} (h : ∀ x ∈ l, P (f x) (g x)) : At2 P (l.map f) (l.map g) := by
  refine ⟨by rw [List.length_map, List.length_map], fun i v a e1 e2 => ?_⟩
  rw [List.getElem?_map] at e1 e2
  cases e : l[i]? with
  | none => rw [e] at e1; cases e1
  | some x =>
    rw [e] at e1 e2
    cases e1
    cases e2
    exact h x (List.mem_of_getElem? e)
section
variable {K : PySem.W.Frag} {H : Hp}
theorem item_row {t : Addr} {r : Rm} (e : H t = some (.tup (r.map V.str))) (hl : r.length ≤ 1000) (hx : ∀ x ∈ r, x.length ≤ 1000) : ItemAt K H (.ref t) (some (r.map some)) :=
  .inl ⟨t, r.map V.str, r.map some, rfl, rfl, e, by rw [List.length_map]; exact hl, At2.map fun x h => .inl ⟨x, rfl, rfl, hx x h⟩⟩
theorem item_room {t : Addr} {r : Rm} (e : H t = some (.tup (r.map V.str))) (ok : RoomOk r) : ItemAt K H (.ref t) (some (r.map some)) :=
  item_row e (by have := ok.2.1; omega) fun x hx => by have := (ok.2.2.1 x hx).2.1; omega
theorem val_of {R : Addr} {vs : List V} {its : List Item} (e : H R = some (.tup vs)) (hl : vs.length ≤ 1000) (h : At2 (ItemAt K H) vs its) : ValAt K H (.ref R) (some its) := .inl ⟨R, vs, its, rfl, rfl, e, hl, h⟩
end
theorem good_of {rms : List Rm} (ok : ∀ r ∈ rms, RoomOk r) (one : rms.Pairwise (fun r s => (common s r).length ≤ 1)) : Good (rms.map fun r => some (r.map some)) rms := ⟨rfl, ok, one⟩
theorem pair_of {rms : List Rm} (h : ∀ (i j : Nat) (r s : Rm), i < j → rms[i]? = some r → rms[j]? = some s → (common s r).length ≤ 1) : rms.Pairwise (fun r s => (common s r).length ≤ 1) :=
  List.pairwise_iff_getElem.mpr fun i j hi hj hij => h i j _ _ hij (List.getElem?_eq_getElem hi) (List.getElem?_eq_getElem hj)
/-! ### slices -/
theorem cutV_take {xs : List V} {n : Nat} : cutV xs none (some (n : Int)) = xs.take n := by
  unfold cutV
  rw [HT.sIx_nat, HT.sIx_none, List.drop_zero, Nat.sub_zero]
  by_cases h : n ≤ xs.length
  · rw [Nat.min_eq_left h]
  · rw [Nat.min_eq_right (by omega), List.take_of_length_le (Nat.le_refl _), List.take_of_length_le (by omega)]
theorem cutV_seg {xs : List V} {a b : Nat} : cutV xs (some (a : Int)) (some (b : Int)) = (xs.drop a).take (b - a) := by
  unfold cutV
  rw [HT.sIx_nat, HT.sIx_nat]
  by_cases h : a ≤ xs.length
  · rw [Nat.min_eq_left h]
    by_cases hb : b ≤ xs.length
    · rw [Nat.min_eq_left hb]
    · rw [Nat.min_eq_right (by omega), List.take_of_length_le (by rw [List.length_drop]; omega), List.take_of_length_le (by rw [List.length_drop]; omega)]
  · rw [show List.drop (min a xs.length) xs = [] from List.drop_of_length_le (by omega), List.drop_of_length_le (by omega), List.take_nil, List.take_nil]
theorem cutV_drop {xs : List V} {a : Nat} : cutV xs (some (a : Int)) none = xs.drop a := by
  unfold cutV
  rw [HT.sIx_nat, HT.sIx_none]
  by_cases h : a ≤ xs.length
  · rw [Nat.min_eq_left h, List.take_of_length_le (by rw [List.length_drop]; omega)]
  · rw [Nat.min_eq_right (by omega), List.drop_of_length_le (Nat.le_refl _), List.drop_of_length_le (by omega), List.take_nil]
theorem seg_strs {ws : List Str} {a n : Nat} : ((ws.map V.str).drop a).take n = (seg ws a n).map V.str := by
  unfold seg
  rw [List.map_take, List.map_drop]
end RK


set_option Elab.async false
set_option linter.all false
set_option maxRecDepth 100000
set_option maxHeartbeats 8000000
/-! chains of rooms -/
namespace K01
open PySem PySem.Spec PyProof.Rows L2 RK
abbrev sChain : Stmt := topL 36
/-- rooms of n names each, the next one s names later -/
structure Row (ws : List Str) (s n : Nat) (rms : List Rm) : Prop where
  at_ : ∀ (i : Nat) (r : Rm), rms[i]? = some r → r.Perm (seg ws (s * i) n) ∧ sortedS r = true
theorem Row.nil {ws : List Str} {s n : Nat} : Row ws s n [] := ⟨fun i r e => by simp at e⟩
theorem Row.add {ws : List Str} {s n : Nat} {rms : List Rm} {r : Rm} (h : Row ws s n rms) (hp : r.Perm (seg ws (s * rms.length) n)) (hs : sortedS r = true) : Row ws s n (rms ++ [r]) := by
  refine ⟨fun i q e => ?_⟩
  by_cases hi : i < rms.length
  · rw [List.getElem?_append_left hi] at e
    exact h.at_ i q e
  · rw [List.getElem?_append_right (by omega)] at e
    have hl := (List.getElem?_eq_some_iff.mp e).1
    rw [List.length_singleton] at hl
    have ei : i = rms.length := by omega
    subst ei
    rw [Nat.sub_self] at e
    cases e
    exact ⟨hp, hs⟩
theorem rms_len (rs : List (Addr × Rm)) : (rmsOf rs).length = rs.length := by unfold rmsOf; rw [List.length_map]
theorem rms_snoc (rs : List (Addr × Rm)) (t : Addr) (r : Rm) : rmsOf (rs ++ [(t, r)]) = rmsOf rs ++ [r] := by unfold rmsOf; rw [List.map_append]; rfl
theorem refs_snoc (rs : List (Addr × Rm)) (t : Addr) (r : Rm) : refsOf (rs ++ [(t, r)]) = refsOf rs ++ [V.ref t] := by unfold refsOf; rw [List.map_append]; rfl
theorem rooms_snoc {H : Hp} {rs : List (Addr × Rm)} {t : Addr} {r : Rm} (h : RoomsIn H rs) (e : H t = some (.tup (r.map V.str))) : RoomsIn H (rs ++ [(t, r)]) := fun q hq => by
  rcases List.mem_append.mp hq with hq | hq
  · exact h q hq
  · rw [List.mem_singleton.mp hq]
    exact e
def spChain : Sp := fun vs H Q _ => ∃ (Nm : Addr) (ws : List Str) (m : Nat), vs = [.ref Nm, .int (m : Int)] ∧ H Nm = some (.lst (ws.map V.str)) ∧ ws.length ≤ 60 ∧ m ≤ 20 ∧
  ∀ (p : Addr) (rs : List (Addr × Rm)) (H' : Hp), L2.Same H H' → H' p = some (.tup (refsOf rs)) → RoomsIn H' rs → rs.length = m → Row ws 2 3 (rmsOf rs) → Q (.ref p) H'
structure TCh (mg : Str → Option Value) : Prop where
  tuple : mg "tuple" = none
  sorted : mg "sorted" = none
  range : mg "range" = none
  len : mg "len" = none
  list : mg "list" = none
section
variable {P : Program} {w : World} {K : PySem.W.Frag} {mg : Str → Option Value} {base : Heap}
abbrev nChain : List Str := ["names", "many", "at"]
theorem scChain : FnScope nChain ["names", "many"] (defScope sChain) := ⟨rfl, rfl, rfl, by decide +kernel, rfl, by decide +kernel, by decide +kernel⟩
theorem ok_chain {f : Addr} {fd : FuncData} (F : Fun K "_law_chain" "_law_chain" sChain f fd) (T : TCh mg) : FnOk P w K mg base CX0 1 f fd ["names", "many"] spChain := by
  refine F.ok scChain (fun vs H Q E h => ?_) (fun cdv A outer s H vs Q E hr h => ?_)
  · obtain ⟨Nm, ws, m, rfl, _⟩ := h
    rfl
  · obtain ⟨Nm, ws, m, rfl, hN, hw, hm, k⟩ := h
    refine ⟨_, (pss_one (ps_ret (pe_callTy call_tuple_of (by rfl) T.tuple boot_tuple (pa_cons (pe_lc (own := [("at", 2)]) (g := gName 2) (tt := tYes) rfl scChain.nd (pi_range1 (by rfl) T.range (pa_cons (pv 1) pa_nil)) (blkOk_by (N := nChain) (sc := defScope sChain) (by decide +kernel)) (fun _ _ _ _ _ => pg_name (i := 2) scChain.nd rfl (Or.inl rfl)) (fun _ _ _ _ _ => pts_nil) (fun _ _ _ _ _ => (pe_callTy (r := rTupOf K) call_tupK (by rfl) T.tuple boot_tuple (pa_cons (pe_callB (r := rSortedS K) cr_sortedS (by rfl) T.sorted (by decide +kernel) (pa_cons (pe_slice (r := rSlL K) sl_list (pv 0) (po_some (pe_op op_mul pe_int (pv 2))) (po_some (pe_op op_add (pe_op op_mul pe_int (pv 2)) pe_int))) pa_nil)) pa_nil)))) pa_nil)))), ?_⟩
    refine ⟨_, rfl, (m : Int), rfl, by omega, by omega, fun D hD => ?_⟩
    refine lc_range (lo := 0) (fun i H' => ∃ rs : List (Addr × Rm), L2.Same H H' ∧ H' D = some (.lst (refsOf rs)) ∧ RoomsIn H' rs ∧ rs.length = i ∧ Row ws 2 3 (rmsOf rs)) ⟨[], RK.Same.upd hD, upd_same, fun r hr => absurd hr List.not_mem_nil, rfl, Row.nil⟩ ?_ ?_
    · rintro i H1 hi ⟨rs, S1, e1, hI, hl, hR⟩
      refine ⟨rfl, ?_⟩
      unfold tYes
      refine iteT ⟨_, rfl, _, rfl, 2, _, rfl, rfl, ?_, _, rfl, _, rfl, 2, _, rfl, rfl, ?_, _, _, rfl, rfl, _, rfl, Nm, _, rfl, SqL.of (S1 _ _ hN), fun p1 hp1 => ?_⟩
      · exact .inl ⟨by decide, by decide⟩
      · exact .inl ⟨by decide, by decide⟩
      have es : cutV (ws.map V.str) (some (2 * (0 + (i : Int)))) (some (2 * (0 + (i : Int)) + 3)) = (seg ws (2 * i) 3).map V.str := by
        rw [show (2 * (0 + (i : Int)) : Int) = ((2 * i : Nat) : Int) by omega, show (((2 * i : Nat) : Int) + 3 : Int) = ((2 * i + 3 : Nat) : Int) by omega, cutV_seg, show 2 * i + 3 - 2 * i = 3 by omega]
        exact seg_strs
      rw [es]
      have l3 : (seg ws (2 * i) 3).length ≤ 3 := by unfold seg; rw [List.length_take]; omega
      have S2 := RK.Same.upd (o := .lst ((seg ws (2 * i) 3).map V.str)) hp1
      have e2 : (upd H1 p1 (.lst ((seg ws (2 * i) 3).map V.str))) p1 = _ := upd_same
      generalize upd H1 p1 (.lst ((seg ws (2 * i) 3).map V.str)) = H2 at S2 e2 ⊢
      refine ⟨p1, _, rfl, SqL.of e2, by omega, fun r p2 hp hs hp2 => ⟨p2, _, rfl, .inl ⟨SqL.of upd_same, fun p3 hp3 => ?_⟩⟩⟩
      have S3 := RK.Same.upd (o := .lst (r.map V.str)) hp2
      generalize upd H2 p2 (.lst (r.map V.str)) = H3 at S3 hp3 ⊢
      have S4 := RK.Same.upd (o := .tup (r.map V.str)) hp3
      have e4 : (upd H3 p3 (.tup (r.map V.str))) p3 = _ := upd_same
      generalize upd H3 p3 (.tup (r.map V.str)) = H4 at S4 e4 ⊢
      have S14 := (S2.trans S3).trans S4
      have eD := S14 _ _ e1
      have ne : ∀ {b : Addr} {o : HO}, H4 b = some o → (∀ xs, o ≠ .lst xs) → b ≠ D := fun {b o} e n z => by
        rw [z, eD] at e
        cases e
        exact n _ rfl
      refine ⟨_, eD, ?_, rs ++ [(p3, r)], RK.Same.updAt (S1.trans S14) hD, ?_, ?_, ?_, ?_⟩
      · unfold refsOf
        rw [List.length_map]
        exact Nat.lt_of_lt_of_le (by omega : rs.length < 61) (by rw [sizeLine_eq]; omega)
      · rw [upd_same, refs_snoc]
      · refine rooms_snoc (fun q hq => ?_) ?_
        · rw [upd_ne (ne (S14 _ _ (hI q hq)) fun xs z => by cases z)]
          exact S14 _ _ (hI q hq)
        · rw [upd_ne (ne e4 fun xs z => by cases z)]
          exact e4
      · rw [List.length_append, hl]
        rfl
      · rw [rms_snoc]
        exact hR.add (by rw [rms_len, hl]; exact hp) hs
    · rintro H1 ⟨rs, S1, e1, hI, hl, hR⟩
      refine ⟨D, _, rfl, .inl ⟨SqL.of e1, fun p hp => ?_⟩⟩
      have S2 := RK.Same.upd (o := .tup (refsOf rs)) hp
      exact k p rs _ (S1.trans S2) upd_same (fun q hq => S2 _ _ (hI q hq)) hl hR
end
end K01


set_option Elab.async false
set_option linter.all false
set_option maxRecDepth 100000
set_option maxHeartbeats 8000000
/-! ten rooms, eleven; 24 outcomes, 25 -/
namespace K01
open PySem PySem.Spec PyProof.Rows L2 RK
abbrev sBounds : Stmt := topL 37
abbrev itsOf (rms : List Rm) : List Item := rms.map fun r => some (r.map some)
theorem items_in {K : PySem.W.Frag} {H : Hp} {rs : List (Addr × Rm)} (hI : RoomsIn H rs) (ok : ∀ r ∈ rmsOf rs, RoomOk r) : At2 (ItemAt K H) (refsOf rs) (itsOf (rmsOf rs)) := by
  unfold refsOf rmsOf itsOf
  rw [List.map_map]
  exact At2.map fun r hr => item_room (hI r hr) (ok r.2 (List.mem_map.mpr ⟨r, hr, rfl⟩))
def lettersS : Str := "abcdefghijklmnopqrstuvwxyz"
def qs : List Str := lettersS.cps.toList.map fun c => Str.ofString "q" ++ ⟨#[c]⟩
theorem qs_len : qs.length = 26 := by decide +kernel
theorem qs_nd : qs.Nodup := by decide +kernel
theorem qs_ok : ∀ x ∈ qs, NameOk x := by decide +kernel
def wordsOf (names : List Str) : List Str := names.take 23 ++ qs.filter fun x => decide (x ∉ names.take 23)
theorem filter_two (p : Str → Prop) [DecidablePred p] : ∀ l : List Str, l.length = (l.filter fun x => decide (p x)).length + (l.filter fun x => decide (¬ p x)).length
  | [] => rfl
  | x :: l => by
    have := filter_two p l
    by_cases h : p x
    · rw [List.filter_cons_of_pos (by simp [h]), List.filter_cons_of_neg (by simp [h]), List.length_cons, List.length_cons]
      omega
    · rw [List.filter_cons_of_neg (by simp [h]), List.filter_cons_of_pos (by simp [h]), List.length_cons, List.length_cons]
      omega
theorem words_ok {names : List Str} (hl : names.length = 24) (nd : names.Nodup) (hn : ∀ x ∈ names, NameOk x) : (wordsOf names).Nodup ∧ (∀ x ∈ wordsOf names, NameOk x) ∧ 26 ≤ (wordsOf names).length ∧ (wordsOf names).length ≤ 49 := by
  have l1 : (names.take 23).length = 23 := by rw [List.length_take]; omega
  have nd1 : (names.take 23).Nodup := List.Nodup.sublist (List.take_sublist _ _) nd
  have l2 := List.length_filter_le (fun x => decide (x ∉ names.take 23)) qs
  have l3 : (qs.filter fun x => decide (x ∈ names.take 23)).length ≤ 23 := by
    have := nodup_sub_len (S := qs.filter fun x => decide (x ∈ names.take 23)) (L := names.take 23) (List.Nodup.sublist List.filter_sublist qs_nd) fun x hx => of_decide_eq_true (List.mem_filter.mp hx).2
    omega
  have l4 := filter_two (fun x => x ∈ names.take 23) qs
  rw [qs_len] at l2 l4
  unfold wordsOf
  refine ⟨?_, fun x hx => ?_, by rw [List.length_append]; omega, by rw [List.length_append]; omega⟩
  · rw [List.nodup_append]
    refine ⟨nd1, List.Nodup.sublist List.filter_sublist qs_nd, fun a ha b hb e => ?_⟩
    exact of_decide_eq_true (List.mem_filter.mp hb).2 (e ▸ ha)
  · rcases List.mem_append.mp hx with hx | hx
    · exact hn x (List.mem_of_mem_take hx)
    · exact qs_ok x (List.mem_filter.mp hx).1
section
variable {ws : List Str} {s n : Nat} {rms : List Rm}
theorem Row.ok (R : Row ws s n rms) (nd : ws.Nodup) (hn : ∀ x ∈ ws, NameOk x) (h3 : 3 ≤ n) (h5 : n ≤ 5) (hl : ∀ i, i < rms.length → s * i + n ≤ ws.length) : ∀ r ∈ rms, RoomOk r := fun r hr => by
  obtain ⟨i, hi⟩ := List.mem_iff_getElem?.mp hr
  obtain ⟨hp, hs⟩ := R.at_ i r hi
  exact room_seg nd hn hp hs (hl i (List.getElem?_eq_some_iff.mp hi).1) h3 h5
theorem Row.one (R : Row ws s n rms) (nd : ws.Nodup) (hsn : n ≤ s + 1) : rms.Pairwise (fun r q => (common q r).length ≤ 1) := pair_of fun i j r q hij e1 e2 => by
  obtain ⟨hp, hs⟩ := R.at_ i r e1
  obtain ⟨hq, _⟩ := R.at_ j q e2
  have : s * (i + 1) ≤ s * j := Nat.mul_le_mul_left s hij
  rw [Nat.mul_succ] at this
  exact common_one nd (hq.nodup_iff.mpr (seg_nodup nd)) (fun x hx => hq.mem_iff.mp hx) (fun x hx => hp.mem_iff.mp hx) (.inr (by omega))
theorem Row.good (R : Row ws s n rms) (nd : ws.Nodup) (hn : ∀ x ∈ ws, NameOk x) (h3 : 3 ≤ n) (h5 : n ≤ 5) (hl : ∀ i, i < rms.length → s * i + n ≤ ws.length) (hsn : n ≤ s + 1) : Good (itsOf rms) rms := good_of (R.ok nd hn h3 h5 hl) (R.one nd hsn)
theorem Row.take (R : Row ws s n rms) (k : Nat) : Row ws s n (rms.take k) := ⟨fun i r e => by
  rw [List.getElem?_take] at e
  by_cases h : i < k
  · rw [if_pos h] at e
    exact R.at_ i r e
  · rw [if_neg h] at e
    cases e⟩
theorem outs_nd (rms : List Rm) : (outsOf rms).Nodup := nodup_firsts _
theorem Row.outs (R : Row ws s n rms) {N : Nat} (hN : ∀ i, i < rms.length → s * i + n ≤ N) : ∀ x ∈ outsOf rms, x ∈ seg ws 0 N := fun x hx => by
  obtain ⟨r, hr, hxr⟩ := mem_outsOf.mp hx
  obtain ⟨i, hi⟩ := List.mem_iff_getElem?.mp hr
  obtain ⟨hp, _⟩ := R.at_ i r hi
  obtain ⟨p, p1, p2, e⟩ := mem_seg.mp (hp.mem_iff.mp hxr)
  have := hN i (List.getElem?_eq_some_iff.mp hi).1
  exact mem_seg.mpr ⟨p, by omega, by omega, e⟩
theorem seg_le {a n : Nat} : (seg ws a n).length ≤ n := by unfold seg; rw [List.length_take]; omega
theorem chain_fine (R : Row ws 2 3 rms) (nd : ws.Nodup) (hn : ∀ x ∈ ws, NameOk x) (hl : 26 ≤ ws.length) (h10 : rms.length = 10) : FaultIs (some (itsOf rms)) none := by
  have hl' : ∀ i, i < rms.length → 2 * i + 3 ≤ ws.length := fun i hi => by omega
  refine .fine (R.good nd hn (by decide) (by decide) hl' (by decide)) ⟨by omega, R.ok nd hn (by decide) (by decide) hl', R.one nd (by decide), ?_⟩
  have := nodup_sub_len (outs_nd rms) (R.outs (N := 21) fun i hi => by omega)
  have := seg_le (ws := ws) (a := 0) (n := 21)
  omega
theorem full_many (R : Row ws 5 5 rms) (nd : ws.Nodup) (hn : ∀ x ∈ ws, NameOk x) (hl : 26 ≤ ws.length) (h5 : rms.length = 5) : FaultIs (some (itsOf rms)) (some 5) := by
  have hl' : ∀ i, i < rms.length → 5 * i + 5 ≤ ws.length := fun i hi => by omega
  have := FaultIs.many (its := itsOf rms) (rms := rms) (by unfold itsOf; rw [List.length_map]; omega) (R.good nd hn (by decide) (by decide) hl' (by decide)) (by
    have := nodup_sub_len (S := seg ws 0 25) (L := outsOf rms) (seg_nodup nd) fun x hx => by
      obtain ⟨p, _, p2, e⟩ := mem_seg.mp hx
      have hi : p / 5 < rms.length := by omega
      have eg : rms[p / 5]? = some rms[p / 5] := List.getElem?_eq_getElem hi
      exact mem_outsOf.mpr ⟨_, List.getElem_mem hi, (R.at_ _ _ eg).1.mem_iff.mpr (mem_seg.mpr ⟨p, by omega, by omega, e⟩)⟩
    rw [seg_len (by omega)] at this
    omega)
  rw [show (itsOf rms).length = 5 by unfold itsOf; rw [List.length_map]; exact h5] at this
  exact this
theorem full_less (R : Row ws 5 5 rms) (nd : ws.Nodup) (hn : ∀ x ∈ ws, NameOk x) (hl : 26 ≤ ws.length) (h5 : rms.length = 5) {r : Rm} (hr : rms[4]? = some r) : FaultIs (some (itsOf (rms.take 4 ++ [r.take 4]))) none := by
  have hl' : ∀ i, i < rms.length → 5 * i + 5 ≤ ws.length := fun i hi => by omega
  have ok := R.ok nd hn (by decide) (by decide) hl'
  have okr := ok r (List.mem_of_getElem? hr)
  obtain ⟨hp, _⟩ := R.at_ 4 r hr
  have lr : r.length = 5 := by rw [hp.length_eq, seg_len (by omega)]
  have R4 := R.take 4
  have l4 : (rms.take 4).length = 4 := by rw [List.length_take]; omega
  have ok' : ∀ q ∈ rms.take 4 ++ [r.take 4], RoomOk q := fun q hq => by
    rcases List.mem_append.mp hq with hq | hq
    · exact ok q (List.mem_of_mem_take hq)
    · rw [List.mem_singleton.mp hq]
      exact ⟨by rw [List.length_take]; omega, by rw [List.length_take]; omega, fun x hx => okr.2.2.1 x (List.mem_of_mem_take hx), List.Pairwise.sublist (List.take_sublist _ _) okr.2.2.2⟩
  have one' : (rms.take 4 ++ [r.take 4]).Pairwise (fun r q => (common q r).length ≤ 1) := by
    rw [List.pairwise_append]
    refine ⟨R4.one nd (by decide), List.pairwise_singleton _ _, fun q hq t ht => ?_⟩
    rw [List.mem_singleton.mp ht]
    obtain ⟨i, hi⟩ := List.mem_iff_getElem?.mp hq
    obtain ⟨hq2, _⟩ := R4.at_ i q hi
    have hil := (List.getElem?_eq_some_iff.mp hi).1
    exact common_one nd (List.Nodup.sublist (List.take_sublist _ _) okr.2.2.2.nodup) (fun x hx => hp.mem_iff.mp (List.mem_of_mem_take hx)) (fun x hx => hq2.mem_iff.mp hx) (.inr (by omega))
  refine .fine (good_of ok' one') ⟨by rw [List.length_append, l4]; show 1 ≤ 5 ∧ 5 ≤ 10; omega, ok', one', ?_⟩
  have := nodup_sub_len (L := seg ws 0 20 ++ r.take 4) (outs_nd (rms.take 4 ++ [r.take 4])) fun x hx => by
    obtain ⟨q, hq, hxq⟩ := mem_outsOf.mp hx
    rcases List.mem_append.mp hq with hq | hq
    · exact List.mem_append.mpr (.inl (R4.outs (N := 20) (fun i hi => by omega) x (mem_outsOf.mpr ⟨q, hq, hxq⟩)))
    · rw [List.mem_singleton.mp hq] at hxq
      exact List.mem_append.mpr (.inr hxq)
  rw [List.length_append, List.length_take] at this
  have := seg_le (ws := ws) (a := 0) (n := 20)
  omega
/-- a wrong item at the place i, right rooms before it -/
theorem fault_put (g : Good (itsOf rms) rms) {i : Nat} {it : Item} {rest : List Item} (hi : i ≤ rms.length) (hl : i + 1 + rest.length ≤ 10) (n : ¬ OkNext (rms.take i) it) : FaultIs (some ((itsOf rms).take i ++ [it] ++ rest)) (some (i : Int)) := by
  have lt : ((itsOf rms).take i).length = i := by rw [List.length_take]; unfold itsOf; rw [List.length_map]; omega
  refine .at_ (rms := rms.take i) (it := it) ?_ ?_ ?_ n
  · rw [List.length_append, List.length_append, lt, List.length_singleton]
    omega
  · rw [List.append_assoc, List.take_append_of_le_length (by omega), List.take_of_length_le (by omega)]
    exact g.take i
  · rw [List.append_assoc, List.getElem?_append_right (by omega), lt, Nat.sub_self]
    rfl
theorem not_next_none : ¬ OkNext rms none := fun ⟨r, e, _⟩ => by cases e
theorem rev_not {r : Rm} (ok : RoomOk r) : ¬ OkNext rms (some (r.reverse.map some)) := fun ⟨q, e, ro, _⟩ => by
  have e := some_inj (Option.some.inj e)
  subst e
  have h3 := ok.1
  have a1 := List.pairwise_iff_getElem.mp ok.2.2.2 0 (r.length - 1) (by omega) (by omega) (by omega)
  have a2 := List.pairwise_iff_getElem.mp ro.2.2.2 0 (r.length - 1) (by rw [List.length_reverse]; omega) (by rw [List.length_reverse]; omega) (by omega)
  rw [List.getElem_reverse, List.getElem_reverse] at a2
  have e1 : r[r.length - 1 - (r.length - 1)]'(by omega) = r[0]'(by omega) := by congr 1; omega
  have e2 : r[r.length - 1 - 0]'(by omega) = r[r.length - 1]'(by omega) := by congr 1
  rw [e1, e2] at a2
  exact ltS_irrefl _ (ltS_trans a1 a2)
end
theorem At2.drop {α β : Type} {P : α → β → Prop} {vs : List α} {as : List β} (h : At2 P vs as) (n : Nat) : At2 P (vs.drop n) (as.drop n) :=
  ⟨by rw [List.length_drop, List.length_drop, h.1], fun i v a e1 e2 => h.2 (n + i) v a (by rw [← List.getElem?_drop]; exact e1) (by rw [← List.getElem?_drop]; exact e2)⟩
theorem set_parts {xs : List V} {d : Nat} {v : V} (h : d < xs.length) : xs.set d v = xs.take d ++ [v] ++ xs.drop (d + 1) := by
  rw [List.set_eq_take_append_cons_drop, if_pos h, List.append_assoc]
  rfl
theorem told_is {K : PySem.W.Frag} {v : V} {val : Vl} {o : Option Int} {H : Hp} {Q : VK} {E : XK} (hv : ValAt K H v val) (hf : FaultIs val o) (c : ∀ H', L2.Same H H' → Q (optI o) H') : spToldA K [v] H Q E := ⟨v, val, rfl, hv, fun o' H' h S => by rw [fault_det h hf]; exact c H' S⟩
theorem nn : (!decide (optI none = V.non)) = false := by rw [show optI none = V.non from rfl, decide_eq_true rfl]; rfl
theorem ne_int {i : Int} : (!decide (optI (some i) = V.int i)) = false := by rw [show optI (some i) = V.int i from rfl, decide_eq_true rfl]; rfl
theorem small {n : Nat} (h : n ≤ 100) : n ≤ sizeLine := by rw [sizeLine_eq]; omega
theorem qs_at {i : Nat} {c : Nat} (h : lettersS.cps[i]? = some c) : qs[i]? = some (Str.ofString "q" ++ ⟨#[c]⟩) := by
  unfold qs
  rw [List.getElem?_map, Array.getElem?_toList, h]
  rfl
theorem qs_size : lettersS.cps.size = 26 := by decide +kernel
def spBounds : Sp := fun vs H Q _ => ∃ (h l Nm : Addr) (names : List Str), vs = [.ref h, .ref Nm] ∧ HeapAt H h l ∧ H Nm = some (.lst (names.map V.str)) ∧ Nm ≠ h ∧ Nm ≠ l ∧ names.length = 24 ∧ names.Nodup ∧ (∀ x ∈ names, NameOk x) ∧
  ∀ H', HeapAt H' h l → Kh h l H H' → Q (.bl true) H'
section
variable {P : Program} {w : World} {K : PySem.W.Frag} {mg : Str → Option Value} {base : Heap}
abbrev nBounds : List Str := ["heap", "names", "letters", "words", "full", "at", "many", "letter"]
theorem scBounds : FnScope nBounds ["heap", "names"] (defScope sBounds) := ⟨rfl, rfl, rfl, by decide +kernel, rfl, by decide +kernel, by decide +kernel⟩
theorem ok_bounds {f : Addr} {fd : FuncData} (F : Fun K "_law_bounds" "_law_bounds" sBounds f fd) (T : TCh mg) (c__law_draw : Cl P w K mg base CX0 1 "_law_draw" ["heap", "many"] spDraw) (c__law_chain : Cl P w K mg base CX0 1 "_law_chain" ["names", "many"] spChain) (c__law_told : Cl P w K mg base CX0 6 "_law_told" ["value"] (spToldA K)) :
    FnOk P w K mg base CX0 7 f fd ["heap", "names"] spBounds := by
  refine F.ok scBounds (fun vs H Q E h => ?_) (fun cdv A outer s H vs Q E hr h => ?_)
  · obtain ⟨h, l, Nm, names, rfl, _⟩ := h
    rfl
  · obtain ⟨h, l, Nm, names, rfl, hH, hN, nh, nl, n24, nd0, hn0, k⟩ := h
    refine ⟨_, (pss_cons (ps_set (i := 2) scBounds.nd rfl (Or.inl rfl) pe_str)
        (pss_cons (ps_set (i := 3) scBounds.nd rfl (Or.inr rfl) (pe_op op_cat (pe_slice sl_list (pv 1) po_none (po_some pe_int)) (pe_lc (own := [("letter", 7)]) (g := gName 7) rfl scBounds.nd (pi_str (pv 2)) (blkOk_by (N := nBounds) (sc := defScope sBounds) (by decide +kernel)) (fun _ _ _ _ _ => pg_name (i := 7) scBounds.nd rfl (Or.inl rfl)) (fun _ _ _ _ _ => (pts_one (pt_cmpR (r := rIn K true) op_notIn_seq (pe_op op_add_str pe_str (pv 7)) (pe_slice (r := rSlL K) sl_list (pv 1) po_none (po_some pe_int)) (by rfl)))) (fun _ _ _ _ _ => (pe_op op_add_str pe_str (pv 7))))))
        (pss_cons (ps_if (PW.pt (pw_or (pt_cmpR op_notN (pe_f c__law_told hr (by decide) pass0 (pa_cons (pe_f c__law_chain hr (by decide) pass0 (pa_cons (pv 3) (pa_cons pe_int pa_nil))) pa_nil)) pe_non (nomark _)) (pw_or1 (pt_cmpR op_ne (pe_f c__law_told hr (by decide) pass0 (pa_cons (pe_f c__law_chain hr (by decide) pass0 (pa_cons (pv 3) (pa_cons pe_int pa_nil))) pa_nil)) (pe_un un_neg pe_int) (nomark _))))) (pss_one (ps_ret pe_bl)) pss_nil)
        (pss_cons (ps_setLc (i := 4) (own := [("at", 5)]) (g := gName 5) (tt := tYes) rfl scBounds.nd rfl rfl (sw_true rfl rfl rfl (by decide +kernel)) (pi_range1 (by rfl) T.range (pa_cons pe_int pa_nil)) (blkOk_by (N := nBounds) (sc := defScope sBounds) (by decide +kernel)) (fun _ _ _ _ _ => pg_name (i := 5) scBounds.nd rfl (Or.inl rfl)) (fun _ _ _ _ _ => pts_nil) (fun _ _ _ _ _ => (pe_callTy (r := rTupOf K) call_tupK (by rfl) T.tuple boot_tuple (pa_cons (pe_callB (r := rSortedS K) cr_sortedS (by rfl) T.sorted (by decide +kernel) (pa_cons (pe_slice (r := rSlL K) sl_list (pv 3) (po_some (pe_op op_mul pe_int (pv 5))) (po_some (pe_op op_add (pe_op op_mul pe_int (pv 5)) pe_int))) pa_nil)) pa_nil))))
        (pss_cons (ps_if (PW.pt (pw_or (pt_cmpR op_ne (pe_f c__law_told hr (by decide) pass0 (pa_cons (pe_callTy call_tuple_of (by rfl) T.tuple boot_tuple (pa_cons (pv 4) pa_nil)) pa_nil)) pe_int (nomark _)) (pw_or1 (pt_cmpR op_notN (pe_f c__law_told hr (by decide) pass0 (pa_cons (pe_callTy call_tuple_of (by rfl) T.tuple boot_tuple (pa_cons (pe_op op_cat (pe_slice sl_list (pv 4) po_none (po_some pe_int)) (pe_lst (pa_cons (pe_slice sl_tupA (pe_ix (r := rIxL K) ix_list (pv 4) pe_int (fun _ _ => rfl)) po_none (po_some pe_int)) pa_nil))) pa_nil)) pa_nil)) pe_non (nomark _))))) (pss_one (ps_ret pe_bl)) pss_nil)
        (pss_cons (ps_set (i := 5) scBounds.nd rfl (Or.inl rfl) (pe_f c__law_draw hr (by decide) pass0 (pa_cons (pv 0) (pa_cons pe_int pa_nil))))
        (pss_cons (ps_asg (pe_revT (pe_ix (r := rIxL K) ix_list (pv 4) (pv 5) (fun _ _ => rfl))) (pg_sub (pv 4) (pv 5) set_list))
        (pss_cons (ps_set (i := 6) scBounds.nd rfl (Or.inl rfl) (pe_f c__law_chain hr (by decide) pass0 (pa_cons (pv 3) (pa_cons pe_int pa_nil))))
        (pss_cons (ps_if (PW.pt (pw_or (pt_cmpR op_ne (pe_f c__law_told hr (by decide) pass0 (pa_cons (pe_op op_catA (pe_op op_catA (pe_slice sl_tupA (pv 6) po_none (po_some (pv 5))) (pe_tup (pa_cons (pe_tup pa_nil) pa_nil))) (pe_slice sl_tupA (pv 6) (po_some (pe_op op_add (pv 5) pe_int)) po_none)) pa_nil)) (pe_un un_neg pe_int) (nomark _)) (pw_or1 (pt_cmpR op_ne (pe_f c__law_told hr (by decide) pass0 (pa_cons (pe_op op_catA (pe_op op_catA (pe_slice sl_tupA (pv 6) po_none (po_some (pv 5))) (pe_tup (pa_cons pe_non pa_nil))) (pe_slice sl_tupA (pv 6) (po_some (pe_op op_add (pv 5) pe_int)) (po_some pe_int))) pa_nil)) (pv 5) (nomark _))))) (pss_one (ps_ret pe_bl)) pss_nil)
        (pss_one (ps_ret (pe_cmpR op_eq (pe_f c__law_told hr (by decide) pass0 (pa_cons (pe_callTy call_tuple_of (by rfl) T.tuple boot_tuple (pa_cons (pv 4) pa_nil)) pa_nil)) (pv 5) (nomark _))))))))))))), ?_⟩
    have hnl : (names.map V.str).length = 24 := by rw [List.length_map]; exact n24
    obtain ⟨nd, hn, wl, wh⟩ := words_ok n24 nd0 hn0
    have c23 : cutV (names.map V.str) none (some 23) = (names.take 23).map V.str := (cutV_take (xs := names.map V.str) (n := 23)).trans (List.map_take ..).symm
    refine ⟨_, rfl, _, rfl, Nm, _, rfl, SqL.of hN, fun p1 hp1 => ?_⟩
    rw [c23]
    have S1 := RK.Same.upd (o := .lst ((names.take 23).map V.str)) hp1
    have e1 : (upd H p1 (.lst ((names.take 23).map V.str))) p1 = _ := upd_same
    generalize upd H p1 (.lst ((names.take 23).map V.str)) = H1 at S1 e1 ⊢
    refine ⟨_, rfl, lettersS, rfl, fun D0 hD0 => ?_⟩
    refine lc_it (walk_str (z := lettersS)) (fun i H' => L2.Same H1 H' ∧ H' D0 = some (.lst (((qs.take i).filter fun x => decide (x ∉ names.take 23)).map V.str))) ⟨RK.Same.upd hD0, upd_same⟩ (fun _ _ _ _ => trivial) ?_ ?_
    · rintro i v Ha Hb hi ⟨S, e⟩ ⟨rfl, c, hcz, rfl⟩
      have eq := qs_at hcz
      have il := (List.getElem?_eq_some_iff.mp eq).1
      rw [qs_len] at il
      have lz : (Str.ofString "q").length + (⟨#[c]⟩ : Str).length ≤ sizeLine := (by show 1 + 1 ≤ sizeLine; decide)
      have ef : (qs.take (i + 1)).filter (fun x => decide (x ∉ names.take 23)) = (qs.take i).filter (fun x => decide (x ∉ names.take 23)) ++ (if decide ((Str.ofString "q" ++ ⟨#[c]⟩ : Str) ∉ names.take 23) = true then [Str.ofString "q" ++ ⟨#[c]⟩] else []) := by
        rw [List.take_add_one (l := qs) (i := i), eq, List.filter_append]
        congr 1
        by_cases hh : (Str.ofString "q" ++ ⟨#[c]⟩ : Str) ∈ names.take 23 <;> simp [hh]
      have lf : (((qs.take i).filter fun x => decide (x ∉ names.take 23)).map V.str).length ≤ 26 := by
        rw [List.length_map]
        have := List.length_filter_le (fun x => decide (x ∉ names.take 23)) (qs.take i)
        have := List.length_take_le i qs
        omega
      refine ⟨rfl, _, rfl, _, _, rfl, rfl, lz, _, rfl, _, rfl, Nm, _, rfl, SqL.of (S _ _ (S1 _ _ hN)), fun p hp => ?_⟩
      rw [c23]
      have S2 := RK.Same.upd (o := .lst ((names.take 23).map V.str)) hp
      refine ⟨p, _, rfl, .inl (SqL.of upd_same), rfl, flat_strs _, _, rfl, ?_⟩
      rw [if_pos rfl, inV_str]
      refine ite_any (fun hb => ?_) (fun hb => ?_)
      · rw [if_pos (by rw [Bool.not_eq_true', decide_eq_false_iff_not] at hb; exact decide_eq_true hb)] at ef
        refine ⟨_, rfl, _, _, rfl, rfl, lz, _, S2 _ _ e, Nat.lt_of_le_of_lt lf (by decide), RK.Same.updAt (S.trans S2) hD0, ?_⟩
        rw [upd_same, ef, List.map_append]
        rfl
      · rw [if_neg (by rw [Bool.not_eq_true', decide_eq_false_iff_not, Classical.not_not] at hb; simp [hb]), List.append_nil] at ef
        exact ⟨S.trans S2, by rw [ef]; exact S2 _ _ e⟩
    rintro H2 ⟨S2, e2⟩
    rw [qs_size, ← qs_len, List.take_length] at e2
    have lf := List.length_filter_le (fun x => decide (x ∉ names.take 23)) qs
    rw [qs_len] at lf
    refine ⟨p1, D0, _, _, rfl, rfl, S2 _ _ e1, e2, small (by rw [List.length_map, List.length_map, List.length_take]; omega), fun W hW => ?_⟩
    have S02 := S1.trans S2
    obtain ⟨Wh, Wl⟩ := new_ne (hH.same S02) hW
    rw [← List.map_append, show (names.take 23 ++ qs.filter fun x => decide (x ∉ names.take 23)) = wordsOf names from rfl]
    have S3 := RK.Same.upd (o := .lst ((wordsOf names).map V.str)) hW
    have eW : (upd H2 W (.lst ((wordsOf names).map V.str))) W = _ := upd_same
    have Sw := S02.trans S3
    generalize upd H2 W (.lst ((wordsOf names).map V.str)) = H3 at S3 eW Sw ⊢
    generalize wordsOf names = ws at nd hn wl wh eW
    clear S1 S2 S02 S3 e1 e2 hD0 hp1 hW c23
    have val1 : ∀ {H' : Hp} {p : Addr} {rs : List (Addr × Rm)}, H' p = some (.tup (refsOf rs)) → RoomsIn H' rs → (∀ r ∈ rmsOf rs, RoomOk r) → rs.length ≤ 20 → ValAt K H' (.ref p) (some (itsOf (rmsOf rs))) :=
      fun {H' p rs} ep hI ok hl => val_of ep (by unfold refsOf; rw [List.length_map]; omega) (items_in hI ok)
    have hl2 : ∀ {rs : List (Addr × Rm)}, rs.length ≤ 11 → ∀ i, i < (rmsOf rs).length → 2 * i + 3 ≤ ws.length := fun {rs} h i hi => by rw [rms_len] at hi; omega
    have hl5 : ∀ {rs : List (Addr × Rm)}, rs.length ≤ 5 → ∀ i, i < (rmsOf rs).length → 5 * i + 5 ≤ ws.length := fun {rs} h i hi => by rw [rms_len] at hi; omega
    refine ⟨_, rfl, W, ws, 10, rfl, eW, by omega, by decide, fun p4 rs4 H4 S4 ep4 hI4 l4 R4 => ⟨.ref p4, _, rfl, val1 ep4 hI4 (R4.ok nd hn (by decide) (by decide) (hl2 (by omega))) (by omega), fun o H5 hf S5 => ?_⟩⟩
    obtain rfl := fault_det hf (chain_fine R4 nd hn wl (by rw [rms_len]; exact l4))
    refine ⟨rfl, _, rfl, ?_⟩
    rw [nn]
    refine iteF ⟨_, rfl, W, ws, 11, rfl, (S4.trans S5) _ _ eW, by omega, by decide, fun p6 rs6 H6 S6 ep6 hI6 l6 R6 => ⟨.ref p6, _, rfl, val1 ep6 hI6 (R6.ok nd hn (by decide) (by decide) (hl2 (by omega))) (by omega), fun o H7 hf S7 => ?_⟩⟩
    obtain rfl := fault_det hf (.shape (.inr (by rw [List.length_map, rms_len]; omega)))
    refine ⟨1, rfl, rfl, _, rfl, ?_⟩
    rw [ne_int]
    refine iteF ?_
    have S37 := ((S4.trans S5).trans S6).trans S7
    have Sw := Sw.trans S37
    have eW := S37 _ _ eW
    clear S37 S4 S5 S6 S7 ep4 hI4 l4 R4 ep6 hI6 l6 R6 hf
    -- full
    refine ⟨5, rfl, by decide, by decide, fun D hD => ?_⟩
    refine lc_range (lo := 0) (fun i H' => ∃ rs : List (Addr × Rm), L2.Same H7 H' ∧ H' D = some (.lst (refsOf rs)) ∧ RoomsIn H' rs ∧ rs.length = i ∧ Row ws 5 5 (rmsOf rs)) ⟨[], RK.Same.upd hD, upd_same, fun r hr => absurd hr List.not_mem_nil, rfl, Row.nil⟩ ?_ ?_
    · rintro i H1 hi ⟨rs, S1, e1, hI, hl, hR⟩
      refine ⟨rfl, ?_⟩
      unfold tYes
      refine iteT ⟨_, rfl, _, rfl, 5, _, rfl, rfl, .inl ⟨by decide, by decide⟩, _, rfl, _, rfl, 5, _, rfl, rfl, .inl ⟨by decide, by decide⟩, _, _, rfl, rfl, _, rfl, W, _, rfl, SqL.of (S1 _ _ eW), fun p1 hp1 => ?_⟩
      have es : cutV (ws.map V.str) (some (5 * (0 + (i : Int)))) (some (5 * (0 + (i : Int)) + 5)) = (seg ws (5 * i) 5).map V.str := by
        rw [show (5 * (0 + (i : Int)) : Int) = ((5 * i : Nat) : Int) by omega, show (((5 * i : Nat) : Int) + 5 : Int) = ((5 * i + 5 : Nat) : Int) by omega, cutV_seg, show 5 * i + 5 - 5 * i = 5 by omega]
        exact seg_strs
      rw [es]
      have l3 := seg_le (ws := ws) (a := 5 * i) (n := 5)
      have S2 := RK.Same.upd (o := .lst ((seg ws (5 * i) 5).map V.str)) hp1
      have e2 : (upd H1 p1 (.lst ((seg ws (5 * i) 5).map V.str))) p1 = _ := upd_same
      generalize upd H1 p1 (.lst ((seg ws (5 * i) 5).map V.str)) = H2 at S2 e2 ⊢
      refine ⟨p1, _, rfl, SqL.of e2, by omega, fun r p2 hp hs hp2 => ⟨p2, _, rfl, .inl ⟨SqL.of upd_same, fun p3 hp3 => ?_⟩⟩⟩
      have S3 := RK.Same.upd (o := .lst (r.map V.str)) hp2
      generalize upd H2 p2 (.lst (r.map V.str)) = H3 at S3 hp3 ⊢
      have S4 := RK.Same.upd (o := .tup (r.map V.str)) hp3
      have e4 : (upd H3 p3 (.tup (r.map V.str))) p3 = _ := upd_same
      generalize upd H3 p3 (.tup (r.map V.str)) = H4 at S4 e4 ⊢
      have S14 := (S2.trans S3).trans S4
      have eD := S14 _ _ e1
      have ne : ∀ {b : Addr} {o : HO}, H4 b = some o → (∀ xs, o ≠ .lst xs) → b ≠ D := fun {b o} e n z => by
        rw [z, eD] at e
        cases e
        exact n _ rfl
      refine ⟨_, eD, ?_, rs ++ [(p3, r)], RK.Same.updAt (S1.trans S14) hD, ?_, ?_, ?_, ?_⟩
      · unfold refsOf
        rw [List.length_map]
        exact Nat.lt_of_lt_of_le (by omega : rs.length < 61) (by rw [sizeLine_eq]; omega)
      · rw [upd_same, refs_snoc]
      · refine rooms_snoc (fun q hq => ?_) ?_
        · rw [upd_ne (ne (S14 _ _ (hI q hq)) fun xs z => by cases z)]
          exact S14 _ _ (hI q hq)
        · rw [upd_ne (ne e4 fun xs z => by cases z)]
          exact e4
      · rw [List.length_append, hl]
        rfl
      · rw [rms_snoc]
        exact hR.add (by rw [rms_len, hl]; exact hp) hs
    rintro H8 ⟨rs, S8, eD, hI, l5, R5⟩
    have l5 : rs.length = 5 := l5
    obtain ⟨Dh, Dl⟩ := new_ne (hH.same Sw) hD
    have hHD : H D = none := by
      cases e : H D with
      | none => rfl
      | some o => rw [Sw _ _ e] at hD; cases hD
    have WD : W ≠ D := fun z => by rw [z, hD] at eW; cases eW
    have Sw := Sw.trans S8
    have eW := S8 _ _ eW
    have ok5 := R5.ok nd hn (by decide) (by decide) (hl5 (by omega))
    have g5 := R5.good nd hn (by decide) (by decide) (hl5 (by omega)) (by decide)
    have lr5 : (refsOf rs).length = 5 := by unfold refsOf; rw [List.length_map]; exact l5
    have li5 : (itsOf (rmsOf rs)).length = 5 := by rw [List.length_map, rms_len]; exact l5
    refine ⟨_, rfl, D, _, rfl, .inl ⟨SqL.of eD, fun p9 hp9 => ?_⟩⟩
    have S9 := RK.Same.upd (o := .tup (refsOf rs)) hp9
    refine ⟨.ref p9, _, rfl, val1 upd_same (fun q hq => S9 _ _ (hI q hq)) ok5 (by omega), fun o H10 hf S10 => ?_⟩
    obtain rfl := fault_det hf (full_many R5 nd hn wl (by rw [rms_len]; exact l5))
    refine ⟨rfl, _, rfl, ?_⟩
    rw [ne_int]
    refine iteF ?_
    have S810 := S9.trans S10
    have eD := S810 _ _ eD
    have eW := S810 _ _ eW
    have Sw := Sw.trans S810
    have hI : RoomsIn H10 rs := fun q hq => S810 _ _ (hI q hq)
    clear S9 S10 hp9 S8 S810 hD
    obtain ⟨r4, hr4⟩ : ∃ r, rs[4]? = some r := ⟨_, List.getElem?_eq_getElem (by omega)⟩
    have hm4 : r4 ∈ rs := List.mem_of_getElem? hr4
    have hr4' : (rmsOf rs)[4]? = some r4.2 := by unfold rmsOf; rw [List.getElem?_map, hr4]; rfl
    have ok4 : RoomOk r4.2 := ok5 r4.2 (List.mem_map.mpr ⟨r4, hm4, rfl⟩)
    have er4 := hI r4 hm4
    have c4 : cutV (refsOf rs) none (some 4) = (refsOf rs).take 4 := cutV_take (n := 4)
    have c4r : cutV (r4.2.map V.str) none (some 4) = (r4.2.take 4).map V.str := (cutV_take (xs := r4.2.map V.str) (n := 4)).trans (List.map_take ..).symm
    refine ⟨_, rfl, _, rfl, D, _, rfl, SqL.of eD, fun p1 hp1 => ?_⟩
    rw [c4]
    have S1 := RK.Same.upd (o := .lst ((refsOf rs).take 4)) hp1
    have e1 : (upd H10 p1 (.lst ((refsOf rs).take 4))) p1 = _ := upd_same
    generalize upd H10 p1 (.lst ((refsOf rs).take 4)) = H11 at S1 e1 ⊢
    refine ⟨_, rfl, D, _, _, _, rfl, rfl, SqL.of (S1 _ _ eD), at_of (by rfl : (4 : Int) = ((4 : Nat) : Int)) (refs_get hr4), _, rfl, slA_all (S1 _ _ er4) fun p2 H12 S2 e2 => ⟨(by show 1 ≤ sizeLine; decide), fun p3 hp3 => ?_⟩⟩
    rw [c4r] at e2
    have S3 := RK.Same.upd (o := .lst [V.ref p2]) hp3
    refine ⟨p1, p3, _, _, rfl, rfl, (S2.trans S3) _ _ e1, upd_same, small (by rw [List.length_take]; show min 4 (refsOf rs).length + 1 ≤ 100; omega), fun p5 hp5 => ⟨p5, _, rfl, .inl ⟨SqL.of upd_same, fun p6 hp6 => ?_⟩⟩⟩
    have S5 := RK.Same.upd (o := .lst ((refsOf rs).take 4 ++ [V.ref p2])) hp5
    have S6 := RK.Same.upd (o := .tup ((refsOf rs).take 4 ++ [V.ref p2])) hp6
    have e6 : (upd (upd (upd H12 p3 (.lst [V.ref p2])) p5 (.lst ((refsOf rs).take 4 ++ [V.ref p2]))) p6 (.tup ((refsOf rs).take 4 ++ [V.ref p2]))) p6 = _ := upd_same
    have e2 := ((S3.trans S5).trans S6) _ _ e2
    have SS := (((S1.trans S2).trans S3).trans S5).trans S6
    generalize upd (upd (upd H12 p3 (.lst [V.ref p2])) p5 (.lst ((refsOf rs).take 4 ++ [V.ref p2]))) p6 (.tup ((refsOf rs).take 4 ++ [V.ref p2])) = H13 at e6 e2 SS ⊢
    refine ⟨.ref p6, some ((itsOf (rmsOf rs)).take 4 ++ [some ((r4.2.take 4).map some)]), rfl, val_of e6 (by rw [List.length_append, List.length_take]; show min 4 (refsOf rs).length + 1 ≤ 1000; omega) (((items_in (fun q hq => SS _ _ (hI q hq)) ok5).take 4).app (At2.one (item_row e2 (by rw [List.length_take]; omega) fun x hx => by have := (ok4.2.2.1 x (List.mem_of_mem_take hx)).2.1; omega))), fun o H14 hf S14 => ?_⟩
    obtain rfl := fault_det hf (by
      have := full_less R5 nd hn wl (by rw [rms_len]; exact l5) hr4'
      unfold itsOf at this ⊢
      rw [List.map_append, List.map_take] at this
      exact this)
    refine ⟨rfl, _, rfl, ?_⟩
    rw [nn]
    refine iteF ?_
    have SS := SS.trans S14
    have eD := SS _ _ eD
    have eW := SS _ _ eW
    have Sw := Sw.trans SS
    have hI : RoomsIn H14 rs := fun q hq => SS _ _ (hI q hq)
    clear S1 S2 S3 S5 S6 S14 SS e1 e2 e6 hp1 hp3 hp5 hp6 hf er4
    -- the draw
    refine ⟨_, rfl, h, l, 5, rfl, hH.same Sw, by decide, by decide, fun d H15 hd hH15 k15 => ?_⟩
    have hd : d < 5 := by omega
    have L15 := Ls.kh (hH.same Sw) hH15 k15
    have eD := k15 _ _ eD Dh Dl
    have eW := k15 _ _ eW Wh Wl
    have hI : RoomsIn H15 rs := fun q hq => L15.tup (hI q hq)
    have k015 := (Kh.of Sw).trans k15
    obtain ⟨rd, hrd⟩ : ∃ r, rs[d]? = some r := ⟨_, List.getElem?_eq_getElem (by omega)⟩
    have hmd : rd ∈ rs := List.mem_of_getElem? hrd
    have okd : RoomOk rd.2 := ok5 rd.2 (List.mem_map.mpr ⟨rd, hmd, rfl⟩)
    refine ⟨_, rfl, _, rfl, D, _, _, _, rfl, rfl, SqL.of eD, atI_nat (refs_get hrd), rd.1, _, rfl, SqT.of (hI rd hmd), fun p hp => ⟨_, rfl, _, rfl, D, _, d, d, rfl, rfl, RK.Same.upd hp _ _ eD, ixN_nat (by omega), ?_⟩⟩
    have pD : p ≠ D := fun z => by rw [z, eD] at hp; cases hp
    have Sp := RK.Same.upd (o := .tup (rd.2.map V.str).reverse) hp
    have Lp := Ls.upd (ys := (refsOf rs).set d (V.ref p)) (Sp _ _ eD)
    have hH16 := heap_other (o := .lst ((refsOf rs).set d (V.ref p))) (hH15.same Sp) Dh Dl
    have ep : (upd (upd H15 p (.tup (rd.2.map V.str).reverse)) D (.lst ((refsOf rs).set d (V.ref p)))) p = some (.tup (rd.2.reverse.map V.str)) := by
      rw [upd_ne pD, upd_same, List.map_reverse]
    have eD16 : (upd (upd H15 p (.tup (rd.2.map V.str).reverse)) D (.lst ((refsOf rs).set d (V.ref p)))) D = _ := upd_same
    have eW : (upd (upd H15 p (.tup (rd.2.map V.str).reverse)) D (.lst ((refsOf rs).set d (V.ref p)))) W = _ := (upd_ne WD).trans (Sp _ _ eW)
    have hI : RoomsIn (upd (upd H15 p (.tup (rd.2.map V.str).reverse)) D (.lst ((refsOf rs).set d (V.ref p)))) rs := fun q hq => Lp.tup (Sp _ _ (hI q hq))
    have k016 : Kh h l H (upd (upd H15 p (.tup (rd.2.map V.str).reverse)) D (.lst ((refsOf rs).set d (V.ref p)))) := fun c o e n1 n2 => by
      rw [upd_ne (ne_of_none e hHD)]
      exact Sp _ _ (k015 c o e n1 n2)
    generalize upd (upd H15 p (.tup (rd.2.map V.str).reverse)) D (.lst ((refsOf rs).set d (V.ref p))) = H16 at hH16 ep eD16 eW hI k016 ⊢
    rw [set_parts (by omega)] at eD16
    clear Lp Sp hp L15 k015 k15 hH15 eD
    refine ⟨_, rfl, W, ws, 11, rfl, eW, by omega, by decide, fun pm rm H17 S17 em hIm lm RR => ?_⟩
    have okm := RR.ok nd hn (by decide) (by decide) (hl2 (by omega))
    have gm := RR.good nd hn (by decide) (by decide) (hl2 (by omega)) (by decide)
    have lrm : (refsOf rm).length = 11 := by unfold refsOf; rw [List.length_map]; exact lm
    have lim : (itsOf (rmsOf rm)).length = 11 := by rw [List.length_map, rms_len]; exact lm
    have ed1 : ((d : Int) + 1 : Int) = ((d + 1 : Nat) : Int) := by omega
    refine ⟨_, rfl, _, rfl, _, rfl, slA_all em fun p1 H18 S18 e18 => ⟨(by show 0 ≤ sizeLine; decide), fun q hq => ⟨(by show 1 ≤ sizeLine; decide), fun q2 hq2 => ?_⟩⟩⟩
    rw [cutV_take] at e18
    have Sq := RK.Same.upd (o := .tup []) hq
    have eq : (upd H18 q (.tup [])) q = some (.tup (([] : Rm).map V.str)) := upd_same
    have Sq2 := RK.Same.upd (o := .tup [V.ref q]) hq2
    refine catA_all (Sq2 _ _ (Sq _ _ e18)) upd_same (small (by rw [List.length_take]; show min d _ + 1 ≤ 100; omega)) fun p3 H19 S19 e19 => ?_
    have S1819 := (Sq.trans Sq2).trans S19
    have eq := (Sq2.trans S19) _ _ eq
    clear Sq Sq2 hq hq2
    refine ⟨_, rfl, _, rfl, _, _, rfl, rfl, _, rfl, ?_⟩
    dsimp only [tNoPart]
    rw [ed1]
    refine slA_all (S1819 _ _ (S18 _ _ em)) fun p4 H20 S20 e20 => ?_
    rw [cutV_drop] at e20
    refine catA_all (S20 _ _ e19) e20 (small (by rw [List.length_append, List.length_take, List.length_drop]; show min d _ + 1 + _ ≤ 100; omega)) fun p5 H21 S21 e21 => ?_
    have S1721 := ((S18.trans S1819).trans S20).trans S21
    have itm := items_in (K := K) (H := H21) (fun q hq => S1721 _ _ (hIm q hq)) okm
    refine ⟨.ref p5, some ((itsOf (rmsOf rm)).take d ++ [some (([] : Rm).map some)] ++ (itsOf (rmsOf rm)).drop (d + 1)), rfl, val_of e21 (by rw [List.length_append, List.length_append, List.length_take, List.length_drop]; show min d _ + 1 + _ ≤ 1000; omega) (((itm.take d).app (At2.one (item_row ((S20.trans S21) _ _ eq) (Nat.zero_le _) fun x hx => absurd hx List.not_mem_nil))).app (itm.drop (d + 1))), fun o H22 hf S22 => ?_⟩
    obtain rfl := fault_det hf (.shape (.inr (by rw [List.length_append, List.length_append, List.length_take, List.length_drop, lim]; show 10 < min d 11 + 1 + (11 - (d + 1)); omega)))
    refine ⟨1, rfl, rfl, _, rfl, ?_⟩
    rw [ne_int]
    have S1722 := S1721.trans S22
    have em := S1722 _ _ em
    have hIm : RoomsIn H22 rm := fun q hq => S1722 _ _ (hIm q hq)
    have S1622 := S17.trans S1722
    clear S17 S18 S1819 S19 S20 S21 S22 S1721 S1722 e18 e19 e20 e21 eq itm hf
    refine iteF ⟨_, rfl, _, rfl, _, rfl, slA_all em fun p1 H18 S18 e18 => ⟨(by show 1 ≤ sizeLine; decide), fun q2 hq2 => ?_⟩⟩
    rw [cutV_take] at e18
    have Sq2 := RK.Same.upd (o := .tup [V.non]) hq2
    refine catA_all (Sq2 _ _ e18) upd_same (small (by rw [List.length_take]; show min d _ + 1 ≤ 100; omega)) fun p3 H19 S19 e19 => ?_
    have S1819 := Sq2.trans S19
    refine ⟨_, rfl, _, rfl, _, _, rfl, rfl, _, rfl, _, rfl, ?_⟩
    rw [ed1]
    refine slA_all (S1819 _ _ (S18 _ _ em)) fun p4 H20 S20 e20 => ?_
    rw [show cutV (refsOf rm) (some ((d + 1 : Nat) : Int)) (some 10) = ((refsOf rm).drop (d + 1)).take (10 - (d + 1)) from cutV_seg (b := 10)] at e20
    refine catA_all (S20 _ _ e19) e20 (small (by rw [List.length_append, List.length_take, List.length_take, List.length_drop]; show min d _ + 1 + _ ≤ 100; omega)) fun p5 H21 S21 e21 => ?_
    have S1721 := ((S18.trans S1819).trans S20).trans S21
    have itm := items_in (K := K) (H := H21) (fun q hq => S1721 _ _ (hIm q hq)) okm
    refine ⟨.ref p5, some ((itsOf (rmsOf rm)).take d ++ [none] ++ ((itsOf (rmsOf rm)).drop (d + 1)).take (10 - (d + 1))), rfl, val_of e21 (by rw [List.length_append, List.length_append, List.length_take, List.length_take, List.length_drop]; show min d _ + 1 + _ ≤ 1000; omega) (((itm.take d).app (At2.one (.inr ⟨rfl, "NoneType", .base .non, by decide +kernel⟩))).app ((itm.drop (d + 1)).take (10 - (d + 1)))), fun o H23 hf S23 => ?_⟩
    obtain rfl := fault_det hf (fault_put gm (i := d) (by rw [rms_len]; omega) (by rw [List.length_take, List.length_drop, lim]; omega) not_next_none)
    refine ⟨_, rfl, rfl, _, rfl, ?_⟩
    rw [ne_int]
    have S1623 := (S1622.trans S1721).trans S23
    clear S18 S1819 S19 S20 S21 e18 e19 e20 e21 itm hf S1721 S23 Sq2 hq2
    refine iteF ?_
    refine ⟨_, rfl, D, _, rfl, .inl ⟨SqL.of (S1623 _ _ eD16), fun p8 hp8 => ?_⟩⟩
    have S8 := RK.Same.upd (o := .tup ((refsOf rs).take d ++ [V.ref p] ++ (refsOf rs).drop (d + 1))) hp8
    have S168 := S1623.trans S8
    have itf := items_in (K := K) (fun q hq => S168 _ _ (hI q hq)) ok5
    refine ⟨.ref p8, some ((itsOf (rmsOf rs)).take d ++ [some (rd.2.reverse.map some)] ++ (itsOf (rmsOf rs)).drop (d + 1)), rfl, val_of upd_same (by rw [List.length_append, List.length_append, List.length_take, List.length_drop]; show min d _ + 1 + _ ≤ 1000; omega) (((itf.take d).app (At2.one (item_row (S168 _ _ ep) (by rw [List.length_reverse]; have := okd.2.1; omega) fun x hx => by have := (okd.2.2.1 x (List.mem_reverse.mp hx)).2.1; omega))).app (itf.drop (d + 1))), fun o H24 hf S24 => ?_⟩
    obtain rfl := fault_det hf (fault_put g5 (i := d) (by rw [rms_len]; omega) (by rw [List.length_drop, li5]; omega) (rev_not okd))
    refine ⟨_, rfl, rfl, ?_⟩
    rw [show decide (optI (some (d : Int)) = V.int (d : Nat)) = true from decide_eq_true rfl]
    have S1624 := S168.trans S24
    exact k H24 (hH16.same S1624) (k016.trans (Kh.of S1624))
end
end K01


set_option Elab.async false
set_option linter.all false
set_option maxRecDepth 100000
set_option maxHeartbeats 8000000
/-! the errors -/
namespace K01
open PySem PySem.Spec PyProof.Rows L2 RK
abbrev sErrs : Stmt := topL 38
abbrev sIni0 : Stmt := inClass (top 3) 0
abbrev sIni1 : Stmt := inClass (top 4) 0
abbrev sIni2 : Stmt := inClass (top 5) 0
abbrev sIni3 : Stmt := inClass (top 7) 0
abbrev sIni4 : Stmt := inClass (top 8) 0
abbrev sIni5 : Stmt := inClass (top 9) 0
abbrev sIni6 : Stmt := inClass (top 10) 0
abbrev sIni8 : Stmt := inClass (top 12) 0
abbrev sIni9 : Stmt := inClass (top 6) 0
def spErrs : Sp := fun vs H Q _ => ∃ (n : Nat), vs = [.int (n : Int)] ∧ ∀ H', L2.Same H H' → Q (.bl true) H'
section
variable {P : Program} {w : World} {K : PySem.W.Frag} {mg : Str → Option Value} {base : Heap}
theorem scIni0 : FnScope ["self", "at"] ["self", "at"] (defScope sIni0) := ⟨rfl, rfl, rfl, by decide +kernel, rfl, by decide +kernel, by decide +kernel⟩
theorem ok_ini0 {f : Addr} {fd : FuncData} (F : Fun K "__init__" "InvalidBook.__init__" sIni0 f fd) : FnOk P w K mg base CX0 1 f fd ["self", "at"] (spIni K "at") := by
  refine F.ok scIni0 (fun vs H Q E h => ?_) (fun cdv A outer s H vs Q E hr h => ?_)
  · obtain ⟨a, C, w, rfl, _⟩ := h
    rfl
  · obtain ⟨a, C, w, rfl, T, no, ha, k⟩ := h
    refine ⟨_, pss_one (ps_ost (pv 0) (pv 1)), ?_⟩
    exact ⟨_, rfl, _, rfl, a, C, rfl, T, no, .inl ⟨ha, fun dx h1 h2 => k dx h1 h2⟩⟩
theorem scIni1 : FnScope ["self", "at"] ["self", "at"] (defScope sIni1) := ⟨rfl, rfl, rfl, by decide +kernel, rfl, by decide +kernel, by decide +kernel⟩
theorem ok_ini1 {f : Addr} {fd : FuncData} (F : Fun K "__init__" "InvalidText.__init__" sIni1 f fd) : FnOk P w K mg base CX0 1 f fd ["self", "at"] (spIni K "at") := by
  refine F.ok scIni1 (fun vs H Q E h => ?_) (fun cdv A outer s H vs Q E hr h => ?_)
  · obtain ⟨a, C, w, rfl, _⟩ := h
    rfl
  · obtain ⟨a, C, w, rfl, T, no, ha, k⟩ := h
    refine ⟨_, pss_one (ps_ost (pv 0) (pv 1)), ?_⟩
    exact ⟨_, rfl, _, rfl, a, C, rfl, T, no, .inl ⟨ha, fun dx h1 h2 => k dx h1 h2⟩⟩
theorem scIni2 : FnScope ["self", "at"] ["self", "at"] (defScope sIni2) := ⟨rfl, rfl, rfl, by decide +kernel, rfl, by decide +kernel, by decide +kernel⟩
theorem ok_ini2 {f : Addr} {fd : FuncData} (F : Fun K "__init__" "InvalidSaying.__init__" sIni2 f fd) : FnOk P w K mg base CX0 1 f fd ["self", "at"] (spIni K "at") := by
  refine F.ok scIni2 (fun vs H Q E h => ?_) (fun cdv A outer s H vs Q E hr h => ?_)
  · obtain ⟨a, C, w, rfl, _⟩ := h
    rfl
  · obtain ⟨a, C, w, rfl, T, no, ha, k⟩ := h
    refine ⟨_, pss_one (ps_ost (pv 0) (pv 1)), ?_⟩
    exact ⟨_, rfl, _, rfl, a, C, rfl, T, no, .inl ⟨ha, fun dx h1 h2 => k dx h1 h2⟩⟩
theorem scIni3 : FnScope ["self", "at"] ["self", "at"] (defScope sIni3) := ⟨rfl, rfl, rfl, by decide +kernel, rfl, by decide +kernel, by decide +kernel⟩
theorem ok_ini3 {f : Addr} {fd : FuncData} (F : Fun K "__init__" "InvalidRing.__init__" sIni3 f fd) : FnOk P w K mg base CX0 1 f fd ["self", "at"] (spIni K "at") := by
  refine F.ok scIni3 (fun vs H Q E h => ?_) (fun cdv A outer s H vs Q E hr h => ?_)
  · obtain ⟨a, C, w, rfl, _⟩ := h
    rfl
  · obtain ⟨a, C, w, rfl, T, no, ha, k⟩ := h
    refine ⟨_, pss_one (ps_ost (pv 0) (pv 1)), ?_⟩
    exact ⟨_, rfl, _, rfl, a, C, rfl, T, no, .inl ⟨ha, fun dx h1 h2 => k dx h1 h2⟩⟩
theorem scIni4 : FnScope ["self", "at"] ["self", "at"] (defScope sIni4) := ⟨rfl, rfl, rfl, by decide +kernel, rfl, by decide +kernel, by decide +kernel⟩
theorem ok_ini4 {f : Addr} {fd : FuncData} (F : Fun K "__init__" "InvalidWeight.__init__" sIni4 f fd) : FnOk P w K mg base CX0 1 f fd ["self", "at"] (spIni K "at") := by
  refine F.ok scIni4 (fun vs H Q E h => ?_) (fun cdv A outer s H vs Q E hr h => ?_)
  · obtain ⟨a, C, w, rfl, _⟩ := h
    rfl
  · obtain ⟨a, C, w, rfl, T, no, ha, k⟩ := h
    refine ⟨_, pss_one (ps_ost (pv 0) (pv 1)), ?_⟩
    exact ⟨_, rfl, _, rfl, a, C, rfl, T, no, .inl ⟨ha, fun dx h1 h2 => k dx h1 h2⟩⟩
theorem scIni5 : FnScope ["self", "at"] ["self", "at"] (defScope sIni5) := ⟨rfl, rfl, rfl, by decide +kernel, rfl, by decide +kernel, by decide +kernel⟩
theorem ok_ini5 {f : Addr} {fd : FuncData} (F : Fun K "__init__" "InvalidLook.__init__" sIni5 f fd) : FnOk P w K mg base CX0 1 f fd ["self", "at"] (spIni K "at") := by
  refine F.ok scIni5 (fun vs H Q E h => ?_) (fun cdv A outer s H vs Q E hr h => ?_)
  · obtain ⟨a, C, w, rfl, _⟩ := h
    rfl
  · obtain ⟨a, C, w, rfl, T, no, ha, k⟩ := h
    refine ⟨_, pss_one (ps_ost (pv 0) (pv 1)), ?_⟩
    exact ⟨_, rfl, _, rfl, a, C, rfl, T, no, .inl ⟨ha, fun dx h1 h2 => k dx h1 h2⟩⟩
theorem scIni6 : FnScope ["self", "word"] ["self", "word"] (defScope sIni6) := ⟨rfl, rfl, rfl, by decide +kernel, rfl, by decide +kernel, by decide +kernel⟩
theorem ok_ini6 {f : Addr} {fd : FuncData} (F : Fun K "__init__" "InvalidNumber.__init__" sIni6 f fd) : FnOk P w K mg base CX0 1 f fd ["self", "word"] (spIni K "word") := by
  refine F.ok scIni6 (fun vs H Q E h => ?_) (fun cdv A outer s H vs Q E hr h => ?_)
  · obtain ⟨a, C, w, rfl, _⟩ := h
    rfl
  · obtain ⟨a, C, w, rfl, T, no, ha, k⟩ := h
    refine ⟨_, pss_one (ps_ost (pv 0) (pv 1)), ?_⟩
    exact ⟨_, rfl, _, rfl, a, C, rfl, T, no, .inl ⟨ha, fun dx h1 h2 => k dx h1 h2⟩⟩
theorem scIni8 : FnScope ["self", "word"] ["self", "word"] (defScope sIni8) := ⟨rfl, rfl, rfl, by decide +kernel, rfl, by decide +kernel, by decide +kernel⟩
theorem ok_ini8 {f : Addr} {fd : FuncData} (F : Fun K "__init__" "Refused.__init__" sIni8 f fd) : FnOk P w K mg base CX0 1 f fd ["self", "word"] (spIni K "word") := by
  refine F.ok scIni8 (fun vs H Q E h => ?_) (fun cdv A outer s H vs Q E hr h => ?_)
  · obtain ⟨a, C, w, rfl, _⟩ := h
    rfl
  · obtain ⟨a, C, w, rfl, T, no, ha, k⟩ := h
    refine ⟨_, pss_one (ps_ost (pv 0) (pv 1)), ?_⟩
    exact ⟨_, rfl, _, rfl, a, C, rfl, T, no, .inl ⟨ha, fun dx h1 h2 => k dx h1 h2⟩⟩
theorem scIni9 : FnScope ["self", "at"] ["self", "at"] (defScope sIni9) := ⟨rfl, rfl, rfl, by decide +kernel, rfl, by decide +kernel, by decide +kernel⟩
theorem ok_ini9 {f : Addr} {fd : FuncData} (F : Fun K "__init__" "InvalidTerm.__init__" sIni9 f fd) : FnOk P w K mg base CX0 1 f fd ["self", "at"] (spIni K "at") := by
  refine F.ok scIni9 (fun vs H Q E h => ?_) (fun cdv A outer s H vs Q E hr h => ?_)
  · obtain ⟨a, C, w, rfl, _⟩ := h
    rfl
  · obtain ⟨a, C, w, rfl, T, no, ha, k⟩ := h
    refine ⟨_, pss_one (ps_ost (pv 0) (pv 1)), ?_⟩
    exact ⟨_, rfl, _, rfl, a, C, rfl, T, no, .inl ⟨ha, fun dx h1 h2 => k dx h1 h2⟩⟩
structure TEr (K : PySem.W.Frag) (mg : Str → Option Value) (C : Nat → Addr) (R : Addr) : Prop where
  g_InvalidBook : ∃ u, mg "InvalidBook" = some u ∧ RelV (.ref (C 0)) u
  g_InvalidText : ∃ u, mg "InvalidText" = some u ∧ RelV (.ref (C 1)) u
  g_InvalidSaying : ∃ u, mg "InvalidSaying" = some u ∧ RelV (.ref (C 2)) u
  g_InvalidRing : ∃ u, mg "InvalidRing" = some u ∧ RelV (.ref (C 3)) u
  g_InvalidWeight : ∃ u, mg "InvalidWeight" = some u ∧ RelV (.ref (C 4)) u
  g_InvalidLook : ∃ u, mg "InvalidLook" = some u ∧ RelV (.ref (C 5)) u
  g_InvalidNumber : ∃ u, mg "InvalidNumber" = some u ∧ RelV (.ref (C 6)) u
  g_NoWeight : ∃ u, mg "NoWeight" = some u ∧ RelV (.ref (C 7)) u
  g_Refused : ∃ u, mg "Refused" = some u ∧ RelV (.ref (C 8)) u
  g_InvalidTerm : ∃ u, mg "InvalidTerm" = some u ∧ RelV (.ref (C 9)) u
  g_RoomError : ∃ u, mg "RoomError" = some u ∧ RelV (.ref R) u
  exc : ∀ i, i < 10 → ExcC K (C i)
  xf : ∀ i, i < 10 → XfC K (C i)
  noAt : ∀ i, i < 10 → i ≠ 6 → i ≠ 7 → i ≠ 8 → PySem.W.findIn K (.ref (C i)) "at" = some none
  noWord : ∀ i, i = 6 ∨ i = 8 → PySem.W.findIn K (.ref (C i)) "word" = some none
  kit : ∀ i, i < 10 → ∀ j, j < 10 → PySem.W.kitOne K (.ref (C i)) (.ref (C j)) = some (decide (i = j))
  base : ∀ i, i < 10 → PySem.W.kitOne K (.ref (C i)) (.ref R) = some true
  val : ∀ i, i < 10 → PySem.W.kitOne K (.ref (C i)) (.type "ValueError") = some true
  isi : mg "isinstance" = none
  len : mg "len" = none
  all : mg "all" = none
  vE : mg "ValueError" = none
/-- an error of the i-th class -/
def ErrI (C : Nat → Addr) (H : Hp) (v : V) (i : Nat) : Prop := ∃ a, v = .ref a ∧ ((∃ fs, ErrAt H a (C i) fs) ∨ H a = some (ExO (.ref (C i)) a))
theorem ErrI.same {C : Nat → Addr} {H H' : Hp} (S : L2.Same H H') {v : V} {i : Nat} (h : ErrI C H v i) : ErrI C H' v i := by
  obtain ⟨a, e, h⟩ := h
  refine ⟨a, e, ?_⟩
  rcases h with ⟨fs, h⟩ | h
  · exact .inl ⟨fs, h.same S⟩
  · exact .inr (S _ _ h)
theorem smallE {n : Nat} (h : n ≤ 60) : n ≤ sizeLine := by rw [sizeLine_eq]; omega
theorem ite_anyE {c : Prop} [Decidable c] {p q : Prop} (a : c → p) (b : ¬ c → q) : if c then p else q := by
  by_cases h : c
  · rw [if_pos h]; exact a h
  · rw [if_neg h]; exact b h
abbrev nErrs : List Str := ["number", "made", "words", "error", "kinds", "kind"]
theorem scErrs : FnScope nErrs ["number"] (defScope sErrs) := ⟨rfl, rfl, rfl, by decide +kernel, rfl, by decide +kernel, by decide +kernel⟩
theorem ok_errs {C : Nat → Addr} {R : Addr} {f : Addr} {fd : FuncData} (F : Fun K "_law_errors" "_law_errors" sErrs f fd) (T : TEr K mg C R)
    {I0 : Addr} {fd0 : FuncData} (X0 : ErrC K mg "InvalidBook" "at" (C 0) I0) (G0 : FnOk P w K mg base CX0 1 I0 fd0 ["self", "at"] (spIni K "at")) (B0 : L2.Binds K fd0 ["self", "at"] [])
    {I1 : Addr} {fd1 : FuncData} (X1 : ErrC K mg "InvalidText" "at" (C 1) I1) (G1 : FnOk P w K mg base CX0 1 I1 fd1 ["self", "at"] (spIni K "at")) (D1 : KBinds K fd1 ["self", "at"] ["at"] kwApp kwApp)
    {I2 : Addr} {fd2 : FuncData} (X2 : ErrC K mg "InvalidSaying" "at" (C 2) I2) (G2 : FnOk P w K mg base CX0 1 I2 fd2 ["self", "at"] (spIni K "at")) (B2 : L2.Binds K fd2 ["self", "at"] [])
    {I3 : Addr} {fd3 : FuncData} (X3 : ErrC K mg "InvalidRing" "at" (C 3) I3) (G3 : FnOk P w K mg base CX0 1 I3 fd3 ["self", "at"] (spIni K "at")) (D3 : KBinds K fd3 ["self", "at"] ["at"] kwApp kwApp)
    {I4 : Addr} {fd4 : FuncData} (X4 : ErrC K mg "InvalidWeight" "at" (C 4) I4) (G4 : FnOk P w K mg base CX0 1 I4 fd4 ["self", "at"] (spIni K "at")) (B4 : L2.Binds K fd4 ["self", "at"] [])
    {I5 : Addr} {fd5 : FuncData} (X5 : ErrC K mg "InvalidLook" "at" (C 5) I5) (G5 : FnOk P w K mg base CX0 1 I5 fd5 ["self", "at"] (spIni K "at")) (D5 : KBinds K fd5 ["self", "at"] ["at"] kwApp kwApp)
    {I6 : Addr} {fd6 : FuncData} (X6 : ErrC K mg "InvalidNumber" "word" (C 6) I6) (G6 : FnOk P w K mg base CX0 1 I6 fd6 ["self", "word"] (spIni K "word")) (B6 : L2.Binds K fd6 ["self", "word"] []) (D6 : KBinds K fd6 ["self", "word"] ["word"] kwApp kwApp)
    {I8 : Addr} {fd8 : FuncData} (X8 : ErrC K mg "Refused" "word" (C 8) I8) (G8 : FnOk P w K mg base CX0 1 I8 fd8 ["self", "word"] (spIni K "word")) (B8 : L2.Binds K fd8 ["self", "word"] []) (D8 : KBinds K fd8 ["self", "word"] ["word"] kwApp kwApp)
    {I9 : Addr} {fd9 : FuncData} (X9 : ErrC K mg "InvalidTerm" "at" (C 9) I9) (G9 : FnOk P w K mg base CX0 1 I9 fd9 ["self", "at"] (spIni K "at")) (B9 : L2.Binds K fd9 ["self", "at"] [])
    {bmB : List Value} {Bc newId initId : String} (FB : ExcBaseFacts Bc newId initId bmB) (q7 : PySem.W.excIn K (C 7) bmB newId = true) (g7 : mg "NoWeight" = some (.ref (C 7))) (k7 : PySem.W.keepIn K (.ref (C 7)) = true) :
    FnOk P w K mg base CX0 3 f fd ["number"] spErrs := by
  refine F.ok scErrs (fun vs H Q E h => ?_) (fun cdv A outer s H vs Q E hr h => ?_)
  · obtain ⟨n, rfl, _⟩ := h
    rfl
  · obtain ⟨n, rfl, k⟩ := h
    refine ⟨_, (pss_cons (ps_set (i := 1) scErrs.nd rfl (Or.inl rfl) (pe_lst (pa_cons (pe_err1 X0 G0 hr B0 pass0 (pv 0)) (pa_cons (pe_errK X1 G1 hr D1 pass0 (pk_cons (pv 0) pk_nil)) (pa_cons (pe_err1 X2 G2 hr B2 pass0 (pv 0)) (pa_cons (pe_errK X3 G3 hr D3 pass0 (pk_cons (pv 0) pk_nil)) (pa_cons (pe_err1 X4 G4 hr B4 pass0 (pv 0)) pa_nil)))))))
        (pss_cons (ps_set (i := 1) scErrs.nd rfl (Or.inl rfl) (pe_op op_cat (pv 1) (pe_lst (pa_cons (pe_errK X5 G5 hr D5 pass0 (pk_cons (pv 0) pk_nil)) (pa_cons (pe_err1 X9 G9 hr B9 pass0 (pv 0)) pa_nil)))))
        (pss_cons (ps_if (pt_not (pt_val (pe_callB (r := rAll K) (cr_all rfl) (by rfl) T.all boot_all (pa_cons (pe_lc (own := [("error", 3)]) (g := gName 3) (tt := tYes) rfl scErrs.nd (pi_list (pv 1)) (blkOk_by (N := nErrs) (sc := defScope sErrs) (by decide +kernel)) (fun _ _ _ _ _ => pg_name (i := 3) scErrs.nd rfl (Or.inl rfl)) (fun _ _ _ _ _ => pts_nil) (fun _ _ _ _ _ => (pe_cmpR op_eq (pe_errF K (pv 3)) (pv 0) (nomark _)))) pa_nil)))) (pss_one (ps_ret pe_bl)) pss_nil)
        (pss_cons (ps_set (i := 2) scErrs.nd rfl (Or.inl rfl) (pe_lst (pa_cons (pe_err1 X6 G6 hr B6 pass0 pe_str) (pa_cons (pe_errK X6 G6 hr D6 pass0 (pk_cons pe_str pk_nil)) (pa_cons (pe_err1 X8 G8 hr B8 pass0 pe_str) (pa_cons (pe_errK X8 G8 hr D8 pass0 (pk_cons pe_str pk_nil)) pa_nil))))))
        (pss_cons (ps_if (pt_not (pt_val (pe_callB (r := rAll K) (cr_all rfl) (by rfl) T.all boot_all (pa_cons (pe_lc (own := [("error", 3)]) (g := gName 3) (tt := tYes) rfl scErrs.nd (pi_list (pv 2)) (blkOk_by (N := nErrs) (sc := defScope sErrs) (by decide +kernel)) (fun _ _ _ _ _ => pg_name (i := 3) scErrs.nd rfl (Or.inl rfl)) (fun _ _ _ _ _ => pts_nil) (fun _ _ _ _ _ => (pe_cmpR op_eq (pe_errF K (pv 3)) pe_str (nomark _)))) pa_nil)))) (pss_one (ps_ret pe_bl)) pss_nil)
        (pss_cons (ps_for PassesOwn.never rfl (pi_list (pe_op op_cat (pe_op op_cat (pv 1) (pv 2)) (pe_lst (pa_cons (pe_err0 FB q7 g7 k7) pa_nil)))) (pg_name (i := 3) scErrs.nd rfl (Or.inl rfl))
        (pss_cons (ps_set (i := 4) scErrs.nd rfl (Or.inl rfl) (pe_lst (pa_cons (pe_callB (r := rIsX K) call_isX (by rfl) T.isi boot_isinstance (pa_cons (pv 3) (pa_cons (C8.pe_gc (by rfl) T.g_InvalidBook) pa_nil))) (pa_cons (pe_callB (r := rIsX K) call_isX (by rfl) T.isi boot_isinstance (pa_cons (pv 3) (pa_cons (C8.pe_gc (by rfl) T.g_InvalidText) pa_nil))) (pa_cons (pe_callB (r := rIsX K) call_isX (by rfl) T.isi boot_isinstance (pa_cons (pv 3) (pa_cons (C8.pe_gc (by rfl) T.g_InvalidSaying) pa_nil))) pa_nil)))))
        (pss_cons (ps_set (i := 4) scErrs.nd rfl (Or.inl rfl) (pe_op op_cat (pv 4) (pe_lst (pa_cons (pe_callB (r := rIsX K) call_isX (by rfl) T.isi boot_isinstance (pa_cons (pv 3) (pa_cons (C8.pe_gc (by rfl) T.g_InvalidRing) pa_nil))) (pa_cons (pe_callB (r := rIsX K) call_isX (by rfl) T.isi boot_isinstance (pa_cons (pv 3) (pa_cons (C8.pe_gc (by rfl) T.g_InvalidWeight) pa_nil))) (pa_cons (pe_callB (r := rIsX K) call_isX (by rfl) T.isi boot_isinstance (pa_cons (pv 3) (pa_cons (C8.pe_gc (by rfl) T.g_InvalidLook) pa_nil))) pa_nil))))))
        (pss_cons (ps_set (i := 4) scErrs.nd rfl (Or.inl rfl) (pe_op op_cat (pv 4) (pe_lst (pa_cons (pe_callB (r := rIsX K) call_isX (by rfl) T.isi boot_isinstance (pa_cons (pv 3) (pa_cons (C8.pe_gc (by rfl) T.g_InvalidNumber) pa_nil))) (pa_cons (pe_callB (r := rIsX K) call_isX (by rfl) T.isi boot_isinstance (pa_cons (pv 3) (pa_cons (C8.pe_gc (by rfl) T.g_NoWeight) pa_nil))) (pa_cons (pe_callB (r := rIsX K) call_isX (by rfl) T.isi boot_isinstance (pa_cons (pv 3) (pa_cons (C8.pe_gc (by rfl) T.g_Refused) pa_nil))) pa_nil))))))
        (pss_cons (ps_set (i := 4) scErrs.nd rfl (Or.inl rfl) (pe_op op_cat (pv 4) (pe_lst (pa_cons (pe_callB (r := rIsX K) call_isX (by rfl) T.isi boot_isinstance (pa_cons (pv 3) (pa_cons (C8.pe_gc (by rfl) T.g_InvalidTerm) pa_nil))) pa_nil))))
        (pss_one (ps_if (PW.pt (pw_or (pt_cmpR op_ne (pe_callB (r := rLenS K) call_lenS (by rfl) T.len PySem.boot_len (pa_cons (pe_lc (own := [("kind", 5)]) (g := gName 5) rfl scErrs.nd (pi_list (pv 4)) (blkOk_by (N := nErrs) (sc := defScope sErrs) (by decide +kernel)) (fun _ _ _ _ _ => pg_name (i := 5) scErrs.nd rfl (Or.inl rfl)) (fun _ _ _ _ _ => (pts_one (pt_val (pv 5)))) (fun _ _ _ _ _ => (pv 5))) pa_nil)) pe_int (nomark _)) (pw_or (pt_not (pt_val (pe_callB (r := rIsX K) call_isX (by rfl) T.isi boot_isinstance (pa_cons (pv 3) (pa_cons (C8.pe_gc (by rfl) T.g_RoomError) pa_nil))))) (pw_or1 (pt_not (pt_val (pe_callB (r := rIsX K) call_isX (by rfl) T.isi boot_isinstance (pa_cons (pv 3) (pa_cons (pe_bltn (v := .ty "ValueError") (by rfl) T.vE boot_ValueError rfl) pa_nil))))))))) (pss_one (ps_ret pe_bl)) pss_nil)))))))
        (pss_one (ps_ret pe_bl)))))))), ?_⟩
    have pos : ∀ {H : Hp} {a d : Addr} {i : Nat} {f : Str} {v : V}, H a = some (exo a (C i) (some d)) → H d = some (exd d [(f, v)]) → ErrAt H a (C i) [(f, v)] := fun {H a d i f v} x y => ⟨d, x, y⟩
    refine ⟨_, rfl, fun a0 d0 H0 S0 _ _ x0 y0 => ⟨_, rfl, fun a1 d1 H1 S1 _ _ x1 y1 => ⟨_, rfl, fun a2 d2 H2 S2 _ _ x2 y2 => ⟨_, rfl, fun a3 d3 H3 S3 _ _ x3 y3 => ⟨_, rfl, fun a4 d4 H4 S4 _ _ x4 y4 => ⟨(by show 5 ≤ sizeLine; decide), fun p0 hp0 => ?_⟩⟩⟩⟩⟩⟩
    have Sp0 := RK.Same.upd (o := .lst [V.ref a0, .ref a1, .ref a2, .ref a3, .ref a4]) hp0
    have ep0 : (upd H4 p0 (.lst [V.ref a0, .ref a1, .ref a2, .ref a3, .ref a4])) p0 = _ := upd_same
    generalize upd H4 p0 (.lst [V.ref a0, .ref a1, .ref a2, .ref a3, .ref a4]) = H5 at Sp0 ep0 ⊢
    refine ⟨_, rfl, _, rfl, fun a5 d5 H6 S6 _ _ x5 y5 => ⟨_, rfl, fun a9 d9 H7 S7 _ _ x9 y9 => ⟨(by show 2 ≤ sizeLine; decide), fun p1 hp1 => ⟨p0, p1, [V.ref a0, .ref a1, .ref a2, .ref a3, .ref a4], [V.ref a5, .ref a9], rfl, rfl, RK.Same.upd hp1 _ _ ((S6.trans S7) _ _ ep0), upd_same, (by show 7 ≤ sizeLine; decide), fun p2 hp2 => ?_⟩⟩⟩⟩
    have Sp1 := RK.Same.upd (o := .lst [V.ref a5, .ref a9]) hp1
    have Sp2 := RK.Same.upd (o := .lst ([V.ref a0, .ref a1, .ref a2, .ref a3, .ref a4] ++ [V.ref a5, .ref a9])) hp2
    have e2 : (upd (upd H7 p1 (.lst [V.ref a5, .ref a9])) p2 (.lst ([V.ref a0, .ref a1, .ref a2, .ref a3, .ref a4] ++ [V.ref a5, .ref a9]))) p2 = _ := upd_same
    have S78 := Sp1.trans Sp2
    generalize upd (upd H7 p1 (.lst [V.ref a5, .ref a9])) p2 (.lst ([V.ref a0, .ref a1, .ref a2, .ref a3, .ref a4] ++ [V.ref a5, .ref a9])) = H8 at S78 e2 ⊢
    clear Sp1 Sp2
    have S57 := S6.trans S7
    have Sa := ((((S1.trans S2).trans S3).trans S4).trans Sp0)
    have S08 : L2.Same H H8 := (((S0.trans Sa).trans S57).trans S78)
    obtain ⟨ms, ems, lms, hms⟩ : ∃ ms : List V, [V.ref a0, .ref a1, .ref a2, .ref a3, .ref a4] ++ [V.ref a5, .ref a9] = ms ∧ ms.length = 7 ∧ ∀ v ∈ ms, ∃ i a, i < 10 ∧ i ≠ 6 ∧ i ≠ 7 ∧ i ≠ 8 ∧ v = .ref a ∧ ErrAt H8 a (C i) [("at", .int (n : Int))] := by
      refine ⟨_, rfl, rfl, fun v hv => ?_⟩
      have hv : v ∈ [V.ref a0, .ref a1, .ref a2, .ref a3, .ref a4, .ref a5, .ref a9] := hv
      simp only [List.mem_cons, List.not_mem_nil, or_false] at hv
      rcases hv with rfl | rfl | rfl | rfl | rfl | rfl | rfl
      · exact ⟨0, a0, by decide, by decide, by decide, by decide, rfl, (pos x0 y0).same ((Sa.trans S57).trans S78)⟩
      · exact ⟨1, a1, by decide, by decide, by decide, by decide, rfl, (pos x1 y1).same (((((S2.trans S3).trans S4).trans Sp0).trans S57).trans S78)⟩
      · exact ⟨2, a2, by decide, by decide, by decide, by decide, rfl, (pos x2 y2).same ((((S3.trans S4).trans Sp0).trans S57).trans S78)⟩
      · exact ⟨3, a3, by decide, by decide, by decide, by decide, rfl, (pos x3 y3).same (((S4.trans Sp0).trans S57).trans S78)⟩
      · exact ⟨4, a4, by decide, by decide, by decide, by decide, rfl, (pos x4 y4).same ((Sp0.trans S57).trans S78)⟩
      · exact ⟨5, a5, by decide, by decide, by decide, by decide, rfl, (pos x5 y5).same (S7.trans S78)⟩
      · exact ⟨9, a9, by decide, by decide, by decide, by decide, rfl, (pos x9 y9).same S78⟩
    rw [ems] at e2
    clear x0 x1 x2 x3 x4 x5 x9 y0 y1 y2 y3 y4 y5 y9 S0 S1 S2 S3 S4 S6 S7 S57 Sa S78 hp0 hp1 hp2 ep0 Sp0 ems
    refine ⟨_, rfl, p2, rfl, ⟨_, SqL.of e2⟩, fun D hD => ?_⟩
    refine lc_list (K := K) (a := p2) (xs := ms) (fun m H' => L2.Same H8 H' ∧ H' D = some (.lst ((List.replicate m true).map V.bl))) ⟨RK.Same.upd hD, upd_same⟩ (fun m H' _ q => SqL.of (q.1 _ _ e2)) ?_ ?_
    · rintro m v H9 hm ⟨S9, e9⟩
      obtain ⟨i, a, hi, h6, h7, h8, rfl, hE⟩ := hms v (List.mem_of_getElem? hm)
      refine ⟨rfl, ?_⟩
      unfold tYes
      refine iteT ⟨_, rfl, a, C i, _, _, rfl, T.xf i hi, T.noAt i hi h6 h7 h8, hE.same S9, rfl, _, rfl, rfl, _, e9, ?_, RK.Same.updAt S9 hD, ?_⟩
      · rw [List.length_map, List.length_replicate]
        have := (List.getElem?_eq_some_iff.mp hm).1
        exact Nat.lt_of_lt_of_le (by omega : m < 8) (by decide)
      · rw [upd_same, List.replicate_succ', List.map_append, decide_eq_true rfl]
        rfl
    rintro H9 ⟨S9, e9⟩
    refine ⟨D, _, rfl, SqL.of e9, _, rfl, ?_⟩
    rw [show (List.replicate ms.length true).all id = true by rw [List.all_eq_true]; intro x hx; rw [(List.mem_replicate.mp hx).2]; rfl]
    refine iteF ?_
    have e2 := S9 _ _ e2
    have S09 := S08.trans S9
    have hms : ∀ v ∈ ms, ∃ i, i < 10 ∧ ErrI C H9 v i := fun v hv => by
      obtain ⟨i, a, hi, _, _, _, rfl, hE⟩ := hms v hv
      exact ⟨i, hi, a, rfl, .inl ⟨_, hE.same S9⟩⟩
    clear S08 S9 e9 hD
    refine fun b0 d0 G0' Z0 _ _ x0 y0 => fun b1 d1 G1' Z1 _ _ x1 y1 => fun b2 d2 G2' Z2 _ _ x2 y2 => fun b3 d3 G3' Z3 _ _ x3 y3 => ⟨(by show 4 ≤ sizeLine; decide), fun q hq => ?_⟩
    have Zq := RK.Same.upd (o := .lst [V.ref b0, .ref b1, .ref b2, .ref b3]) hq
    have eq : (upd G3' q (.lst [V.ref b0, .ref b1, .ref b2, .ref b3])) q = _ := upd_same
    generalize upd G3' q (.lst [V.ref b0, .ref b1, .ref b2, .ref b3]) = H10 at Zq eq ⊢
    obtain ⟨ws, ews, lws, hws⟩ : ∃ ws : List V, [V.ref b0, .ref b1, .ref b2, .ref b3] = ws ∧ ws.length = 4 ∧ ∀ v ∈ ws, ∃ i a, (i = 6 ∨ i = 8) ∧ v = .ref a ∧ ErrAt H10 a (C i) [("word", .str "size")] := by
      refine ⟨_, rfl, rfl, fun v hv => ?_⟩
      simp only [List.mem_cons, List.not_mem_nil, or_false] at hv
      rcases hv with rfl | rfl | rfl | rfl
      · exact ⟨6, b0, by decide, rfl, (pos x0 y0).same (((Z1.trans Z2).trans Z3).trans Zq)⟩
      · exact ⟨6, b1, by decide, rfl, (pos x1 y1).same ((Z2.trans Z3).trans Zq)⟩
      · exact ⟨8, b2, by decide, rfl, (pos x2 y2).same (Z3.trans Zq)⟩
      · exact ⟨8, b3, by decide, rfl, (pos x3 y3).same Zq⟩
    rw [ews] at eq
    have Z := (((Z0.trans Z1).trans Z2).trans Z3).trans Zq
    clear x0 x1 x2 x3 y0 y1 y2 y3 Z0 Z1 Z2 Z3 Zq hq ews
    refine ⟨_, rfl, q, rfl, ⟨_, SqL.of eq⟩, fun D hD => ?_⟩
    refine lc_list (K := K) (a := q) (xs := ws) (fun m H' => L2.Same H10 H' ∧ H' D = some (.lst ((List.replicate m true).map V.bl))) ⟨RK.Same.upd hD, upd_same⟩ (fun m H' _ q => SqL.of (q.1 _ _ eq)) ?_ ?_
    · rintro m v H11 hm ⟨S11, e11⟩
      obtain ⟨i, a, hi, rfl, hE⟩ := hws v (List.mem_of_getElem? hm)
      refine ⟨rfl, ?_⟩
      unfold tYes
      refine iteT ⟨_, rfl, a, C i, _, _, rfl, T.xf i (by omega), T.noWord i hi, hE.same S11, rfl, rfl, _, e11, ?_, RK.Same.updAt S11 hD, ?_⟩
      · rw [List.length_map, List.length_replicate]
        have := (List.getElem?_eq_some_iff.mp hm).1
        exact Nat.lt_of_lt_of_le (by omega : m < 8) (by decide)
      · rw [upd_same, List.replicate_succ', List.map_append, decide_eq_true rfl]
        rfl
    rintro H11 ⟨S11, e11⟩
    refine ⟨D, _, rfl, SqL.of e11, _, rfl, ?_⟩
    rw [show (List.replicate ws.length true).all id = true by rw [List.all_eq_true]; intro x hx; rw [(List.mem_replicate.mp hx).2]; rfl]
    refine iteF ?_
    have e2 := S11 _ _ (Z _ _ e2)
    have eq := S11 _ _ eq
    have S011 := (S09.trans Z).trans S11
    have hms : ∀ v ∈ ms, ∃ i, i < 10 ∧ ErrI C H11 v i := fun v hv => by
      obtain ⟨i, hi, hE⟩ := hms v hv
      exact ⟨i, hi, hE.same (Z.trans S11)⟩
    have hws : ∀ v ∈ ws, ∃ i, i < 10 ∧ ErrI C H11 v i := fun v hv => by
      obtain ⟨i, a, hi, rfl, hE⟩ := hws v hv
      exact ⟨i, by omega, a, rfl, .inl ⟨_, hE.same S11⟩⟩
    clear S09 S11 e11 hD Z
    -- all of them
    refine ⟨_, rfl, _, rfl, p2, q, _, _, rfl, rfl, e2, eq, smallE (by rw [lms, lws]; decide), fun p3 hp3 => ?_⟩
    have S12 := RK.Same.upd (o := .lst (ms ++ ws)) hp3
    have e3 : (upd H11 p3 (.lst (ms ++ ws))) p3 = _ := upd_same
    generalize upd H11 p3 (.lst (ms ++ ws)) = H12 at S12 e3 ⊢
    refine fun a7 ha7 => ⟨(by show 1 ≤ sizeLine; decide), fun p4 hp4 => ?_⟩
    have S13 := RK.Same.upd (o := ExO (.ref (C 7)) a7) ha7
    have e7 : (upd H12 a7 (ExO (.ref (C 7)) a7)) a7 = _ := upd_same
    generalize upd H12 a7 (ExO (.ref (C 7)) a7) = H13 at S13 e7 hp4 ⊢
    have S14 := RK.Same.upd (o := .lst [V.ref a7]) hp4
    have e4 : (upd H13 p4 (.lst [V.ref a7])) p4 = _ := upd_same
    generalize upd H13 p4 (.lst [V.ref a7]) = H14 at S14 e4 ⊢
    refine ⟨p3, p4, _, _, rfl, rfl, S14 _ _ (S13 _ _ e3), e4, smallE (by rw [List.length_append, lms, lws]; show 7 + 4 + 1 ≤ 60; decide), fun p5 hp5 => ?_⟩
    have S15 := RK.Same.upd (o := .lst (ms ++ ws ++ [V.ref a7])) hp5
    have e5 : (upd H14 p5 (.lst (ms ++ ws ++ [V.ref a7]))) p5 = _ := upd_same
    generalize upd H14 p5 (.lst (ms ++ ws ++ [V.ref a7])) = H15 at S15 e5 ⊢
    have hes : ∀ v ∈ ms ++ ws ++ [V.ref a7], ∃ i, i < 10 ∧ ErrI C H15 v i := fun v hv => by
      have SS := ((S12.trans S13).trans S14).trans S15
      rcases List.mem_append.mp hv with hv | hv
      · rcases List.mem_append.mp hv with hv | hv
        · obtain ⟨i, hi, hE⟩ := hms v hv
          exact ⟨i, hi, hE.same SS⟩
        · obtain ⟨i, hi, hE⟩ := hws v hv
          exact ⟨i, hi, hE.same SS⟩
      · rw [List.mem_singleton.mp hv]
        exact ⟨7, by decide, a7, rfl, .inr ((S14.trans S15) _ _ e7)⟩
    have S015 := (((S011.trans S12).trans S13).trans S14).trans S15
    clear S12 S13 S14 S15 e3 e4 e7 hms hws S011 e2 eq hp3 ha7 hp4 hp5
    generalize ms ++ ws ++ [V.ref a7] = es at e5 hes
    refine ⟨p5, rfl, ⟨_, SqL.of e5⟩, for_list (K := K) (a := p5) (xs := es)
      (fun i σ H' => (∃ v3 v4 : Option V, σ = [some (.int (n : Int)), some (.ref p2), some (.ref q), v3, v4, none]) ∧ L2.Same H15 H')
      ⟨⟨_, _, rfl⟩, L2.Same.refl _⟩ (fun i σ H' _ q => SqL.of (q.2 _ _ e5)) ?_ ?_⟩
    · rintro m v σ H16 hm ⟨⟨v3, v4, rfl⟩, S16⟩
      obtain ⟨i, hi, a, rfl, hE⟩ := hes v (List.mem_of_getElem? hm)
      have hE : ∀ {H'}, L2.Same H15 H' → ((∃ fs, ErrAt H' a (C i) fs) ∨ H' a = some (ExO (.ref (C i)) a)) := fun {H'} S => by
        rcases hE with ⟨fs, h⟩ | h
        · exact .inl ⟨fs, h.same S⟩
        · exact .inr (S _ _ h)
      have X := T.exc i hi
      refine ⟨_, rfl, a, C i, .ref (C 0), .ref (C 0), _, rfl, .own _, X, hE S16, T.kit i hi 0 (by decide), _, rfl, a, C i, .ref (C 1), .ref (C 1), _, rfl, .own _, X, hE S16, T.kit i hi 1 (by decide), _, rfl, a, C i, .ref (C 2), .ref (C 2), _, rfl, .own _, X, hE S16, T.kit i hi 2 (by decide), (by show 3 ≤ sizeLine; decide), fun k1 hk1 => ?_⟩
      have S17 := S16.trans (RK.Same.upd (o := .lst [V.bl (decide (i = 0)), .bl (decide (i = 1)), .bl (decide (i = 2))]) hk1)
      have f1 : (upd H16 k1 (.lst [V.bl (decide (i = 0)), .bl (decide (i = 1)), .bl (decide (i = 2))])) k1 = _ := upd_same
      generalize upd H16 k1 (.lst [V.bl (decide (i = 0)), .bl (decide (i = 1)), .bl (decide (i = 2))]) = H17 at S17 f1 ⊢
      refine ⟨_, rfl, _, rfl, a, C i, .ref (C 3), .ref (C 3), _, rfl, .own _, X, hE S17, T.kit i hi 3 (by decide), _, rfl, a, C i, .ref (C 4), .ref (C 4), _, rfl, .own _, X, hE S17, T.kit i hi 4 (by decide), _, rfl, a, C i, .ref (C 5), .ref (C 5), _, rfl, .own _, X, hE S17, T.kit i hi 5 (by decide), (by show 3 ≤ sizeLine; decide), fun l2 hl2 => ⟨k1, l2, [V.bl (decide (i = 0)), .bl (decide (i = 1)), .bl (decide (i = 2))], [V.bl (decide (i = 3)), .bl (decide (i = 4)), .bl (decide (i = 5))], rfl, rfl, RK.Same.upd hl2 _ _ f1, upd_same, (by show 6 ≤ sizeLine; decide), fun k2 hk2 => ?_⟩⟩
      have S18 := (S17.trans (RK.Same.upd (o := .lst [V.bl (decide (i = 3)), .bl (decide (i = 4)), .bl (decide (i = 5))]) hl2)).trans (RK.Same.upd (o := .lst ([V.bl (decide (i = 0)), .bl (decide (i = 1)), .bl (decide (i = 2))] ++ [V.bl (decide (i = 3)), .bl (decide (i = 4)), .bl (decide (i = 5))])) hk2)
      have f2 : (upd (upd H17 l2 (.lst [V.bl (decide (i = 3)), .bl (decide (i = 4)), .bl (decide (i = 5))])) k2 (.lst ([V.bl (decide (i = 0)), .bl (decide (i = 1)), .bl (decide (i = 2))] ++ [V.bl (decide (i = 3)), .bl (decide (i = 4)), .bl (decide (i = 5))]))) k2 = some (.lst [V.bl (decide (i = 0)), .bl (decide (i = 1)), .bl (decide (i = 2)), .bl (decide (i = 3)), .bl (decide (i = 4)), .bl (decide (i = 5))]) := upd_same
      generalize upd (upd H17 l2 (.lst [V.bl (decide (i = 3)), .bl (decide (i = 4)), .bl (decide (i = 5))])) k2 (.lst ([V.bl (decide (i = 0)), .bl (decide (i = 1)), .bl (decide (i = 2))] ++ [V.bl (decide (i = 3)), .bl (decide (i = 4)), .bl (decide (i = 5))])) = H18 at S18 f2 ⊢
      refine ⟨_, rfl, _, rfl, a, C i, .ref (C 6), .ref (C 6), _, rfl, .own _, X, hE S18, T.kit i hi 6 (by decide), _, rfl, a, C i, .ref (C 7), .ref (C 7), _, rfl, .own _, X, hE S18, T.kit i hi 7 (by decide), _, rfl, a, C i, .ref (C 8), .ref (C 8), _, rfl, .own _, X, hE S18, T.kit i hi 8 (by decide), (by show 3 ≤ sizeLine; decide), fun l3 hl3 => ⟨k2, l3, [V.bl (decide (i = 0)), .bl (decide (i = 1)), .bl (decide (i = 2)), .bl (decide (i = 3)), .bl (decide (i = 4)), .bl (decide (i = 5))], [V.bl (decide (i = 6)), .bl (decide (i = 7)), .bl (decide (i = 8))], rfl, rfl, RK.Same.upd hl3 _ _ f2, upd_same, (by show 9 ≤ sizeLine; decide), fun k3 hk3 => ?_⟩⟩
      have S19 := (S18.trans (RK.Same.upd (o := .lst [V.bl (decide (i = 6)), .bl (decide (i = 7)), .bl (decide (i = 8))]) hl3)).trans (RK.Same.upd (o := .lst ([V.bl (decide (i = 0)), .bl (decide (i = 1)), .bl (decide (i = 2)), .bl (decide (i = 3)), .bl (decide (i = 4)), .bl (decide (i = 5))] ++ [V.bl (decide (i = 6)), .bl (decide (i = 7)), .bl (decide (i = 8))])) hk3)
      have f3 : (upd (upd H18 l3 (.lst [V.bl (decide (i = 6)), .bl (decide (i = 7)), .bl (decide (i = 8))])) k3 (.lst ([V.bl (decide (i = 0)), .bl (decide (i = 1)), .bl (decide (i = 2)), .bl (decide (i = 3)), .bl (decide (i = 4)), .bl (decide (i = 5))] ++ [V.bl (decide (i = 6)), .bl (decide (i = 7)), .bl (decide (i = 8))]))) k3 = some (.lst [V.bl (decide (i = 0)), .bl (decide (i = 1)), .bl (decide (i = 2)), .bl (decide (i = 3)), .bl (decide (i = 4)), .bl (decide (i = 5)), .bl (decide (i = 6)), .bl (decide (i = 7)), .bl (decide (i = 8))]) := upd_same
      generalize upd (upd H18 l3 (.lst [V.bl (decide (i = 6)), .bl (decide (i = 7)), .bl (decide (i = 8))])) k3 (.lst ([V.bl (decide (i = 0)), .bl (decide (i = 1)), .bl (decide (i = 2)), .bl (decide (i = 3)), .bl (decide (i = 4)), .bl (decide (i = 5))] ++ [V.bl (decide (i = 6)), .bl (decide (i = 7)), .bl (decide (i = 8))])) = H19 at S19 f3 ⊢
      refine ⟨_, rfl, _, rfl, a, C i, .ref (C 9), .ref (C 9), _, rfl, .own _, X, hE S19, T.kit i hi 9 (by decide), (by show 1 ≤ sizeLine; decide), fun l4 hl4 => ⟨k3, l4, [V.bl (decide (i = 0)), .bl (decide (i = 1)), .bl (decide (i = 2)), .bl (decide (i = 3)), .bl (decide (i = 4)), .bl (decide (i = 5)), .bl (decide (i = 6)), .bl (decide (i = 7)), .bl (decide (i = 8))], [V.bl (decide (i = 9))], rfl, rfl, RK.Same.upd hl4 _ _ f3, upd_same, (by show 10 ≤ sizeLine; decide), fun k4 hk4 => ?_⟩⟩
      have S20 := (S19.trans (RK.Same.upd (o := .lst [V.bl (decide (i = 9))]) hl4)).trans (RK.Same.upd (o := .lst ([V.bl (decide (i = 0)), .bl (decide (i = 1)), .bl (decide (i = 2)), .bl (decide (i = 3)), .bl (decide (i = 4)), .bl (decide (i = 5)), .bl (decide (i = 6)), .bl (decide (i = 7)), .bl (decide (i = 8))] ++ [V.bl (decide (i = 9))])) hk4)
      have f4 : (upd (upd H19 l4 (.lst [V.bl (decide (i = 9))])) k4 (.lst ([V.bl (decide (i = 0)), .bl (decide (i = 1)), .bl (decide (i = 2)), .bl (decide (i = 3)), .bl (decide (i = 4)), .bl (decide (i = 5)), .bl (decide (i = 6)), .bl (decide (i = 7)), .bl (decide (i = 8))] ++ [V.bl (decide (i = 9))]))) k4 = some (.lst [V.bl (decide (i = 0)), .bl (decide (i = 1)), .bl (decide (i = 2)), .bl (decide (i = 3)), .bl (decide (i = 4)), .bl (decide (i = 5)), .bl (decide (i = 6)), .bl (decide (i = 7)), .bl (decide (i = 8)), .bl (decide (i = 9))]) := upd_same
      generalize upd (upd H19 l4 (.lst [V.bl (decide (i = 9))])) k4 (.lst ([V.bl (decide (i = 0)), .bl (decide (i = 1)), .bl (decide (i = 2)), .bl (decide (i = 3)), .bl (decide (i = 4)), .bl (decide (i = 5)), .bl (decide (i = 6)), .bl (decide (i = 7)), .bl (decide (i = 8))] ++ [V.bl (decide (i = 9))])) = H20 at S20 f4 ⊢
      have one : ([decide (i = 0), decide (i = 1), decide (i = 2), decide (i = 3), decide (i = 4), decide (i = 5), decide (i = 6), decide (i = 7), decide (i = 8), decide (i = 9)].filter id).length = 1 := (by decide : ∀ i, i < 10 → ([decide (i = 0), decide (i = 1), decide (i = 2), decide (i = 3), decide (i = 4), decide (i = 5), decide (i = 6), decide (i = 7), decide (i = 8), decide (i = 9)].filter id).length = 1) i hi
      obtain ⟨bs, ebs, hbs, lbs⟩ : ∃ bs : List Bool, H20 k4 = some (.lst (bs.map V.bl)) ∧ (bs.filter id).length = 1 ∧ bs.length = 10 := ⟨[decide (i = 0), decide (i = 1), decide (i = 2), decide (i = 3), decide (i = 4), decide (i = 5), decide (i = 6), decide (i = 7), decide (i = 8), decide (i = 9)], f4, one, rfl⟩
      clear f1 f2 f3 f4 one
      refine ⟨_, rfl, k4, rfl, ⟨_, SqL.of ebs⟩, fun D hD => ?_⟩
      refine lc_list (K := K) (a := k4) (xs := bs.map V.bl) (fun m H' => L2.Same H20 H' ∧ H' D = some (.lst (((bs.take m).filter id).map V.bl))) ⟨RK.Same.upd hD, upd_same⟩ (fun m H' _ q => SqL.of (q.1 _ _ ebs)) ?_ ?_
      · rintro m v H21 hm ⟨S21, e21⟩
        have hml := (List.getElem?_eq_some_iff.mp hm).1
        rw [List.length_map] at hml
        have eg : bs[m]? = some bs[m] := List.getElem?_eq_getElem hml
        rw [List.getElem?_map, eg] at hm
        cases hm
        have ef : (bs.take (m + 1)).filter id = (bs.take m).filter id ++ (if bs[m] = true then [bs[m]] else []) := by
          rw [List.take_add_one, eg, List.filter_append]
          congr 1
          cases bs[m] <;> rfl
        refine ⟨rfl, _, rfl, _, rfl, ?_⟩
        refine ite_anyE (fun hb => ?_) (fun hb => ?_)
        · rw [if_pos hb] at ef
          refine ⟨_, rfl, _, e21, ?_, RK.Same.updAt S21 hD, ?_⟩
          · rw [List.length_map]
            have := List.length_filter_le id (bs.take m)
            have := List.length_take_le m bs
            exact Nat.lt_of_lt_of_le (by omega : _ < 61) (smallE (n := 60) (Nat.le_refl _) |> fun h => by rw [sizeLine_eq]; omega)
          · rw [upd_same, ef, List.map_append]
            rfl
        · rw [if_neg hb, List.append_nil] at ef
          exact ⟨S21, by rw [ef]; exact e21⟩
      rintro H21 ⟨S21, e21⟩
      rw [List.length_map, List.take_of_length_le (Nat.le_refl _)] at e21
      have S22 := S20.trans S21
      refine ⟨D, _, rfl, .inl (SqL.of e21), rfl, _, rfl, ?_⟩
      rw [List.length_map, hbs]
      refine iteF ?_
      refine ⟨_, rfl, a, C i, .ref R, .ref R, _, rfl, .own _, X, hE S22, T.base i hi, _, rfl, ?_⟩
      refine iteF ?_
      refine ⟨_, rfl, a, C i, .ty "ValueError", .type "ValueError", _, rfl, .ty _, X, hE S22, T.val i hi, _, rfl, ?_⟩
      refine iteF ?_
      exact ⟨⟨_, _, rfl⟩, S22⟩
    · rintro σ H16 ⟨⟨v3, v4, rfl⟩, S16⟩
      exact k _ (S015.trans S16)
end
end K01


set_option Elab.async false
set_option linter.all false
set_option maxRecDepth 100000
set_option maxHeartbeats 8000000
/-! the law -/
namespace K01
open PySem PySem.Spec PyProof.Rows L2 RK
abbrev sLaw : Stmt := topL 39
structure TLw (K : PySem.W.Frag) (mg : Str → Option Value) : Prop where
  isi : mg "isinstance" = none
  range : mg "range" = none
  tuple : mg "tuple" = none
  list : mg "list" = none
def spLaw (K : PySem.W.Frag) : Sp := fun vs H Q _ => ∃ (a : Addr) (ns : List Int), vs = [.ref a] ∧ SqL K H a (ns.map V.int) ∧ ns.length ≤ 63 ∧ ∀ H', Q (.bl true) H'
theorem eq_self (o : Option Int) : scal (optI o) (optI o) = true ∧ (!decide (optI o = optI o)) = false := by
  refine ⟨?_, by rw [decide_eq_true rfl]; rfl⟩
  cases o <;> rfl
/-- what was made of the rooms, as it stands in a turn -/
def MdJ (K : PySem.W.Frag) (H8 : Hp) (h l a Nm R : Addr) (t : Int) (σ : L2.St) (H' : Hp) : Prop :=
  ∃ (M : Addr) (us : List V), σ = [some (.ref a), some (.ref h), some (.ref Nm), some (.ref R), some (.int t), some (.ref M), none, none] ∧ HeapAt H' h l ∧ Kh h l H8 H' ∧ H' M = some (.lst us) ∧ 1 ≤ us.length ∧ us.length ≤ 30 ∧ (∀ u ∈ us, IsItem K H' u)
theorem bad_row {r : Rm} (b : ∃ q ∈ r, ¬ NameOk q) : FaultIs (some [some (r.map some)]) (some 0) := by
  refine fault_put (rms := []) (i := 0) (it := some (r.map some)) (rest := []) Good.nil (Nat.le_refl 0) (by decide) ?_
  rintro ⟨r', e, ro, _⟩
  have e := some_inj (Option.some.inj e)
  subst e
  obtain ⟨q, hq, nq⟩ := b
  exact nq (ro.2.2.1 q hq)
section
variable {P : Program} {w : World} {K : PySem.W.Frag} {mg : Str → Option Value} {base : Heap}
abbrev nLaw : List Str := ["script", "heap", "names", "rooms", "turn", "made", "value", "room"]
theorem scLaw : FnScope nLaw ["script"] (defScope sLaw) := ⟨rfl, rfl, rfl, by decide +kernel, rfl, by decide +kernel, by decide +kernel⟩
theorem ok_law {f : Addr} {fd : FuncData} (F : Fun K "law" "law" sLaw f fd) (T : TLw K mg) (c__law_heap : Cl P w K mg base CX0 1 "_law_heap" ["script"] (spHeap K)) (c__law_draw : Cl P w K mg base CX0 1 "_law_draw" ["heap", "many"] spDraw)
    (c__law_names : Cl P w K mg base CX0 3 "_law_names" ["heap", "many"] spNames) (c__law_rooms : Cl P w K mg base CX0 3 "_law_rooms" ["heap", "names", "many", "most"] spRooms)
    (c__law_told : Cl P w K mg base CX0 6 "_law_told" ["value"] (spToldA K)) (c__law_fault : Cl P w K mg base CX0 2 "_law_fault" ["value"] (spFault K)) (c__law_spoilt : Cl P w K mg base CX0 3 "_law_spoilt" ["heap", "rooms"] (spSpoilt K))
    (c__law_bounds : Cl P w K mg base CX0 7 "_law_bounds" ["heap", "names"] spBounds) (c__law_errors : Cl P w K mg base CX0 3 "_law_errors" ["number"] spErrs) :
    FnOk P w K mg base CX0 8 f fd ["script"] (spLaw K) := by
  refine F.ok scLaw (fun vs H Q E h => ?_) (fun cdv A outer s H vs Q E hr h => ?_)
  · obtain ⟨a, ns, rfl, _⟩ := h
    rfl
  · obtain ⟨a, ns, rfl, hS, hl, k⟩ := h
    refine ⟨_, (pss_cons (ps_set (i := 1) scLaw.nd rfl (Or.inl rfl) (pe_f c__law_heap hr (by decide) pass0 (pa_cons (pv 0) pa_nil)))
        (pss_cons (ps_set (i := 2) scLaw.nd rfl (Or.inl rfl) (pe_f c__law_names hr (by decide) pass0 (pa_cons (pv 1) (pa_cons pe_int pa_nil))))
        (pss_cons (ps_set (i := 3) scLaw.nd rfl (Or.inl rfl) (pe_f c__law_rooms hr (by decide) pass0 (pa_cons (pv 1) (pa_cons (pv 2) (pa_cons (pe_op op_add pe_int (pe_f c__law_draw hr (by decide) pass0 (pa_cons (pv 1) (pa_cons pe_int pa_nil)))) (pa_cons (pe_op op_add pe_int (pe_f c__law_draw hr (by decide) pass0 (pa_cons (pv 1) (pa_cons pe_int pa_nil)))) pa_nil))))))
        (pss_cons (ps_if (PW.pt (pw_or (pt_cmpR op_notN (pe_f c__law_told hr (by decide) pass0 (pa_cons (pe_callTy call_tuple_of (by rfl) T.tuple boot_tuple (pa_cons (pv 3) pa_nil)) pa_nil)) pe_non (nomark _)) (pw_or1 (pt_cmpR op_notN (pe_f c__law_fault hr (by decide) pass0 (pa_cons (pe_callTy call_tuple_of (by rfl) T.tuple boot_tuple (pa_cons (pv 3) pa_nil)) pa_nil)) pe_non (nomark _))))) (pss_one (ps_ret pe_bl)) pss_nil)
        (pss_cons (ps_for PassesOwn.never rfl (pi_range1 (by rfl) T.range (pa_cons pe_int pa_nil)) (pg_name (i := 4) scLaw.nd rfl (Or.inl rfl))
        (pss_cons (ps_set (i := 5) scLaw.nd rfl (Or.inl rfl) (pe_f c__law_spoilt hr (by decide) pass0 (pa_cons (pv 1) (pa_cons (pv 3) pa_nil))))
        (pss_cons (ps_if (pt_cmpR op_gt (pv 4) pe_int (nomark _)) (pss_one (ps_set (i := 5) scLaw.nd rfl (Or.inl rfl) (pe_revL (pv 5)))) pss_nil)
        (pss_cons (ps_if (PW.pt (pw_and (pt_cmpR op_eq (pv 4) pe_int (nomark _)) (pw_and1 (pt_val (pe_callB (r := rIsi K) call_isi (by rfl) T.isi boot_isinstance (pa_cons (pe_ix (r := rIxL K) ix_list (pv 5) pe_int (fun _ _ => rfl)) (pa_cons (pe_bltn (v := .ty "tuple") (by rfl) T.tuple boot_tuple rfl) pa_nil))))))) (pss_one (ps_set (i := 5) scLaw.nd rfl (Or.inl rfl) (pe_op op_cat (pv 5) (pe_lst (pa_cons (pe_slice sl_tupA (pe_ix (r := rIxL K) ix_list (pv 5) pe_int (fun _ _ => rfl)) po_none (po_some pe_int)) pa_nil))))) pss_nil)
        (pss_one (ps_if (pt_cmpR op_ne (pe_f c__law_told hr (by decide) pass0 (pa_cons (pe_callTy call_tuple_of (by rfl) T.tuple boot_tuple (pa_cons (pv 5) pa_nil)) pa_nil)) (pe_f c__law_fault hr (by decide) pass0 (pa_cons (pe_callTy call_tuple_of (by rfl) T.tuple boot_tuple (pa_cons (pv 5) pa_nil)) pa_nil)) (nomark _)) (pss_one (ps_ret pe_bl)) pss_nil))))))
        (pss_cons (ps_for PassesOwn.never rfl (pi_list (pe_lst (pa_cons pe_non (pa_cons pe_int (pa_cons pe_bl (pa_cons pe_str (pa_cons pe_str (pa_cons (pe_lst pa_nil) (pa_cons (pe_callTy call_list_of (by rfl) T.list (by decide +kernel) (pa_cons (pv 3) pa_nil)) (pa_cons pe_dnewK (pa_cons (pe_tup pa_nil) (pa_cons (pe_ix (r := rIxL K) ix_list (pv 3) pe_int (fun _ _ => rfl)) pa_nil)))))))))))) (pg_name (i := 6) scLaw.nd rfl (Or.inl rfl))
        (pss_one (ps_if (pt_cmpR op_ne (pe_f c__law_told hr (by decide) pass0 (pa_cons (pv 6) pa_nil)) (pe_f c__law_fault hr (by decide) pass0 (pa_cons (pv 6) pa_nil)) (nomark _)) (pss_one (ps_ret pe_bl)) pss_nil)))
        (pss_cons (ps_for PassesOwn.never rfl (pi_list (pe_lst (pa_cons (pe_tup (pa_cons pe_str (pa_cons pe_str (pa_cons pe_str pa_nil)))) (pa_cons (pe_tup (pa_cons pe_str (pa_cons pe_str (pa_cons pe_str pa_nil)))) (pa_cons (pe_tup (pa_cons pe_str (pa_cons pe_str (pa_cons pe_str pa_nil)))) (pa_cons (pe_tup (pa_cons pe_str (pa_cons pe_str (pa_cons pe_str pa_nil)))) (pa_cons (pe_tup (pa_cons pe_str (pa_cons pe_str (pa_cons pe_str pa_nil)))) (pa_cons (pe_tup (pa_cons pe_str (pa_cons pe_str (pa_cons pe_str pa_nil)))) pa_nil)))))))) (pg_name (i := 7) scLaw.nd rfl (Or.inl rfl))
        (pss_one (ps_if (pt_cmpR op_ne (pe_f c__law_told hr (by decide) pass0 (pa_cons (pe_tup (pa_cons (pv 7) pa_nil)) pa_nil)) pe_int (nomark _)) (pss_one (ps_ret pe_bl)) pss_nil)))
        (pss_one (ps_ret (pe_and (pe_f c__law_bounds hr (by decide) pass0 (pa_cons (pv 1) (pa_cons (pv 2) pa_nil))) (pe_one (pe_f c__law_errors hr (by decide) pass0 (pa_cons (pe_f c__law_draw hr (by decide) pass0 (pa_cons (pv 1) (pa_cons pe_int pa_nil))) pa_nil))))))))))))), ?_⟩
    refine ⟨_, rfl, a, ns, rfl, hS, hl, fun h l H1 S1 h0 l0 hH1 => ?_⟩
    refine ⟨_, rfl, h, l, 24, rfl, hH1, by decide, fun Nm names H2 hH2 k2 n0 eN nlen nnd nok => ?_⟩
    obtain ⟨hne, zs, s1, f1, f2, _⟩ := id hH1
    have nh : Nm ≠ h := fun z => by rw [z, f1] at n0; cases n0
    have nl : Nm ≠ l := fun z => by rw [z, f2] at n0; cases n0
    refine ⟨_, rfl, _, rfl, _, rfl, h, l, 6, rfl, hH2, by decide, by decide, fun d1 H4 hd1 hH4 k4 => ⟨_, _, rfl, rfl, _, rfl, h, l, 3, rfl, hH4, by decide, by decide, fun d2 H5 hd2 hH5 k5 => ⟨_, _, rfl, rfl, ?_⟩⟩⟩
    refine ⟨h, l, Nm, names, 1 + d1, 3 + d2, by rw [Int.natCast_add, Int.natCast_add]; rfl, hH5, (k4.trans k5) _ _ eN nh nl, nh, nl, nnd, nok, by omega, by omega, by omega, by omega, by omega, by omega, fun R rs H6 hH6 k6 r0 eR eI ok r9 sub => ?_⟩
    obtain ⟨-, zs5, s5, j1, j2, _⟩ := id hH5
    have rh : R ≠ h := fun z => by rw [z, j1] at r0; cases r0
    have rl : R ≠ l := fun z => by rw [z, j2] at r0; cases r0
    have few := ok.few
    have hml := rms_len rs
    have hrl := refs_len rs
    have eN6 := ((k4.trans k5).trans k6) _ _ eN nh nl
    have gG : Good (itsOf (rmsOf rs)) (rmsOf rs) := good_of ok.ok ok.one
    have fF : FaultIs (some (itsOf (rmsOf rs))) none := .fine gG ok
    clear f1 f2 j1 j2 n0 r0 k4 k5 k6 k2 hH1 hH2 hH4 hH5 eN hd1 hd2
    refine ⟨_, rfl, R, _, rfl, .inl ⟨SqL.of eR, fun p1 hp1 => ?_⟩⟩
    have S7 := RK.Same.upd (o := .tup (refsOf rs)) hp1
    refine ⟨.ref p1, _, rfl, val_of upd_same (by rw [hrl]; omega) (items_in (eI.same S7) ok.ok), fun o H7 hf S71 => ?_⟩
    obtain rfl := fault_det hf fF
    refine ⟨rfl, _, rfl, ?_⟩
    rw [nn]
    have S67 := S7.trans S71
    refine iteF ⟨_, rfl, R, _, rfl, .inl ⟨SqL.of (S67 _ _ eR), fun p2 hp2 => ?_⟩⟩
    have S8 := RK.Same.upd (o := .tup (refsOf rs)) hp2
    refine ⟨.ref p2, _, rfl, val_of upd_same (by rw [hrl]; omega) (items_in (eI.same (S67.trans S8)) ok.ok), fun o H8 hf2 S81 => ?_⟩
    obtain rfl := fault_det hf2 fF
    refine ⟨rfl, _, rfl, ?_⟩
    rw [nn]
    refine iteF ?_
    have S68 := (S67.trans S8).trans S81
    have hH8 := hH6.same S68
    have eN := S68 _ _ eN6
    have eR := S68 _ _ eR
    have eI := eI.same S68
    clear S7 S71 S67 S8 S81 S68 hp1 hp2 hf hf2 eN6 hH6
    have st : ∀ {H'}, Kh h l H8 H' → H' R = some (.lst (refsOf rs)) ∧ RoomsIn H' rs ∧ H' Nm = some (.lst (names.map V.str)) := fun {H'} kh => ⟨kh _ _ eR rh rl, RoomsIn.kh hH8 kh eI, kh _ _ eN nh nl⟩
    have both : ∀ {H' : Hp} {v : V} {val : Vl}, ValAt K H' v val → ∃ o, FaultIs val o := fun {H' v val} _ => fault_some val
    refine ⟨(6 : Int), rfl, by omega, by omega, for_range (fun i σ H' => ∃ v4 v5 : Option V, σ = [some (.ref a), some (.ref h), some (.ref Nm), some (.ref R), v4, v5, none, none] ∧ HeapAt H' h l ∧ Kh h l H8 H')
      ⟨_, _, rfl, hH8, Kh.refl h l H8⟩ ?_ ?_⟩
    · rintro i σ H9 hi ⟨v4, v5, rfl, hH9, k9⟩
      obtain ⟨R9, I9, N9⟩ := st k9
      rw [Int.zero_add]
      refine ⟨_, rfl, _, rfl, h, l, R, rs, rfl, hH9, R9, rh, rl, I9, (fun r hr => ok.ok r.2 (List.mem_map.mpr ⟨r, hr, rfl⟩)), by omega, r9, fun M us H10 hH10 k10 m0 em u1 u20 it => ?_⟩
      dsimp only [gName]
      refine go_on (MdJ K H8 h l a Nm R (i : Nat)) ⟨M, us, rfl, hH10, k9.trans k10, em, u1, by omega, it⟩ ?_
      clear k10 m0 em u1 u20 it hH10 R9 I9 N9 k9 hH9
      rintro σ' H11 ⟨M, us, rfl, hH11, k11, em, u1, u2, it⟩
      refine seq_fin (MdJ K H8 h l a Nm R (i : Nat)) ?_ (fun fin => ?_)
      · clear em it u1 u2 hH11 k11
        rintro σ' H12 ⟨M, us, rfl, hH12, k12, em, u1, u2, it⟩
        refine seq_fin (fun σ H' => ∃ (M : Addr) (us : List V), σ = [some (.ref a), some (.ref h), some (.ref Nm), some (.ref R), some (.int (i : Nat)), some (.ref M), none, none] ∧ HeapAt H' h l ∧ Kh h l H8 H' ∧ H' M = some (.lst us) ∧ us.length ≤ 40 ∧ (∀ u ∈ us, IsItem K H' u)) ?_ (fun fin => ?_)
        · clear em it u1 u2 hH12 k12
          rintro σ' H13 ⟨M, us, rfl, hH13, k13, em, u2, it⟩
          obtain ⟨its, h2⟩ := At2.ex it
          refine ⟨_, rfl, M, _, rfl, .inl ⟨SqL.of em, fun p1 hp1 => ?_⟩⟩
          have S1 := RK.Same.upd (o := .tup us) hp1
          refine ⟨.ref p1, some its, rfl, val_of upd_same (by omega) (h2.imp fun _ _ z => z.same S1), fun o H14 hf S14 => ?_⟩
          have S2 := S1.trans S14
          refine ⟨_, rfl, M, _, rfl, .inl ⟨SqL.of (S2 _ _ em), fun p2 hp2 => ?_⟩⟩
          have S3 := RK.Same.upd (o := .tup us) hp2
          refine ⟨.ref p2, some its, rfl, val_of upd_same (by omega) (h2.imp fun _ _ z => z.same (S2.trans S3)), fun o2 H15 hf2 S15 => ?_⟩
          obtain rfl := fault_det hf hf2
          refine ⟨(eq_self o).1, _, rfl, ?_⟩
          rw [(eq_self o).2]
          have S := (S2.trans S3).trans S15
          exact iteF ⟨_, _, rfl, hH13.same S, k13.trans (Kh.of S)⟩
        · refine ⟨_, rfl, rfl, _, rfl, ite_any (fun _ => ?_) (fun _ => iteF (fin _ _ ⟨M, us, rfl, hH12, k12, em, by omega, it⟩))⟩
          have eu : us[0]? = some us[0] := List.getElem?_eq_getElem (by omega)
          have at0 : atI us 0 = some us[0] := at_of (by rfl : (0 : Int) = ((0 : Nat) : Int)) eu
          have i0 := it us[0] (List.getElem_mem _)
          generalize us[0] = u0 at eu at0 i0
          obtain ⟨itm, hi0⟩ := i0
          rcases hi0 with ⟨t, vs, as, e, rfl, ht, hvl, h2⟩ | ⟨e, Ty, hT, hk⟩
          · refine ⟨_, rfl, M, _, _, _, rfl, rfl, SqL.of em, at0, _, .ty "tuple", _, _, true, rfl, .ty _, .base (.tup ht), kit_ty (by decide +kernel), true, rfl, ?_⟩
            refine iteT ⟨_, rfl, _, rfl, M, _, _, _, rfl, rfl, SqL.of em, at0, _, rfl, slA_all ht fun p1 H13 S13 e13 => ⟨(by show 1 ≤ sizeLine; decide), fun p2 hp2 => ?_⟩⟩
            have S2 := RK.Same.upd (o := .lst [V.ref p1]) hp2
            refine ⟨M, p2, _, _, rfl, rfl, (S13.trans S2) _ _ em, upd_same, small (by show us.length + 1 ≤ 100; omega), fun p3 hp3 => ?_⟩
            have S3 := RK.Same.upd (o := .lst (us ++ [V.ref p1])) hp3
            have S := (S13.trans S2).trans S3
            refine fin _ _ ⟨p3, us ++ [V.ref p1], rfl, hH12.same S, k12.trans (Kh.of S), upd_same, by rw [List.length_append]; show us.length + 1 ≤ 40; omega, fun u hu => ?_⟩
            rcases List.mem_append.mp hu with hu | hu
            · exact (it u hu).ls (Ls.of S)
            · rw [List.mem_singleton.mp hu]
              refine IsItem.ls (Ls.of (S2.trans S3)) (item_tup e13 (by have := cutV_length vs none (some 2); omega) fun x hx => ?_)
              obtain ⟨b, hb⟩ := h2.mem (mem_cutV hx)
              exact IsAtom.ls (Ls.of S13) ⟨b, hb⟩
          · refine ⟨_, rfl, M, _, _, _, rfl, rfl, SqL.of em, at0, _, .ty "tuple", _, _, false, rfl, .ty _, hT, kit_ty hk, false, rfl, ?_⟩
            exact iteF (fin _ _ ⟨M, us, rfl, hH12, k12, em, by omega, it⟩)
      · refine ⟨_, rfl, _, _, rfl, rfl, _, rfl, ite_any (fun _ => ⟨_, rfl, M, us, rfl, SqL.of em, fun p hp => ?_⟩) (fun _ => fin _ _ ⟨M, us, rfl, hH11, k11, em, u1, u2, it⟩)⟩
        have S := RK.Same.upd (o := .lst us.reverse) hp
        exact fin _ _ ⟨p, us.reverse, rfl, hH11.same S, k11.trans (Kh.of S), upd_same, by rw [List.length_reverse]; exact u1, by rw [List.length_reverse]; exact u2, fun u hu => (it u (List.mem_reverse.mp hu)).ls (Ls.of S)⟩
    · rintro σ H9 ⟨v4, v5, rfl, hH9, k9⟩
      obtain ⟨R9, I9, N9⟩ := st k9
      have small2 : ∀ {H' : Hp} {v : V} {val : Vl}, ValAt K H' v val → ∀ {H''}, L2.Same H' H'' → ValAt K H'' v val := fun {H' v val} z {H''} S => z.same S
      refine ⟨(by show 0 ≤ sizeLine; decide), fun q1 hq1 => ?_⟩
      have Z1 := RK.Same.upd (o := .lst []) hq1
      have y1 : (upd H9 q1 (.lst [])) q1 = _ := upd_same
      generalize upd H9 q1 (.lst []) = G1 at Z1 y1 ⊢
      refine ⟨_, rfl, R, _, rfl, .inl (SqL.of (Z1 _ _ R9)), fun q2 hq2 => ?_⟩
      have Z2 := RK.Same.upd (o := .lst (refsOf rs)) hq2
      have y2 : (upd G1 q2 (.lst (refsOf rs))) q2 = _ := upd_same
      generalize upd G1 q2 (.lst (refsOf rs)) = G2 at Z2 y2 ⊢
      refine fun q3 hq3 => ⟨(by show 0 ≤ sizeLine; decide), fun q4 hq4 => ?_⟩
      have Z3 := RK.Same.upd (o := .dK []) hq3
      have y3 : (upd G2 q3 (.dK [])) q3 = _ := upd_same
      generalize upd G2 q3 (.dK []) = G3 at Z3 y3 hq4 ⊢
      have Z4 := RK.Same.upd (o := .tup []) hq4
      have y4 : (upd G3 q4 (.tup [])) q4 = _ := upd_same
      generalize upd G3 q4 (.tup []) = G4 at Z4 y4 ⊢
      have S94 := ((Z1.trans Z2).trans Z3).trans Z4
      obtain ⟨r0, hr0⟩ : ∃ r, rs[0]? = some r := ⟨_, List.getElem?_eq_getElem (by omega)⟩
      have hm0 : r0 ∈ rs := List.mem_of_getElem? hr0
      have ok0 : RoomOk r0.2 := ok.ok r0.2 (List.mem_map.mpr ⟨r0, hm0, rfl⟩)
      refine ⟨_, rfl, R, _, _, _, rfl, rfl, SqL.of (S94 _ _ R9), at_of (by rfl : (0 : Int) = ((0 : Nat) : Int)) (refs_get hr0), (by show 10 ≤ sizeLine; decide), fun q5 hq5 => ?_⟩
      have Z5 := RK.Same.upd (o := .lst [V.non, .int 7, .bl true, .str "abc", .str "", .ref q1, .ref q2, .ref q3, .ref q4, .ref r0.1]) hq5
      have y5 : (upd G4 q5 (.lst [V.non, .int 7, .bl true, .str "abc", .str "", .ref q1, .ref q2, .ref q3, .ref q4, .ref r0.1])) q5 = _ := upd_same
      obtain ⟨its0, hits0⟩ : ∃ its, At2 (ItemAt K G4) (r0.2.map V.str) its := At2.ex fun v hv => by
        obtain ⟨x, hx, rfl⟩ := List.mem_map.mp hv
        exact ⟨none, .inr ⟨rfl, "str", .base (.str x), by decide +kernel⟩⟩
      have hvals : ∀ v ∈ [V.non, .int 7, .bl true, .str "abc", .str "", .ref q1, .ref q2, .ref q3, .ref q4, .ref r0.1], ∃ val, ValAt K G4 v val := by
        intro v hv
        simp only [List.mem_cons, List.not_mem_nil, or_false] at hv
        rcases hv with rfl | rfl | rfl | rfl | rfl | rfl | rfl | rfl | rfl | rfl
        · exact ⟨none, .inr ⟨rfl, "NoneType", .base .non, by decide +kernel⟩⟩
        · exact ⟨none, .inr ⟨rfl, "int", .base (.int 7), by decide +kernel⟩⟩
        · exact ⟨none, .inr ⟨rfl, "bool", .base (.bl true), by decide +kernel⟩⟩
        · exact ⟨none, .inr ⟨rfl, "str", .base (.str _), by decide +kernel⟩⟩
        · exact ⟨none, .inr ⟨rfl, "str", .base (.str _), by decide +kernel⟩⟩
        · exact ⟨none, .inr ⟨rfl, "list", .base (.lst (((Z2.trans Z3).trans Z4) _ _ y1)), by decide +kernel⟩⟩
        · exact ⟨none, .inr ⟨rfl, "list", .base (.lst ((Z3.trans Z4) _ _ y2)), by decide +kernel⟩⟩
        · exact ⟨none, .inr ⟨rfl, "dict", .base (.dK (Z4 _ _ y3)), by decide +kernel⟩⟩
        · exact ⟨some [], val_of y4 (Nat.zero_le _) At2.nil⟩
        · exact ⟨some its0, val_of (S94 _ _ (I9 r0 hm0)) (by rw [List.length_map]; have := ok0.2.1; omega) hits0⟩
      generalize [V.non, .int 7, .bl true, .str "abc", .str "", .ref q1, .ref q2, .ref q3, .ref q4, .ref r0.1] = vals at y5 hvals Z5 ⊢
      generalize upd G4 q5 (.lst vals) = G5 at Z5 y5 ⊢
      have S95 := S94.trans Z5
      have hvals : ∀ v ∈ vals, ∃ val, ValAt K G5 v val := fun v hv => by
        obtain ⟨val, z⟩ := hvals v hv
        exact ⟨val, z.same Z5⟩
      clear Z1 Z2 Z3 Z4 Z5 y1 y2 y3 y4 hq1 hq2 hq3 hq4 hq5 S94 hits0
      refine ⟨q5, rfl, ⟨_, SqL.of y5⟩, for_list (K := K) (a := q5) (xs := vals)
        (fun i σ H' => (∃ v6 : Option V, σ = [some (.ref a), some (.ref h), some (.ref Nm), some (.ref R), v4, v5, v6, none]) ∧ L2.Same G5 H') ⟨⟨_, rfl⟩, L2.Same.refl _⟩ (fun i σ H' _ q => SqL.of (q.2 _ _ y5)) ?_ ?_⟩
      · rintro m v σ H10 hm ⟨⟨v6, rfl⟩, S10⟩
        obtain ⟨val, hv⟩ := hvals v (List.mem_of_getElem? hm)
        refine ⟨_, rfl, v, val, rfl, hv.same S10, fun o H11 hf S11 => ⟨_, rfl, v, val, rfl, hv.same (S10.trans S11), fun o2 H12 hf2 S12 => ?_⟩⟩
        obtain rfl := fault_det hf hf2
        refine ⟨(eq_self o).1, _, rfl, ?_⟩
        rw [(eq_self o).2]
        exact iteF ⟨⟨_, rfl⟩, (S10.trans S11).trans S12⟩
      · rintro σ H10 ⟨⟨v6, rfl⟩, S10⟩
        have S9 := S95.trans S10
        have hH10 := hH9.same S9
        have N10 := S9 _ _ N9
        clear S95 S10 hvals y5 S9
        refine ⟨(by show 3 ≤ sizeLine; decide), fun t0 ht0 => ?_⟩
        have X0 := RK.Same.upd (o := .tup [V.str "`", .str "a", .str "b"]) ht0
        have x0 : (upd H10 t0 (.tup [V.str "`", .str "a", .str "b"])) t0 = some (.tup (([Str.ofString "`", Str.ofString "a", Str.ofString "b"] : Rm).map V.str)) := upd_same
        generalize upd H10 t0 (.tup [V.str "`", .str "a", .str "b"]) = J0 at X0 x0 ⊢
        refine ⟨(by show 3 ≤ sizeLine; decide), fun t1 ht1 => ?_⟩
        have X1 := RK.Same.upd (o := .tup [V.str "a", .str "b", .str "{"]) ht1
        have x1 : (upd J0 t1 (.tup [V.str "a", .str "b", .str "{"])) t1 = some (.tup (([Str.ofString "a", Str.ofString "b", Str.ofString "{"] : Rm).map V.str)) := upd_same
        generalize upd J0 t1 (.tup [V.str "a", .str "b", .str "{"]) = J1 at X1 x1 ⊢
        refine ⟨(by show 3 ≤ sizeLine; decide), fun t2 ht2 => ?_⟩
        have X2 := RK.Same.upd (o := .tup [V.str "a", .str "b", .str "z~"]) ht2
        have x2 : (upd J1 t2 (.tup [V.str "a", .str "b", .str "z~"])) t2 = some (.tup (([Str.ofString "a", Str.ofString "b", Str.ofString "z~"] : Rm).map V.str)) := upd_same
        generalize upd J1 t2 (.tup [V.str "a", .str "b", .str "z~"]) = J2 at X2 x2 ⊢
        refine ⟨(by show 3 ≤ sizeLine; decide), fun t3 ht3 => ?_⟩
        have X3 := RK.Same.upd (o := .tup [V.str "a", .str "b", .str "c\n"]) ht3
        have x3 : (upd J2 t3 (.tup [V.str "a", .str "b", .str "c\n"])) t3 = some (.tup (([Str.ofString "a", Str.ofString "b", Str.ofString "c\n"] : Rm).map V.str)) := upd_same
        generalize upd J2 t3 (.tup [V.str "a", .str "b", .str "c\n"]) = J3 at X3 x3 ⊢
        refine ⟨(by show 3 ≤ sizeLine; decide), fun t4 ht4 => ?_⟩
        have X4 := RK.Same.upd (o := .tup [V.str "@", .str "a", .str "b"]) ht4
        have x4 : (upd J3 t4 (.tup [V.str "@", .str "a", .str "b"])) t4 = some (.tup (([Str.ofString "@", Str.ofString "a", Str.ofString "b"] : Rm).map V.str)) := upd_same
        generalize upd J3 t4 (.tup [V.str "@", .str "a", .str "b"]) = J4 at X4 x4 ⊢
        refine ⟨(by show 3 ≤ sizeLine; decide), fun t5 ht5 => ?_⟩
        have X5 := RK.Same.upd (o := .tup [V.str "a", .str "b", .str "c["]) ht5
        have x5 : (upd J4 t5 (.tup [V.str "a", .str "b", .str "c["])) t5 = some (.tup (([Str.ofString "a", Str.ofString "b", Str.ofString "c["] : Rm).map V.str)) := upd_same
        generalize upd J4 t5 (.tup [V.str "a", .str "b", .str "c["]) = J5 at X5 x5 ⊢
        refine ⟨(by show 6 ≤ sizeLine; decide), fun q6 hq6 => ?_⟩
        have X6 := RK.Same.upd (o := .lst [V.ref t0, .ref t1, .ref t2, .ref t3, .ref t4, .ref t5]) hq6
        have y6 : (upd J5 q6 (.lst [V.ref t0, .ref t1, .ref t2, .ref t3, .ref t4, .ref t5])) q6 = _ := upd_same
        have hrows : ∀ v ∈ [V.ref t0, .ref t1, .ref t2, .ref t3, .ref t4, .ref t5], ∃ (t : Addr) (r : Rm), v = .ref t ∧ J5 t = some (.tup (r.map V.str)) ∧ r.length ≤ 5 ∧ (∀ x ∈ r, x.length ≤ 5) ∧ ∃ q ∈ r, ¬ NameOk q := by
          intro v hv
          simp only [List.mem_cons, List.not_mem_nil, or_false] at hv
          rcases hv with rfl | rfl | rfl | rfl | rfl | rfl
          · exact ⟨t0, [Str.ofString "`", Str.ofString "a", Str.ofString "b"], rfl, (X5 _ _ (X4 _ _ (X3 _ _ (X2 _ _ (X1 _ _ x0))))), by show 3 ≤ 5; decide, by decide +kernel, by decide +kernel⟩
          · exact ⟨t1, [Str.ofString "a", Str.ofString "b", Str.ofString "{"], rfl, (X5 _ _ (X4 _ _ (X3 _ _ (X2 _ _ x1)))), by show 3 ≤ 5; decide, by decide +kernel, by decide +kernel⟩
          · exact ⟨t2, [Str.ofString "a", Str.ofString "b", Str.ofString "z~"], rfl, (X5 _ _ (X4 _ _ (X3 _ _ x2))), by show 3 ≤ 5; decide, by decide +kernel, by decide +kernel⟩
          · exact ⟨t3, [Str.ofString "a", Str.ofString "b", Str.ofString "c\n"], rfl, (X5 _ _ (X4 _ _ x3)), by show 3 ≤ 5; decide, by decide +kernel, by decide +kernel⟩
          · exact ⟨t4, [Str.ofString "@", Str.ofString "a", Str.ofString "b"], rfl, (X5 _ _ x4), by show 3 ≤ 5; decide, by decide +kernel, by decide +kernel⟩
          · exact ⟨t5, [Str.ofString "a", Str.ofString "b", Str.ofString "c["], rfl, x5, by show 3 ≤ 5; decide, by decide +kernel, by decide +kernel⟩
        generalize [V.ref t0, .ref t1, .ref t2, .ref t3, .ref t4, .ref t5] = tps at y6 hrows X6 ⊢
        generalize upd J5 q6 (.lst tps) = G6 at X6 y6 ⊢
        have S106 := (((((X0.trans X1).trans X2).trans X3).trans X4).trans X5).trans X6
        refine ⟨q6, rfl, ⟨_, SqL.of y6⟩, for_list (K := K) (a := q6) (xs := tps)
          (fun i σ H' => (∃ v7 : Option V, σ = [some (.ref a), some (.ref h), some (.ref Nm), some (.ref R), v4, v5, v6, v7]) ∧ L2.Same G6 H') ⟨⟨_, rfl⟩, L2.Same.refl _⟩ (fun i σ H' _ q => SqL.of (q.2 _ _ y6)) ?_ ?_⟩
        · rintro m v σ H11 hm ⟨⟨v7, rfl⟩, S11⟩
          obtain ⟨t, r, rfl, et, rl5, rx5, rbad⟩ := hrows v (List.mem_of_getElem? hm)
          refine ⟨_, rfl, (by show 1 ≤ sizeLine; decide), fun p hp => ?_⟩
          have Sp := RK.Same.upd (o := .tup [V.ref t]) hp
          refine ⟨.ref p, some [some (r.map some)], rfl, val_of upd_same (by show 1 ≤ 1000; decide) (At2.one (item_row ((S11.trans Sp) _ _ (X6 _ _ et)) (by omega) fun x hx => by have := rx5 x hx; omega)), fun o H12 hf S12 => ?_⟩
          obtain rfl := fault_det hf (bad_row rbad)
          refine ⟨rfl, _, rfl, ?_⟩
          rw [ne_int]
          exact iteF ⟨⟨_, rfl⟩, (S11.trans Sp).trans S12⟩
        · rintro σ H11 ⟨⟨v7, rfl⟩, S11⟩
          have S1011 := S106.trans S11
          exact ⟨_, rfl, _, rfl, h, l, Nm, names, rfl, hH10.same S1011, S1011 _ _ N10, nh, nl, nlen, nnd, nok, fun H12 hH12 k12 => ⟨true, rfl, iteT ⟨_, rfl, h, l, 1000, rfl, hH12, by decide, by decide, fun n H13 hn hH13 k13 => ⟨n, rfl, fun H14 S14 => k H14⟩⟩⟩⟩
end
end K01


set_option Elab.async false
set_option linter.all false
set_option maxRecDepth 100000
set_option maxHeartbeats 4000000
namespace K01
open PySem PySem.Spec PyProof.Rows L2 RK
structure Df (K : PySem.W.Frag) (mg : Str → Option Value) (x : Str) (st : Stmt) : Prop where
  ex : ∃ (f : Addr) (fd : FuncData), Fun K x x st f fd ∧ mg x = some (.ref f)
theorem df_mk {K : PySem.W.Frag} {h : Heap} {mg : Str → Option Value} {x : Str} {st : Stmt} {f : Addr} {oc : Value} {od an : Option Addr} {sl : Array (Option Value)} {kV dc pm cd ct : Value} (X : K.In h) (G : h.Ns mainGlobals mg)
    (a : PySem.W.nsIn K mainGlobals x = some (some (.ref f))) (l : K.lookup f = some ⟨oc, od, .func (PySem.W.fnOf x x (defArgs st) (defBody st) (defScope st) .none kV dc pm an cd ct), sl⟩) (c : PySem.W.codeIn K cd x = true)
    (k : PySem.W.keepIn K (.ref f) = true) : Df K mg x st := ⟨f, _, fun_mk l c k, PySem.W.mg_of X G a⟩
/-- a method of a class, where the top has put it -/
structure Dm (K : PySem.W.Frag) (C : Addr) (m qual : Str) (st : Stmt) : Prop where
  ex : ∃ (f : Addr) (fd : FuncData), Fun K m qual st f fd ∧ L2.Meth K C m f
theorem dm_mk {K : PySem.W.Frag} {C : Addr} {m qual : Str} {st : Stmt} {f : Addr} {oc : Value} {od an : Option Addr} {sl : Array (Option Value)} {kV dc pm cd ct : Value}
    (a : PySem.W.findIn K (.ref C) m = some (some (.ref f))) (t : PySem.W.typeIn K (.ref f) = some (.type "function")) (l : K.lookup f = some ⟨oc, od, .func (PySem.W.fnOf m qual (defArgs st) (defBody st) (defScope st) .none kV dc pm an cd ct), sl⟩) (c : PySem.W.codeIn K cd qual = true)
    (k : PySem.W.keepIn K (.ref f) = true) : Dm K C m qual st := ⟨f, _, fun_mk l c k, ⟨a, beq_iff_eq.mpr t, k⟩⟩
theorem kit_subT {K : PySem.W.Frag} {S : Addr} {T : String} {b : Bool} (hd : PySem.W.hasDictIn K S = true) (ht : PySem.W.typeIn K (.ref S) = some (.type "type"))
    (hs : PySem.W.subIn K (.type T) (.ref S) = some b) : PySem.W.kitOne K (.type T) (.ref S) = some b := by
  obtain ⟨cd, hc, _⟩ := PySem.W.any_some hd
  have e2 : ((PySem.W.clsIn K S).isSome && PySem.W.typeIn K (.ref S) == some (.type "type")) = true := by rw [hc, ht] <;> rfl
  unfold PySem.W.kitOne PySem.W.kitCls
  rw [if_neg (by simp)]
  dsimp only
  rw [if_pos e2]
  exact hs
theorem nf_sub {K : PySem.W.Frag} {S : Addr} {T : Value} (hs : PySem.W.subIn K T (.ref S) = some false) : PySem.W.notFirst K S T = true := by
  unfold PySem.W.notFirst
  rw [hs, Bool.or_eq_true]
  exact .inr (by decide)
theorem exm_self {K : PySem.W.Frag} {S C : Addr} (h1 : PySem.W.subIn K (.ref S) (.type "BaseException") = some true) (hd : PySem.W.hasDictIn K S = true) (h3 : PySem.W.typeIn K (.ref S) = some (.type "type"))
    (h4 : PySem.W.subIn K (.ref C) (.ref S) = some true) : PySem.W.exmOne K (.ref C) (.ref S) = some true := PySem.W.exm_ref h1 hd h3 h4

def cAt (C0 C1 C2 C3 C4 C5 C6 C7 C8 C9 : Addr) : Nat → Addr
  | 0 => C0
  | 1 => C1
  | 2 => C2
  | 3 => C3
  | 4 => C4
  | 5 => C5
  | 6 => C6
  | 7 => C7
  | 8 => C8
  | _ => C9
theorem all10 {p : Nat → Prop} (h0 : p 0) (h1 : p 1) (h2 : p 2) (h3 : p 3) (h4 : p 4) (h5 : p 5) (h6 : p 6) (h7 : p 7) (h8 : p 8) (h9 : p 9) : ∀ i, i < 10 → p i
  | 0, _ => h0
  | 1, _ => h1
  | 2, _ => h2
  | 3, _ => h3
  | 4, _ => h4
  | 5, _ => h5
  | 6, _ => h6
  | 7, _ => h7
  | 8, _ => h8
  | 9, _ => h9
  | n + 10, h => absurd h (by omega)
theorem cls_in {K : PySem.W.Frag} {S : Addr} (hd : PySem.W.hasDictIn K S = true) (ht : PySem.W.typeIn K (.ref S) = some (.type "type")) : ((PySem.W.clsIn K S).isSome && PySem.W.typeIn K (.ref S) == some (.type "type")) = true := by
  obtain ⟨cd, hc, _⟩ := PySem.W.any_some hd
  rw [hc, ht] <;> rfl
theorem kit_true {K : PySem.W.Frag} {C S : Addr} (hd : PySem.W.hasDictIn K S = true) (ht : PySem.W.typeIn K (.ref S) = some (.type "type")) (hs : PySem.W.subIn K (.ref C) (.ref S) = some true) : PySem.W.kitOne K (.ref C) (.ref S) = some true := by
  unfold PySem.W.kitOne PySem.W.kitCls
  by_cases h : (Value.ref C == Value.ref S) = true
  · rw [if_pos h]
  · rw [if_neg h]
    dsimp only
    rw [if_pos (cls_in hd ht)]
    exact hs
theorem kit_false {K : PySem.W.Frag} {C S : Addr} (hd : PySem.W.hasDictIn K S = true) (ht : PySem.W.typeIn K (.ref S) = some (.type "type")) (self : PySem.W.subIn K (.ref S) (.ref S) = some true) (hs : PySem.W.subIn K (.ref C) (.ref S) = some false) : PySem.W.kitOne K (.ref C) (.ref S) = some false := by
  unfold PySem.W.kitOne PySem.W.kitCls
  by_cases h : (Value.ref C == Value.ref S) = true
  · have e : Value.ref C = Value.ref S := beq_iff_eq.mp h
    rw [e, self] at hs
    cases hs
  · rw [if_neg h]
    dsimp only
    rw [if_pos (cls_in hd ht)]
    exact hs
theorem kit_typ {K : PySem.W.Frag} {C : Addr} {T : String} (hm : PySem.W.kitMeta T = true) (hs : PySem.W.subIn K (.ref C) (.type T) = some true) : PySem.W.kitOne K (.ref C) (.type T) = some true := by
  unfold PySem.W.kitOne PySem.W.kitCls
  rw [if_neg (by simp)]
  dsimp only
  rw [if_pos hm]
  exact hs
theorem all_mk {l : PySem.W.OpenLaw} {w : World} {K : PySem.W.Frag} {h : Heap} {mg : Str → Option Value} {fa fL CB C0 C1 C2 C3 C4 C5 C6 C7 C8 C9 CR : Addr} (X : K.In h) (G : h.Ns mainGlobals mg) (hfa : mg "law" = some (.ref fa))
    {odL anL : Option Addr} {slL : Array (Option Value)} {ocL kVL dcL pmL cdL ctL : Value} {t_LETTERS t_MOST_ROOMS t_MOST_OUTCOMES : Tok}
    (a_CB : PySem.W.nsIn K mainGlobals "Book" = some (some (.ref CB)))
    (pg_CB : PySem.W.plainGet K CB Str.empty = true)
    (hd_CB : PySem.W.hasDictIn K CB = true)
    (po_CB : PySem.W.plainOver K CB = true)
    (sa_CB : PySem.W.findIn K (.ref CB) "__setattr__" = some (some (.builtin "object.__setattr__")))
    (mk_CB : PySem.W.makesIn K CB = true)
    (kp_CB : PySem.W.keepIn K (.ref CB) = true)
    (ty_CB : PySem.W.typeIn K (.ref CB) = some (.type "type"))
    (cc_CB : PySem.W.findIn K (.ref CB) "__class__" = some (some (.builtin "object.__class__")))
    (mo_CB : PySem.W.mroIn K CB (.type "object") = some true)
    (so_CB : PySem.W.subIn K (.ref CB) (.type "object") = some true)
    (na_CB_rooms : PySem.W.findIn K (.ref CB) "rooms" = some none)
    (na_CB__homes : PySem.W.findIn K (.ref CB) "_homes" = some none)
    {nm_C0 q_C0 : Str} {N_C0 : Addr} {bs_C0 : List Value} {sn_C0 : List Str} {sub_C0 : List Value} {ab_C0 : Bool} {col_C0 : Option Bool} {dd_C0 : Option Addr} {m0_C0 m1_C0 m2_C0 m3_C0 m5_C0 : Option Value}
    (a_C0 : PySem.W.nsIn K mainGlobals "InvalidBook" = some (some (.ref C0)))
    (x_C0 : K.lookup C0 = some (excClassObj nm_C0 q_C0 C0 N_C0 bs_C0 [.ref CR, .type "ValueError", .type "Exception", .type "BaseException", .type "object"] true sn_C0 sub_C0 ab_C0 col_C0 dd_C0 m0_C0 m1_C0 m2_C0 m3_C0 m5_C0 "ValueError.__new__"))
    (sa_C0 : PySem.W.findIn K (.ref C0) "__setattr__" = some (some (.builtin "object.__setattr__")))
    (no_C0 : PySem.W.findIn K (.ref C0) "at" = some none)
    (eC_C0 : PySem.W.subIn K (.ref C0) (.type "BaseException") = some true)
    (ty_C0 : PySem.W.typeIn K (.ref C0) = some (.type "type"))
    (kp_C0 : PySem.W.keepIn K (.ref C0) = true)
    (ga_C0 : PySem.W.findIn K (.ref C0) "__getattribute__" = some (some (.builtin "BaseException.__getattribute__")))
    (gg_C0 : PySem.W.findIn K (.ref C0) "__getattr__" = some none)
    (hd_C0 : PySem.W.hasDictIn K C0 = true)
    (cc_C0 : PySem.W.findIn K (.ref C0) "__class__" = some (some (.builtin "object.__class__")))
    (mo_C0 : PySem.W.mroIn K C0 (.type "object") = some true)
    {nm_C1 q_C1 : Str} {N_C1 : Addr} {bs_C1 : List Value} {sn_C1 : List Str} {sub_C1 : List Value} {ab_C1 : Bool} {col_C1 : Option Bool} {dd_C1 : Option Addr} {m0_C1 m1_C1 m2_C1 m3_C1 m5_C1 : Option Value}
    (a_C1 : PySem.W.nsIn K mainGlobals "InvalidText" = some (some (.ref C1)))
    (x_C1 : K.lookup C1 = some (excClassObj nm_C1 q_C1 C1 N_C1 bs_C1 [.ref CR, .type "ValueError", .type "Exception", .type "BaseException", .type "object"] true sn_C1 sub_C1 ab_C1 col_C1 dd_C1 m0_C1 m1_C1 m2_C1 m3_C1 m5_C1 "ValueError.__new__"))
    (sa_C1 : PySem.W.findIn K (.ref C1) "__setattr__" = some (some (.builtin "object.__setattr__")))
    (no_C1 : PySem.W.findIn K (.ref C1) "at" = some none)
    (eC_C1 : PySem.W.subIn K (.ref C1) (.type "BaseException") = some true)
    (ty_C1 : PySem.W.typeIn K (.ref C1) = some (.type "type"))
    (kp_C1 : PySem.W.keepIn K (.ref C1) = true)
    (ga_C1 : PySem.W.findIn K (.ref C1) "__getattribute__" = some (some (.builtin "BaseException.__getattribute__")))
    (gg_C1 : PySem.W.findIn K (.ref C1) "__getattr__" = some none)
    (hd_C1 : PySem.W.hasDictIn K C1 = true)
    (cc_C1 : PySem.W.findIn K (.ref C1) "__class__" = some (some (.builtin "object.__class__")))
    (mo_C1 : PySem.W.mroIn K C1 (.type "object") = some true)
    {nm_C2 q_C2 : Str} {N_C2 : Addr} {bs_C2 : List Value} {sn_C2 : List Str} {sub_C2 : List Value} {ab_C2 : Bool} {col_C2 : Option Bool} {dd_C2 : Option Addr} {m0_C2 m1_C2 m2_C2 m3_C2 m5_C2 : Option Value}
    (a_C2 : PySem.W.nsIn K mainGlobals "InvalidSaying" = some (some (.ref C2)))
    (x_C2 : K.lookup C2 = some (excClassObj nm_C2 q_C2 C2 N_C2 bs_C2 [.ref CR, .type "ValueError", .type "Exception", .type "BaseException", .type "object"] true sn_C2 sub_C2 ab_C2 col_C2 dd_C2 m0_C2 m1_C2 m2_C2 m3_C2 m5_C2 "ValueError.__new__"))
    (sa_C2 : PySem.W.findIn K (.ref C2) "__setattr__" = some (some (.builtin "object.__setattr__")))
    (no_C2 : PySem.W.findIn K (.ref C2) "at" = some none)
    (eC_C2 : PySem.W.subIn K (.ref C2) (.type "BaseException") = some true)
    (ty_C2 : PySem.W.typeIn K (.ref C2) = some (.type "type"))
    (kp_C2 : PySem.W.keepIn K (.ref C2) = true)
    (ga_C2 : PySem.W.findIn K (.ref C2) "__getattribute__" = some (some (.builtin "BaseException.__getattribute__")))
    (gg_C2 : PySem.W.findIn K (.ref C2) "__getattr__" = some none)
    (hd_C2 : PySem.W.hasDictIn K C2 = true)
    (cc_C2 : PySem.W.findIn K (.ref C2) "__class__" = some (some (.builtin "object.__class__")))
    (mo_C2 : PySem.W.mroIn K C2 (.type "object") = some true)
    {nm_C3 q_C3 : Str} {N_C3 : Addr} {bs_C3 : List Value} {sn_C3 : List Str} {sub_C3 : List Value} {ab_C3 : Bool} {col_C3 : Option Bool} {dd_C3 : Option Addr} {m0_C3 m1_C3 m2_C3 m3_C3 m5_C3 : Option Value}
    (a_C3 : PySem.W.nsIn K mainGlobals "InvalidRing" = some (some (.ref C3)))
    (x_C3 : K.lookup C3 = some (excClassObj nm_C3 q_C3 C3 N_C3 bs_C3 [.ref CR, .type "ValueError", .type "Exception", .type "BaseException", .type "object"] true sn_C3 sub_C3 ab_C3 col_C3 dd_C3 m0_C3 m1_C3 m2_C3 m3_C3 m5_C3 "ValueError.__new__"))
    (sa_C3 : PySem.W.findIn K (.ref C3) "__setattr__" = some (some (.builtin "object.__setattr__")))
    (no_C3 : PySem.W.findIn K (.ref C3) "at" = some none)
    (eC_C3 : PySem.W.subIn K (.ref C3) (.type "BaseException") = some true)
    (ty_C3 : PySem.W.typeIn K (.ref C3) = some (.type "type"))
    (kp_C3 : PySem.W.keepIn K (.ref C3) = true)
    (ga_C3 : PySem.W.findIn K (.ref C3) "__getattribute__" = some (some (.builtin "BaseException.__getattribute__")))
    (gg_C3 : PySem.W.findIn K (.ref C3) "__getattr__" = some none)
    (hd_C3 : PySem.W.hasDictIn K C3 = true)
    (cc_C3 : PySem.W.findIn K (.ref C3) "__class__" = some (some (.builtin "object.__class__")))
    (mo_C3 : PySem.W.mroIn K C3 (.type "object") = some true)
    {nm_C4 q_C4 : Str} {N_C4 : Addr} {bs_C4 : List Value} {sn_C4 : List Str} {sub_C4 : List Value} {ab_C4 : Bool} {col_C4 : Option Bool} {dd_C4 : Option Addr} {m0_C4 m1_C4 m2_C4 m3_C4 m5_C4 : Option Value}
    (a_C4 : PySem.W.nsIn K mainGlobals "InvalidWeight" = some (some (.ref C4)))
    (x_C4 : K.lookup C4 = some (excClassObj nm_C4 q_C4 C4 N_C4 bs_C4 [.ref CR, .type "ValueError", .type "Exception", .type "BaseException", .type "object"] true sn_C4 sub_C4 ab_C4 col_C4 dd_C4 m0_C4 m1_C4 m2_C4 m3_C4 m5_C4 "ValueError.__new__"))
    (sa_C4 : PySem.W.findIn K (.ref C4) "__setattr__" = some (some (.builtin "object.__setattr__")))
    (no_C4 : PySem.W.findIn K (.ref C4) "at" = some none)
    (eC_C4 : PySem.W.subIn K (.ref C4) (.type "BaseException") = some true)
    (ty_C4 : PySem.W.typeIn K (.ref C4) = some (.type "type"))
    (kp_C4 : PySem.W.keepIn K (.ref C4) = true)
    (ga_C4 : PySem.W.findIn K (.ref C4) "__getattribute__" = some (some (.builtin "BaseException.__getattribute__")))
    (gg_C4 : PySem.W.findIn K (.ref C4) "__getattr__" = some none)
    (hd_C4 : PySem.W.hasDictIn K C4 = true)
    (cc_C4 : PySem.W.findIn K (.ref C4) "__class__" = some (some (.builtin "object.__class__")))
    (mo_C4 : PySem.W.mroIn K C4 (.type "object") = some true)
    {nm_C5 q_C5 : Str} {N_C5 : Addr} {bs_C5 : List Value} {sn_C5 : List Str} {sub_C5 : List Value} {ab_C5 : Bool} {col_C5 : Option Bool} {dd_C5 : Option Addr} {m0_C5 m1_C5 m2_C5 m3_C5 m5_C5 : Option Value}
    (a_C5 : PySem.W.nsIn K mainGlobals "InvalidLook" = some (some (.ref C5)))
    (x_C5 : K.lookup C5 = some (excClassObj nm_C5 q_C5 C5 N_C5 bs_C5 [.ref CR, .type "ValueError", .type "Exception", .type "BaseException", .type "object"] true sn_C5 sub_C5 ab_C5 col_C5 dd_C5 m0_C5 m1_C5 m2_C5 m3_C5 m5_C5 "ValueError.__new__"))
    (sa_C5 : PySem.W.findIn K (.ref C5) "__setattr__" = some (some (.builtin "object.__setattr__")))
    (no_C5 : PySem.W.findIn K (.ref C5) "at" = some none)
    (eC_C5 : PySem.W.subIn K (.ref C5) (.type "BaseException") = some true)
    (ty_C5 : PySem.W.typeIn K (.ref C5) = some (.type "type"))
    (kp_C5 : PySem.W.keepIn K (.ref C5) = true)
    (ga_C5 : PySem.W.findIn K (.ref C5) "__getattribute__" = some (some (.builtin "BaseException.__getattribute__")))
    (gg_C5 : PySem.W.findIn K (.ref C5) "__getattr__" = some none)
    (hd_C5 : PySem.W.hasDictIn K C5 = true)
    (cc_C5 : PySem.W.findIn K (.ref C5) "__class__" = some (some (.builtin "object.__class__")))
    (mo_C5 : PySem.W.mroIn K C5 (.type "object") = some true)
    {nm_C6 q_C6 : Str} {N_C6 : Addr} {bs_C6 : List Value} {sn_C6 : List Str} {sub_C6 : List Value} {ab_C6 : Bool} {col_C6 : Option Bool} {dd_C6 : Option Addr} {m0_C6 m1_C6 m2_C6 m3_C6 m5_C6 : Option Value}
    (a_C6 : PySem.W.nsIn K mainGlobals "InvalidNumber" = some (some (.ref C6)))
    (x_C6 : K.lookup C6 = some (excClassObj nm_C6 q_C6 C6 N_C6 bs_C6 [.ref CR, .type "ValueError", .type "Exception", .type "BaseException", .type "object"] true sn_C6 sub_C6 ab_C6 col_C6 dd_C6 m0_C6 m1_C6 m2_C6 m3_C6 m5_C6 "ValueError.__new__"))
    (sa_C6 : PySem.W.findIn K (.ref C6) "__setattr__" = some (some (.builtin "object.__setattr__")))
    (no_C6 : PySem.W.findIn K (.ref C6) "word" = some none)
    (eC_C6 : PySem.W.subIn K (.ref C6) (.type "BaseException") = some true)
    (ty_C6 : PySem.W.typeIn K (.ref C6) = some (.type "type"))
    (kp_C6 : PySem.W.keepIn K (.ref C6) = true)
    (ga_C6 : PySem.W.findIn K (.ref C6) "__getattribute__" = some (some (.builtin "BaseException.__getattribute__")))
    (gg_C6 : PySem.W.findIn K (.ref C6) "__getattr__" = some none)
    (hd_C6 : PySem.W.hasDictIn K C6 = true)
    (cc_C6 : PySem.W.findIn K (.ref C6) "__class__" = some (some (.builtin "object.__class__")))
    (mo_C6 : PySem.W.mroIn K C6 (.type "object") = some true)
    (a_C7 : PySem.W.nsIn K mainGlobals "NoWeight" = some (some (.ref C7)))
    (eC_C7 : PySem.W.subIn K (.ref C7) (.type "BaseException") = some true)
    (ty_C7 : PySem.W.typeIn K (.ref C7) = some (.type "type"))
    (kp_C7 : PySem.W.keepIn K (.ref C7) = true)
    (ga_C7 : PySem.W.findIn K (.ref C7) "__getattribute__" = some (some (.builtin "BaseException.__getattribute__")))
    (gg_C7 : PySem.W.findIn K (.ref C7) "__getattr__" = some none)
    (hd_C7 : PySem.W.hasDictIn K C7 = true)
    (cc_C7 : PySem.W.findIn K (.ref C7) "__class__" = some (some (.builtin "object.__class__")))
    (mo_C7 : PySem.W.mroIn K C7 (.type "object") = some true)
    {nm_C8 q_C8 : Str} {N_C8 : Addr} {bs_C8 : List Value} {sn_C8 : List Str} {sub_C8 : List Value} {ab_C8 : Bool} {col_C8 : Option Bool} {dd_C8 : Option Addr} {m0_C8 m1_C8 m2_C8 m3_C8 m5_C8 : Option Value}
    (a_C8 : PySem.W.nsIn K mainGlobals "Refused" = some (some (.ref C8)))
    (x_C8 : K.lookup C8 = some (excClassObj nm_C8 q_C8 C8 N_C8 bs_C8 [.ref CR, .type "ValueError", .type "Exception", .type "BaseException", .type "object"] true sn_C8 sub_C8 ab_C8 col_C8 dd_C8 m0_C8 m1_C8 m2_C8 m3_C8 m5_C8 "ValueError.__new__"))
    (sa_C8 : PySem.W.findIn K (.ref C8) "__setattr__" = some (some (.builtin "object.__setattr__")))
    (no_C8 : PySem.W.findIn K (.ref C8) "word" = some none)
    (eC_C8 : PySem.W.subIn K (.ref C8) (.type "BaseException") = some true)
    (ty_C8 : PySem.W.typeIn K (.ref C8) = some (.type "type"))
    (kp_C8 : PySem.W.keepIn K (.ref C8) = true)
    (ga_C8 : PySem.W.findIn K (.ref C8) "__getattribute__" = some (some (.builtin "BaseException.__getattribute__")))
    (gg_C8 : PySem.W.findIn K (.ref C8) "__getattr__" = some none)
    (hd_C8 : PySem.W.hasDictIn K C8 = true)
    (cc_C8 : PySem.W.findIn K (.ref C8) "__class__" = some (some (.builtin "object.__class__")))
    (mo_C8 : PySem.W.mroIn K C8 (.type "object") = some true)
    {nm_C9 q_C9 : Str} {N_C9 : Addr} {bs_C9 : List Value} {sn_C9 : List Str} {sub_C9 : List Value} {ab_C9 : Bool} {col_C9 : Option Bool} {dd_C9 : Option Addr} {m0_C9 m1_C9 m2_C9 m3_C9 m5_C9 : Option Value}
    (a_C9 : PySem.W.nsIn K mainGlobals "InvalidTerm" = some (some (.ref C9)))
    (x_C9 : K.lookup C9 = some (excClassObj nm_C9 q_C9 C9 N_C9 bs_C9 [.ref CR, .type "ValueError", .type "Exception", .type "BaseException", .type "object"] true sn_C9 sub_C9 ab_C9 col_C9 dd_C9 m0_C9 m1_C9 m2_C9 m3_C9 m5_C9 "ValueError.__new__"))
    (sa_C9 : PySem.W.findIn K (.ref C9) "__setattr__" = some (some (.builtin "object.__setattr__")))
    (no_C9 : PySem.W.findIn K (.ref C9) "at" = some none)
    (eC_C9 : PySem.W.subIn K (.ref C9) (.type "BaseException") = some true)
    (ty_C9 : PySem.W.typeIn K (.ref C9) = some (.type "type"))
    (kp_C9 : PySem.W.keepIn K (.ref C9) = true)
    (ga_C9 : PySem.W.findIn K (.ref C9) "__getattribute__" = some (some (.builtin "BaseException.__getattribute__")))
    (gg_C9 : PySem.W.findIn K (.ref C9) "__getattr__" = some none)
    (hd_C9 : PySem.W.hasDictIn K C9 = true)
    (cc_C9 : PySem.W.findIn K (.ref C9) "__class__" = some (some (.builtin "object.__class__")))
    (mo_C9 : PySem.W.mroIn K C9 (.type "object") = some true)
    (a_CR : PySem.W.nsIn K mainGlobals "RoomError" = some (some (.ref CR)))
    (hd_CR : PySem.W.hasDictIn K CR = true)
    (ty_CR : PySem.W.typeIn K (.ref CR) = some (.type "type"))
    (s_C0_C0 : PySem.W.subIn K (.ref C0) (.ref C0) = some true)
    (s_C0_C1 : PySem.W.subIn K (.ref C0) (.ref C1) = some false)
    (s_C0_C2 : PySem.W.subIn K (.ref C0) (.ref C2) = some false)
    (s_C0_C3 : PySem.W.subIn K (.ref C0) (.ref C3) = some false)
    (s_C0_C4 : PySem.W.subIn K (.ref C0) (.ref C4) = some false)
    (s_C0_C5 : PySem.W.subIn K (.ref C0) (.ref C5) = some false)
    (s_C0_C6 : PySem.W.subIn K (.ref C0) (.ref C6) = some false)
    (s_C0_C7 : PySem.W.subIn K (.ref C0) (.ref C7) = some false)
    (s_C0_C8 : PySem.W.subIn K (.ref C0) (.ref C8) = some false)
    (s_C0_C9 : PySem.W.subIn K (.ref C0) (.ref C9) = some false)
    (s_C1_C0 : PySem.W.subIn K (.ref C1) (.ref C0) = some false)
    (s_C1_C1 : PySem.W.subIn K (.ref C1) (.ref C1) = some true)
    (s_C1_C2 : PySem.W.subIn K (.ref C1) (.ref C2) = some false)
    (s_C1_C3 : PySem.W.subIn K (.ref C1) (.ref C3) = some false)
    (s_C1_C4 : PySem.W.subIn K (.ref C1) (.ref C4) = some false)
    (s_C1_C5 : PySem.W.subIn K (.ref C1) (.ref C5) = some false)
    (s_C1_C6 : PySem.W.subIn K (.ref C1) (.ref C6) = some false)
    (s_C1_C7 : PySem.W.subIn K (.ref C1) (.ref C7) = some false)
    (s_C1_C8 : PySem.W.subIn K (.ref C1) (.ref C8) = some false)
    (s_C1_C9 : PySem.W.subIn K (.ref C1) (.ref C9) = some false)
    (s_C2_C0 : PySem.W.subIn K (.ref C2) (.ref C0) = some false)
    (s_C2_C1 : PySem.W.subIn K (.ref C2) (.ref C1) = some false)
    (s_C2_C2 : PySem.W.subIn K (.ref C2) (.ref C2) = some true)
    (s_C2_C3 : PySem.W.subIn K (.ref C2) (.ref C3) = some false)
    (s_C2_C4 : PySem.W.subIn K (.ref C2) (.ref C4) = some false)
    (s_C2_C5 : PySem.W.subIn K (.ref C2) (.ref C5) = some false)
    (s_C2_C6 : PySem.W.subIn K (.ref C2) (.ref C6) = some false)
    (s_C2_C7 : PySem.W.subIn K (.ref C2) (.ref C7) = some false)
    (s_C2_C8 : PySem.W.subIn K (.ref C2) (.ref C8) = some false)
    (s_C2_C9 : PySem.W.subIn K (.ref C2) (.ref C9) = some false)
    (s_C3_C0 : PySem.W.subIn K (.ref C3) (.ref C0) = some false)
    (s_C3_C1 : PySem.W.subIn K (.ref C3) (.ref C1) = some false)
    (s_C3_C2 : PySem.W.subIn K (.ref C3) (.ref C2) = some false)
    (s_C3_C3 : PySem.W.subIn K (.ref C3) (.ref C3) = some true)
    (s_C3_C4 : PySem.W.subIn K (.ref C3) (.ref C4) = some false)
    (s_C3_C5 : PySem.W.subIn K (.ref C3) (.ref C5) = some false)
    (s_C3_C6 : PySem.W.subIn K (.ref C3) (.ref C6) = some false)
    (s_C3_C7 : PySem.W.subIn K (.ref C3) (.ref C7) = some false)
    (s_C3_C8 : PySem.W.subIn K (.ref C3) (.ref C8) = some false)
    (s_C3_C9 : PySem.W.subIn K (.ref C3) (.ref C9) = some false)
    (s_C4_C0 : PySem.W.subIn K (.ref C4) (.ref C0) = some false)
    (s_C4_C1 : PySem.W.subIn K (.ref C4) (.ref C1) = some false)
    (s_C4_C2 : PySem.W.subIn K (.ref C4) (.ref C2) = some false)
    (s_C4_C3 : PySem.W.subIn K (.ref C4) (.ref C3) = some false)
    (s_C4_C4 : PySem.W.subIn K (.ref C4) (.ref C4) = some true)
    (s_C4_C5 : PySem.W.subIn K (.ref C4) (.ref C5) = some false)
    (s_C4_C6 : PySem.W.subIn K (.ref C4) (.ref C6) = some false)
    (s_C4_C7 : PySem.W.subIn K (.ref C4) (.ref C7) = some false)
    (s_C4_C8 : PySem.W.subIn K (.ref C4) (.ref C8) = some false)
    (s_C4_C9 : PySem.W.subIn K (.ref C4) (.ref C9) = some false)
    (s_C5_C0 : PySem.W.subIn K (.ref C5) (.ref C0) = some false)
    (s_C5_C1 : PySem.W.subIn K (.ref C5) (.ref C1) = some false)
    (s_C5_C2 : PySem.W.subIn K (.ref C5) (.ref C2) = some false)
    (s_C5_C3 : PySem.W.subIn K (.ref C5) (.ref C3) = some false)
    (s_C5_C4 : PySem.W.subIn K (.ref C5) (.ref C4) = some false)
    (s_C5_C5 : PySem.W.subIn K (.ref C5) (.ref C5) = some true)
    (s_C5_C6 : PySem.W.subIn K (.ref C5) (.ref C6) = some false)
    (s_C5_C7 : PySem.W.subIn K (.ref C5) (.ref C7) = some false)
    (s_C5_C8 : PySem.W.subIn K (.ref C5) (.ref C8) = some false)
    (s_C5_C9 : PySem.W.subIn K (.ref C5) (.ref C9) = some false)
    (s_C6_C0 : PySem.W.subIn K (.ref C6) (.ref C0) = some false)
    (s_C6_C1 : PySem.W.subIn K (.ref C6) (.ref C1) = some false)
    (s_C6_C2 : PySem.W.subIn K (.ref C6) (.ref C2) = some false)
    (s_C6_C3 : PySem.W.subIn K (.ref C6) (.ref C3) = some false)
    (s_C6_C4 : PySem.W.subIn K (.ref C6) (.ref C4) = some false)
    (s_C6_C5 : PySem.W.subIn K (.ref C6) (.ref C5) = some false)
    (s_C6_C6 : PySem.W.subIn K (.ref C6) (.ref C6) = some true)
    (s_C6_C7 : PySem.W.subIn K (.ref C6) (.ref C7) = some false)
    (s_C6_C8 : PySem.W.subIn K (.ref C6) (.ref C8) = some false)
    (s_C6_C9 : PySem.W.subIn K (.ref C6) (.ref C9) = some false)
    (s_C7_C0 : PySem.W.subIn K (.ref C7) (.ref C0) = some false)
    (s_C7_C1 : PySem.W.subIn K (.ref C7) (.ref C1) = some false)
    (s_C7_C2 : PySem.W.subIn K (.ref C7) (.ref C2) = some false)
    (s_C7_C3 : PySem.W.subIn K (.ref C7) (.ref C3) = some false)
    (s_C7_C4 : PySem.W.subIn K (.ref C7) (.ref C4) = some false)
    (s_C7_C5 : PySem.W.subIn K (.ref C7) (.ref C5) = some false)
    (s_C7_C6 : PySem.W.subIn K (.ref C7) (.ref C6) = some false)
    (s_C7_C7 : PySem.W.subIn K (.ref C7) (.ref C7) = some true)
    (s_C7_C8 : PySem.W.subIn K (.ref C7) (.ref C8) = some false)
    (s_C7_C9 : PySem.W.subIn K (.ref C7) (.ref C9) = some false)
    (s_C8_C0 : PySem.W.subIn K (.ref C8) (.ref C0) = some false)
    (s_C8_C1 : PySem.W.subIn K (.ref C8) (.ref C1) = some false)
    (s_C8_C2 : PySem.W.subIn K (.ref C8) (.ref C2) = some false)
    (s_C8_C3 : PySem.W.subIn K (.ref C8) (.ref C3) = some false)
    (s_C8_C4 : PySem.W.subIn K (.ref C8) (.ref C4) = some false)
    (s_C8_C5 : PySem.W.subIn K (.ref C8) (.ref C5) = some false)
    (s_C8_C6 : PySem.W.subIn K (.ref C8) (.ref C6) = some false)
    (s_C8_C7 : PySem.W.subIn K (.ref C8) (.ref C7) = some false)
    (s_C8_C8 : PySem.W.subIn K (.ref C8) (.ref C8) = some true)
    (s_C8_C9 : PySem.W.subIn K (.ref C8) (.ref C9) = some false)
    (s_C9_C0 : PySem.W.subIn K (.ref C9) (.ref C0) = some false)
    (s_C9_C1 : PySem.W.subIn K (.ref C9) (.ref C1) = some false)
    (s_C9_C2 : PySem.W.subIn K (.ref C9) (.ref C2) = some false)
    (s_C9_C3 : PySem.W.subIn K (.ref C9) (.ref C3) = some false)
    (s_C9_C4 : PySem.W.subIn K (.ref C9) (.ref C4) = some false)
    (s_C9_C5 : PySem.W.subIn K (.ref C9) (.ref C5) = some false)
    (s_C9_C6 : PySem.W.subIn K (.ref C9) (.ref C6) = some false)
    (s_C9_C7 : PySem.W.subIn K (.ref C9) (.ref C7) = some false)
    (s_C9_C8 : PySem.W.subIn K (.ref C9) (.ref C8) = some false)
    (s_C9_C9 : PySem.W.subIn K (.ref C9) (.ref C9) = some true)
    (s_C0_CR : PySem.W.subIn K (.ref C0) (.ref CR) = some true)
    (s_C1_CR : PySem.W.subIn K (.ref C1) (.ref CR) = some true)
    (s_C2_CR : PySem.W.subIn K (.ref C2) (.ref CR) = some true)
    (s_C3_CR : PySem.W.subIn K (.ref C3) (.ref CR) = some true)
    (s_C4_CR : PySem.W.subIn K (.ref C4) (.ref CR) = some true)
    (s_C5_CR : PySem.W.subIn K (.ref C5) (.ref CR) = some true)
    (s_C6_CR : PySem.W.subIn K (.ref C6) (.ref CR) = some true)
    (s_C7_CR : PySem.W.subIn K (.ref C7) (.ref CR) = some true)
    (s_C8_CR : PySem.W.subIn K (.ref C8) (.ref CR) = some true)
    (s_C9_CR : PySem.W.subIn K (.ref C9) (.ref CR) = some true)
    (s_C0_ValueError : PySem.W.subIn K (.ref C0) (.type "ValueError") = some true)
    (s_C1_ValueError : PySem.W.subIn K (.ref C1) (.type "ValueError") = some true)
    (s_C2_ValueError : PySem.W.subIn K (.ref C2) (.type "ValueError") = some true)
    (s_C3_ValueError : PySem.W.subIn K (.ref C3) (.type "ValueError") = some true)
    (s_C4_ValueError : PySem.W.subIn K (.ref C4) (.type "ValueError") = some true)
    (s_C5_ValueError : PySem.W.subIn K (.ref C5) (.type "ValueError") = some true)
    (s_C6_ValueError : PySem.W.subIn K (.ref C6) (.type "ValueError") = some true)
    (s_C7_ValueError : PySem.W.subIn K (.ref C7) (.type "ValueError") = some true)
    (s_C8_ValueError : PySem.W.subIn K (.ref C8) (.type "ValueError") = some true)
    (s_C9_ValueError : PySem.W.subIn K (.ref C9) (.type "ValueError") = some true)
    (sp : PySem.W.specialIn K (.builtin "object.__class__") "__get__" = some (some (.builtin "getset_descriptor.__get__")))
    (ti : PySem.W.takesIn K (.builtin "object.__class__") = some true)
    (v_LETTERS : PySem.W.nsIn K mainGlobals "LETTERS" = some (some (.str "abcdefghijklmnopqrstuvwxyz" t_LETTERS)))
    (v_MOST_ROOMS : PySem.W.nsIn K mainGlobals "MOST_ROOMS" = some (some (.int 10 t_MOST_ROOMS)))
    (v_MOST_OUTCOMES : PySem.W.nsIn K mainGlobals "MOST_OUTCOMES" = some (some (.int 24 t_MOST_OUTCOMES)))
    (z_isinstance : PySem.W.nsIn K mainGlobals "isinstance" = some none)
    (z_str : PySem.W.nsIn K mainGlobals "str" = some none)
    (z_tuple : PySem.W.nsIn K mainGlobals "tuple" = some none)
    (z_len : PySem.W.nsIn K mainGlobals "len" = some none)
    (z_all : PySem.W.nsIn K mainGlobals "all" = some none)
    (z_any : PySem.W.nsIn K mainGlobals "any" = some none)
    (z_range : PySem.W.nsIn K mainGlobals "range" = some none)
    (z_enumerate : PySem.W.nsIn K mainGlobals "enumerate" = some none)
    (z_sorted : PySem.W.nsIn K mainGlobals "sorted" = some none)
    (z_abs : PySem.W.nsIn K mainGlobals "abs" = some none)
    (z_int : PySem.W.nsIn K mainGlobals "int" = some none)
    (z_list : PySem.W.nsIn K mainGlobals "list" = some none)
    (z_ValueError : PySem.W.nsIn K mainGlobals "ValueError" = some none)
    (q7 : PySem.W.excIn K C7 [.type "ValueError", .type "Exception", .type "BaseException", .type "object"] "ValueError.__new__" = true)
    (aL : PySem.W.nsIn K mainGlobals "law" = some (some (.ref fL)))
    (lL : K.lookup fL = some ⟨ocL, odL, .func (PySem.W.fnOf "law" "law" (defArgs sLaw) (defBody sLaw) (defScope sLaw) .none kVL dcL pmL anL cdL ctL), slL⟩)
    (cL : PySem.W.codeIn K cdL "law" = true)
    (kL : PySem.W.keepIn K (.ref fL) = true)
    (d0 : Df K mg "is_name" sName)
    (d1 : Df K mg "is_ascending" sAsc)
    (d2 : Df K mg "_is_room" sIsRoom)
    (d3 : Df K mg "_crosses_twice" sCross)
    (d4 : Df K mg "_common" sCommon)
    (d5 : Df K mg "_homes_of" sHomes)
    (d6 : Df K mg "_law_heap" sHeap)
    (d7 : Df K mg "_law_draw" sDraw)
    (d8 : Df K mg "_law_pick" sPick)
    (d9 : Df K mg "_law_names" sNames)
    (d10 : Df K mg "_law_apart" sApart)
    (d11 : Df K mg "_law_rooms" sRooms)
    (d12 : Df K mg "_law_named" sNamed)
    (d13 : Df K mg "_law_fault" sFault)
    (d14 : Df K mg "_law_told" sToldA)
    (d15 : Df K mg "_law_spoilt" sSpoilt)
    (d16 : Df K mg "_law_chain" sChain)
    (d17 : Df K mg "_law_bounds" sBounds)
    (d18 : Df K mg "_law_errors" sErrs)
    (m0 : Dm K CB "__init__" "Book.__init__" sBInit)
    (m1 : Dm K C0 "__init__" "InvalidBook.__init__" sIni0)
    (m2 : Dm K C1 "__init__" "InvalidText.__init__" sIni1)
    (m3 : Dm K C2 "__init__" "InvalidSaying.__init__" sIni2)
    (m4 : Dm K C3 "__init__" "InvalidRing.__init__" sIni3)
    (m5 : Dm K C4 "__init__" "InvalidWeight.__init__" sIni4)
    (m6 : Dm K C5 "__init__" "InvalidLook.__init__" sIni5)
    (m7 : Dm K C6 "__init__" "InvalidNumber.__init__" sIni6)
    (m8 : Dm K C8 "__init__" "Refused.__init__" sIni8)
    (m9 : Dm K C9 "__init__" "InvalidTerm.__init__" sIni9) :
    ∃ fd : FuncData, (∀ (s : Shared) (v : Value), BindsTo s fd ⟨[v], []⟩ [("script", v)]) ∧ ∀ base : Heap, K.In base → base.Ns mainGlobals mg → FnOk l.prog w K mg base CX0 8 fa fd ["script"] (spLaw K) := by
  have e := hfa.symm.trans (PySem.W.mg_of X G aL)
  cases e
  have cl_CB : Cls K CB := ⟨pg_CB, hd_CB, po_CB, sa_CB⟩
  have tyB_CB : ∀ {H : Hp} {a dx : Addr} {fs : List (Str × V)}, H a = some (.ins CB dx fs) → TyX K H (.ref a) (.ref CB) := fun e => .base (.ins e cl_CB cc_CB sp ti mo_CB)
  have g_LETTERS := PySem.W.mg_of X G v_LETTERS
  have g_MOST_ROOMS := PySem.W.mg_of X G v_MOST_ROOMS
  have g_MOST_OUTCOMES := PySem.W.mg_of X G v_MOST_OUTCOMES
  have b_isinstance := PySem.W.mg_none_of X G z_isinstance
  have b_str := PySem.W.mg_none_of X G z_str
  have b_tuple := PySem.W.mg_none_of X G z_tuple
  have b_len := PySem.W.mg_none_of X G z_len
  have b_all := PySem.W.mg_none_of X G z_all
  have b_any := PySem.W.mg_none_of X G z_any
  have b_range := PySem.W.mg_none_of X G z_range
  have b_enumerate := PySem.W.mg_none_of X G z_enumerate
  have b_sorted := PySem.W.mg_none_of X G z_sorted
  have b_abs := PySem.W.mg_none_of X G z_abs
  have b_int := PySem.W.mg_none_of X G z_int
  have b_list := PySem.W.mg_none_of X G z_list
  have b_ValueError := PySem.W.mg_none_of X G z_ValueError
  have FL := fun_mk (st := sLaw) lL cL kL
  obtain ⟨f0, fd0, F0, g0⟩ := d0.ex
  have b0 := F0.binds (ps := ["value"]) fun _ _ _ _ _ _ us hl => match us, hl with | [_], _ => rfl
  obtain ⟨f1, fd1, F1, g1⟩ := d1.ex
  have b1 := F1.binds (ps := ["values"]) fun _ _ _ _ _ _ us hl => match us, hl with | [_], _ => rfl
  obtain ⟨f2, fd2, F2, g2⟩ := d2.ex
  have b2 := F2.binds (ps := ["value"]) fun _ _ _ _ _ _ us hl => match us, hl with | [_], _ => rfl
  obtain ⟨f3, fd3, F3, g3⟩ := d3.ex
  have b3 := F3.binds (ps := ["room", "earlier"]) fun _ _ _ _ _ _ us hl => match us, hl with | [_, _], _ => rfl
  obtain ⟨f4, fd4, F4, g4⟩ := d4.ex
  have b4 := F4.binds (ps := ["room", "other"]) fun _ _ _ _ _ _ us hl => match us, hl with | [_, _], _ => rfl
  obtain ⟨f5, fd5, F5, g5⟩ := d5.ex
  have b5 := F5.binds (ps := ["rooms"]) fun _ _ _ _ _ _ us hl => match us, hl with | [_], _ => rfl
  obtain ⟨f6, fd6, F6, g6⟩ := d6.ex
  have b6 := F6.binds (ps := ["script"]) fun _ _ _ _ _ _ us hl => match us, hl with | [_], _ => rfl
  obtain ⟨f7, fd7, F7, g7⟩ := d7.ex
  have b7 := F7.binds (ps := ["heap", "many"]) fun _ _ _ _ _ _ us hl => match us, hl with | [_, _], _ => rfl
  obtain ⟨f8, fd8, F8, g8⟩ := d8.ex
  have b8 := F8.binds (ps := ["heap", "some"]) fun _ _ _ _ _ _ us hl => match us, hl with | [_, _], _ => rfl
  obtain ⟨f9, fd9, F9, g9⟩ := d9.ex
  have b9 := F9.binds (ps := ["heap", "many"]) fun _ _ _ _ _ _ us hl => match us, hl with | [_, _], _ => rfl
  obtain ⟨f10, fd10, F10, g10⟩ := d10.ex
  have b10 := F10.binds (ps := ["rooms", "taken", "one"]) fun _ _ _ _ _ _ us hl => match us, hl with | [_, _, _], _ => rfl
  obtain ⟨f11, fd11, F11, g11⟩ := d11.ex
  have b11 := F11.binds (ps := ["heap", "names", "many", "most"]) fun _ _ _ _ _ _ us hl => match us, hl with | [_, _, _, _], _ => rfl
  obtain ⟨f12, fd12, F12, g12⟩ := d12.ex
  have b12 := F12.binds (ps := ["word"]) fun _ _ _ _ _ _ us hl => match us, hl with | [_], _ => rfl
  obtain ⟨f13, fd13, F13, g13⟩ := d13.ex
  have b13 := F13.binds (ps := ["value"]) fun _ _ _ _ _ _ us hl => match us, hl with | [_], _ => rfl
  obtain ⟨f14, fd14, F14, g14⟩ := d14.ex
  have b14 := F14.binds (ps := ["value"]) fun _ _ _ _ _ _ us hl => match us, hl with | [_], _ => rfl
  obtain ⟨f15, fd15, F15, g15⟩ := d15.ex
  have b15 := F15.binds (ps := ["heap", "rooms"]) fun _ _ _ _ _ _ us hl => match us, hl with | [_, _], _ => rfl
  obtain ⟨f16, fd16, F16, g16⟩ := d16.ex
  have b16 := F16.binds (ps := ["names", "many"]) fun _ _ _ _ _ _ us hl => match us, hl with | [_, _], _ => rfl
  obtain ⟨f17, fd17, F17, g17⟩ := d17.ex
  have b17 := F17.binds (ps := ["heap", "names"]) fun _ _ _ _ _ _ us hl => match us, hl with | [_, _], _ => rfl
  obtain ⟨f18, fd18, F18, g18⟩ := d18.ex
  have b18 := F18.binds (ps := ["number"]) fun _ _ _ _ _ _ us hl => match us, hl with | [_], _ => rfl
  obtain ⟨mf0, mfd0, M0, h0⟩ := m0.ex
  have mb0 := M0.binds (ps := ["self", "rooms"]) fun _ _ _ _ _ _ us hl => match us, hl with | [_, _], _ => rfl
  obtain ⟨mf1, mfd1, M1, h1⟩ := m1.ex
  have mb1 := M1.binds (ps := ["self", "at"]) fun _ _ _ _ _ _ us hl => match us, hl with | [_, _], _ => rfl
  obtain ⟨mf2, mfd2, M2, h2⟩ := m2.ex
  have mb2 := M2.binds (ps := ["self", "at"]) fun _ _ _ _ _ _ us hl => match us, hl with | [_, _], _ => rfl
  obtain ⟨mf3, mfd3, M3, h3⟩ := m3.ex
  have mb3 := M3.binds (ps := ["self", "at"]) fun _ _ _ _ _ _ us hl => match us, hl with | [_, _], _ => rfl
  obtain ⟨mf4, mfd4, M4, h4⟩ := m4.ex
  have mb4 := M4.binds (ps := ["self", "at"]) fun _ _ _ _ _ _ us hl => match us, hl with | [_, _], _ => rfl
  obtain ⟨mf5, mfd5, M5, h5⟩ := m5.ex
  have mb5 := M5.binds (ps := ["self", "at"]) fun _ _ _ _ _ _ us hl => match us, hl with | [_, _], _ => rfl
  obtain ⟨mf6, mfd6, M6, h6⟩ := m6.ex
  have mb6 := M6.binds (ps := ["self", "at"]) fun _ _ _ _ _ _ us hl => match us, hl with | [_, _], _ => rfl
  obtain ⟨mf7, mfd7, M7, h7⟩ := m7.ex
  have mb7 := M7.binds (ps := ["self", "word"]) fun _ _ _ _ _ _ us hl => match us, hl with | [_, _], _ => rfl
  obtain ⟨mf8, mfd8, M8, h8⟩ := m8.ex
  have mb8 := M8.binds (ps := ["self", "word"]) fun _ _ _ _ _ _ us hl => match us, hl with | [_, _], _ => rfl
  obtain ⟨mf9, mfd9, M9, h9⟩ := m9.ex
  have mb9 := M9.binds (ps := ["self", "at"]) fun _ _ _ _ _ _ us hl => match us, hl with | [_, _], _ => rfl
  have xf_C0 : XfC K C0 := ⟨ga_C0, gg_C0, eC_C0, hd_C0⟩
  have exc_C0 : ExcC K C0 := ⟨ga_C0, gg_C0, eC_C0, hd_C0, cc_C0, sp, ti, mo_C0⟩
  have err_C0 : ErrC K mg "InvalidBook" "at" C0 mf1 := ⟨PySem.W.mg_of X G a_C0, ⟨⟨_, _, _, _, _, _, _, _, _, _, _, _, _, _, _, x_C0, rfl⟩, sa_C0, eC_C0, ty_C0, kp_C0⟩, xf_C0, exc_C0, no_C0, h1.at_, beq_iff_eq.mp h1.fn⟩
  have xf_C1 : XfC K C1 := ⟨ga_C1, gg_C1, eC_C1, hd_C1⟩
  have exc_C1 : ExcC K C1 := ⟨ga_C1, gg_C1, eC_C1, hd_C1, cc_C1, sp, ti, mo_C1⟩
  have err_C1 : ErrC K mg "InvalidText" "at" C1 mf2 := ⟨PySem.W.mg_of X G a_C1, ⟨⟨_, _, _, _, _, _, _, _, _, _, _, _, _, _, _, x_C1, rfl⟩, sa_C1, eC_C1, ty_C1, kp_C1⟩, xf_C1, exc_C1, no_C1, h2.at_, beq_iff_eq.mp h2.fn⟩
  have xf_C2 : XfC K C2 := ⟨ga_C2, gg_C2, eC_C2, hd_C2⟩
  have exc_C2 : ExcC K C2 := ⟨ga_C2, gg_C2, eC_C2, hd_C2, cc_C2, sp, ti, mo_C2⟩
  have err_C2 : ErrC K mg "InvalidSaying" "at" C2 mf3 := ⟨PySem.W.mg_of X G a_C2, ⟨⟨_, _, _, _, _, _, _, _, _, _, _, _, _, _, _, x_C2, rfl⟩, sa_C2, eC_C2, ty_C2, kp_C2⟩, xf_C2, exc_C2, no_C2, h3.at_, beq_iff_eq.mp h3.fn⟩
  have xf_C3 : XfC K C3 := ⟨ga_C3, gg_C3, eC_C3, hd_C3⟩
  have exc_C3 : ExcC K C3 := ⟨ga_C3, gg_C3, eC_C3, hd_C3, cc_C3, sp, ti, mo_C3⟩
  have err_C3 : ErrC K mg "InvalidRing" "at" C3 mf4 := ⟨PySem.W.mg_of X G a_C3, ⟨⟨_, _, _, _, _, _, _, _, _, _, _, _, _, _, _, x_C3, rfl⟩, sa_C3, eC_C3, ty_C3, kp_C3⟩, xf_C3, exc_C3, no_C3, h4.at_, beq_iff_eq.mp h4.fn⟩
  have xf_C4 : XfC K C4 := ⟨ga_C4, gg_C4, eC_C4, hd_C4⟩
  have exc_C4 : ExcC K C4 := ⟨ga_C4, gg_C4, eC_C4, hd_C4, cc_C4, sp, ti, mo_C4⟩
  have err_C4 : ErrC K mg "InvalidWeight" "at" C4 mf5 := ⟨PySem.W.mg_of X G a_C4, ⟨⟨_, _, _, _, _, _, _, _, _, _, _, _, _, _, _, x_C4, rfl⟩, sa_C4, eC_C4, ty_C4, kp_C4⟩, xf_C4, exc_C4, no_C4, h5.at_, beq_iff_eq.mp h5.fn⟩
  have xf_C5 : XfC K C5 := ⟨ga_C5, gg_C5, eC_C5, hd_C5⟩
  have exc_C5 : ExcC K C5 := ⟨ga_C5, gg_C5, eC_C5, hd_C5, cc_C5, sp, ti, mo_C5⟩
  have err_C5 : ErrC K mg "InvalidLook" "at" C5 mf6 := ⟨PySem.W.mg_of X G a_C5, ⟨⟨_, _, _, _, _, _, _, _, _, _, _, _, _, _, _, x_C5, rfl⟩, sa_C5, eC_C5, ty_C5, kp_C5⟩, xf_C5, exc_C5, no_C5, h6.at_, beq_iff_eq.mp h6.fn⟩
  have xf_C6 : XfC K C6 := ⟨ga_C6, gg_C6, eC_C6, hd_C6⟩
  have exc_C6 : ExcC K C6 := ⟨ga_C6, gg_C6, eC_C6, hd_C6, cc_C6, sp, ti, mo_C6⟩
  have err_C6 : ErrC K mg "InvalidNumber" "word" C6 mf7 := ⟨PySem.W.mg_of X G a_C6, ⟨⟨_, _, _, _, _, _, _, _, _, _, _, _, _, _, _, x_C6, rfl⟩, sa_C6, eC_C6, ty_C6, kp_C6⟩, xf_C6, exc_C6, no_C6, h7.at_, beq_iff_eq.mp h7.fn⟩
  have xf_C7 : XfC K C7 := ⟨ga_C7, gg_C7, eC_C7, hd_C7⟩
  have exc_C7 : ExcC K C7 := ⟨ga_C7, gg_C7, eC_C7, hd_C7, cc_C7, sp, ti, mo_C7⟩
  have xf_C8 : XfC K C8 := ⟨ga_C8, gg_C8, eC_C8, hd_C8⟩
  have exc_C8 : ExcC K C8 := ⟨ga_C8, gg_C8, eC_C8, hd_C8, cc_C8, sp, ti, mo_C8⟩
  have err_C8 : ErrC K mg "Refused" "word" C8 mf8 := ⟨PySem.W.mg_of X G a_C8, ⟨⟨_, _, _, _, _, _, _, _, _, _, _, _, _, _, _, x_C8, rfl⟩, sa_C8, eC_C8, ty_C8, kp_C8⟩, xf_C8, exc_C8, no_C8, h8.at_, beq_iff_eq.mp h8.fn⟩
  have xf_C9 : XfC K C9 := ⟨ga_C9, gg_C9, eC_C9, hd_C9⟩
  have exc_C9 : ExcC K C9 := ⟨ga_C9, gg_C9, eC_C9, hd_C9, cc_C9, sp, ti, mo_C9⟩
  have err_C9 : ErrC K mg "InvalidTerm" "at" C9 mf9 := ⟨PySem.W.mg_of X G a_C9, ⟨⟨_, _, _, _, _, _, _, _, _, _, _, _, _, _, _, x_C9, rfl⟩, sa_C9, eC_C9, ty_C9, kp_C9⟩, xf_C9, exc_C9, no_C9, h9.at_, beq_iff_eq.mp h9.fn⟩
  refine ⟨PySem.W.fnOf "law" "law" (defArgs sLaw) (defBody sLaw) (defScope sLaw) .none kVL dcL pmL anL cdL ctL, fun s v => .of_eq rfl, fun base _ _ => ?_⟩
  have TB1 : TB K mg CB := ⟨cl_CB, na_CB_rooms, na_CB__homes, ⟨_, g_LETTERS, ⟨_, rfl⟩⟩, ⟨_, g_MOST_ROOMS, ⟨_, rfl⟩⟩, ⟨_, g_MOST_OUTCOMES, ⟨_, rfl⟩⟩, b_isinstance, b_str, b_tuple, b_len, b_all, b_any, b_range, b_enumerate, b_sorted⟩
  have TL1 : TL mg := ⟨b_abs, b_int, b_len, b_range, b_tuple, b_list, b_sorted, b_any, b_all⟩
  have TF1 : TF mg := ⟨b_isinstance, b_str, b_tuple, b_len, b_all, b_any, b_range⟩
  have TTo1 : TTo K mg CB C0 CR mf1 := ⟨cl_CB, na_CB_rooms, err_C0, PySem.W.mg_of X G a_CR, exm_self eC_C0 hd_C0 ty_C0 s_C0_C0⟩
  have TLs1 : TLs mg := ⟨b_len, b_list, b_tuple, b_sorted⟩
  have TCh1 : TCh mg := ⟨b_tuple, b_sorted, b_range, b_len, b_list⟩
  have TLw1 : TLw K mg := ⟨b_isinstance, b_range, b_tuple, b_list⟩
  have kits : ∀ i, i < 10 → ∀ j, j < 10 → PySem.W.kitOne K (.ref (cAt C0 C1 C2 C3 C4 C5 C6 C7 C8 C9 i)) (.ref (cAt C0 C1 C2 C3 C4 C5 C6 C7 C8 C9 j)) = some (decide (i = j)) := all10 (p := fun i => ∀ j, j < 10 → PySem.W.kitOne K (.ref (cAt C0 C1 C2 C3 C4 C5 C6 C7 C8 C9 i)) (.ref (cAt C0 C1 C2 C3 C4 C5 C6 C7 C8 C9 j)) = some (decide (i = j))) (all10 (p := fun j => PySem.W.kitOne K (.ref C0) (.ref (cAt C0 C1 C2 C3 C4 C5 C6 C7 C8 C9 j)) = some (decide (0 = j))) kit_self (kit_false hd_C1 ty_C1 s_C1_C1 s_C0_C1) (kit_false hd_C2 ty_C2 s_C2_C2 s_C0_C2) (kit_false hd_C3 ty_C3 s_C3_C3 s_C0_C3) (kit_false hd_C4 ty_C4 s_C4_C4 s_C0_C4) (kit_false hd_C5 ty_C5 s_C5_C5 s_C0_C5) (kit_false hd_C6 ty_C6 s_C6_C6 s_C0_C6) (kit_false hd_C7 ty_C7 s_C7_C7 s_C0_C7) (kit_false hd_C8 ty_C8 s_C8_C8 s_C0_C8) (kit_false hd_C9 ty_C9 s_C9_C9 s_C0_C9))
    (all10 (p := fun j => PySem.W.kitOne K (.ref C1) (.ref (cAt C0 C1 C2 C3 C4 C5 C6 C7 C8 C9 j)) = some (decide (1 = j))) (kit_false hd_C0 ty_C0 s_C0_C0 s_C1_C0) kit_self (kit_false hd_C2 ty_C2 s_C2_C2 s_C1_C2) (kit_false hd_C3 ty_C3 s_C3_C3 s_C1_C3) (kit_false hd_C4 ty_C4 s_C4_C4 s_C1_C4) (kit_false hd_C5 ty_C5 s_C5_C5 s_C1_C5) (kit_false hd_C6 ty_C6 s_C6_C6 s_C1_C6) (kit_false hd_C7 ty_C7 s_C7_C7 s_C1_C7) (kit_false hd_C8 ty_C8 s_C8_C8 s_C1_C8) (kit_false hd_C9 ty_C9 s_C9_C9 s_C1_C9))
    (all10 (p := fun j => PySem.W.kitOne K (.ref C2) (.ref (cAt C0 C1 C2 C3 C4 C5 C6 C7 C8 C9 j)) = some (decide (2 = j))) (kit_false hd_C0 ty_C0 s_C0_C0 s_C2_C0) (kit_false hd_C1 ty_C1 s_C1_C1 s_C2_C1) kit_self (kit_false hd_C3 ty_C3 s_C3_C3 s_C2_C3) (kit_false hd_C4 ty_C4 s_C4_C4 s_C2_C4) (kit_false hd_C5 ty_C5 s_C5_C5 s_C2_C5) (kit_false hd_C6 ty_C6 s_C6_C6 s_C2_C6) (kit_false hd_C7 ty_C7 s_C7_C7 s_C2_C7) (kit_false hd_C8 ty_C8 s_C8_C8 s_C2_C8) (kit_false hd_C9 ty_C9 s_C9_C9 s_C2_C9))
    (all10 (p := fun j => PySem.W.kitOne K (.ref C3) (.ref (cAt C0 C1 C2 C3 C4 C5 C6 C7 C8 C9 j)) = some (decide (3 = j))) (kit_false hd_C0 ty_C0 s_C0_C0 s_C3_C0) (kit_false hd_C1 ty_C1 s_C1_C1 s_C3_C1) (kit_false hd_C2 ty_C2 s_C2_C2 s_C3_C2) kit_self (kit_false hd_C4 ty_C4 s_C4_C4 s_C3_C4) (kit_false hd_C5 ty_C5 s_C5_C5 s_C3_C5) (kit_false hd_C6 ty_C6 s_C6_C6 s_C3_C6) (kit_false hd_C7 ty_C7 s_C7_C7 s_C3_C7) (kit_false hd_C8 ty_C8 s_C8_C8 s_C3_C8) (kit_false hd_C9 ty_C9 s_C9_C9 s_C3_C9))
    (all10 (p := fun j => PySem.W.kitOne K (.ref C4) (.ref (cAt C0 C1 C2 C3 C4 C5 C6 C7 C8 C9 j)) = some (decide (4 = j))) (kit_false hd_C0 ty_C0 s_C0_C0 s_C4_C0) (kit_false hd_C1 ty_C1 s_C1_C1 s_C4_C1) (kit_false hd_C2 ty_C2 s_C2_C2 s_C4_C2) (kit_false hd_C3 ty_C3 s_C3_C3 s_C4_C3) kit_self (kit_false hd_C5 ty_C5 s_C5_C5 s_C4_C5) (kit_false hd_C6 ty_C6 s_C6_C6 s_C4_C6) (kit_false hd_C7 ty_C7 s_C7_C7 s_C4_C7) (kit_false hd_C8 ty_C8 s_C8_C8 s_C4_C8) (kit_false hd_C9 ty_C9 s_C9_C9 s_C4_C9))
    (all10 (p := fun j => PySem.W.kitOne K (.ref C5) (.ref (cAt C0 C1 C2 C3 C4 C5 C6 C7 C8 C9 j)) = some (decide (5 = j))) (kit_false hd_C0 ty_C0 s_C0_C0 s_C5_C0) (kit_false hd_C1 ty_C1 s_C1_C1 s_C5_C1) (kit_false hd_C2 ty_C2 s_C2_C2 s_C5_C2) (kit_false hd_C3 ty_C3 s_C3_C3 s_C5_C3) (kit_false hd_C4 ty_C4 s_C4_C4 s_C5_C4) kit_self (kit_false hd_C6 ty_C6 s_C6_C6 s_C5_C6) (kit_false hd_C7 ty_C7 s_C7_C7 s_C5_C7) (kit_false hd_C8 ty_C8 s_C8_C8 s_C5_C8) (kit_false hd_C9 ty_C9 s_C9_C9 s_C5_C9))
    (all10 (p := fun j => PySem.W.kitOne K (.ref C6) (.ref (cAt C0 C1 C2 C3 C4 C5 C6 C7 C8 C9 j)) = some (decide (6 = j))) (kit_false hd_C0 ty_C0 s_C0_C0 s_C6_C0) (kit_false hd_C1 ty_C1 s_C1_C1 s_C6_C1) (kit_false hd_C2 ty_C2 s_C2_C2 s_C6_C2) (kit_false hd_C3 ty_C3 s_C3_C3 s_C6_C3) (kit_false hd_C4 ty_C4 s_C4_C4 s_C6_C4) (kit_false hd_C5 ty_C5 s_C5_C5 s_C6_C5) kit_self (kit_false hd_C7 ty_C7 s_C7_C7 s_C6_C7) (kit_false hd_C8 ty_C8 s_C8_C8 s_C6_C8) (kit_false hd_C9 ty_C9 s_C9_C9 s_C6_C9))
    (all10 (p := fun j => PySem.W.kitOne K (.ref C7) (.ref (cAt C0 C1 C2 C3 C4 C5 C6 C7 C8 C9 j)) = some (decide (7 = j))) (kit_false hd_C0 ty_C0 s_C0_C0 s_C7_C0) (kit_false hd_C1 ty_C1 s_C1_C1 s_C7_C1) (kit_false hd_C2 ty_C2 s_C2_C2 s_C7_C2) (kit_false hd_C3 ty_C3 s_C3_C3 s_C7_C3) (kit_false hd_C4 ty_C4 s_C4_C4 s_C7_C4) (kit_false hd_C5 ty_C5 s_C5_C5 s_C7_C5) (kit_false hd_C6 ty_C6 s_C6_C6 s_C7_C6) kit_self (kit_false hd_C8 ty_C8 s_C8_C8 s_C7_C8) (kit_false hd_C9 ty_C9 s_C9_C9 s_C7_C9))
    (all10 (p := fun j => PySem.W.kitOne K (.ref C8) (.ref (cAt C0 C1 C2 C3 C4 C5 C6 C7 C8 C9 j)) = some (decide (8 = j))) (kit_false hd_C0 ty_C0 s_C0_C0 s_C8_C0) (kit_false hd_C1 ty_C1 s_C1_C1 s_C8_C1) (kit_false hd_C2 ty_C2 s_C2_C2 s_C8_C2) (kit_false hd_C3 ty_C3 s_C3_C3 s_C8_C3) (kit_false hd_C4 ty_C4 s_C4_C4 s_C8_C4) (kit_false hd_C5 ty_C5 s_C5_C5 s_C8_C5) (kit_false hd_C6 ty_C6 s_C6_C6 s_C8_C6) (kit_false hd_C7 ty_C7 s_C7_C7 s_C8_C7) kit_self (kit_false hd_C9 ty_C9 s_C9_C9 s_C8_C9))
    (all10 (p := fun j => PySem.W.kitOne K (.ref C9) (.ref (cAt C0 C1 C2 C3 C4 C5 C6 C7 C8 C9 j)) = some (decide (9 = j))) (kit_false hd_C0 ty_C0 s_C0_C0 s_C9_C0) (kit_false hd_C1 ty_C1 s_C1_C1 s_C9_C1) (kit_false hd_C2 ty_C2 s_C2_C2 s_C9_C2) (kit_false hd_C3 ty_C3 s_C3_C3 s_C9_C3) (kit_false hd_C4 ty_C4 s_C4_C4 s_C9_C4) (kit_false hd_C5 ty_C5 s_C5_C5 s_C9_C5) (kit_false hd_C6 ty_C6 s_C6_C6 s_C9_C6) (kit_false hd_C7 ty_C7 s_C7_C7 s_C9_C7) (kit_false hd_C8 ty_C8 s_C8_C8 s_C9_C8) kit_self)
  have TEr1 : TEr K mg (cAt C0 C1 C2 C3 C4 C5 C6 C7 C8 C9) CR := ⟨⟨_, PySem.W.mg_of X G a_C0, rfl⟩, ⟨_, PySem.W.mg_of X G a_C1, rfl⟩, ⟨_, PySem.W.mg_of X G a_C2, rfl⟩, ⟨_, PySem.W.mg_of X G a_C3, rfl⟩, ⟨_, PySem.W.mg_of X G a_C4, rfl⟩, ⟨_, PySem.W.mg_of X G a_C5, rfl⟩, ⟨_, PySem.W.mg_of X G a_C6, rfl⟩, ⟨_, PySem.W.mg_of X G a_C7, rfl⟩, ⟨_, PySem.W.mg_of X G a_C8, rfl⟩, ⟨_, PySem.W.mg_of X G a_C9, rfl⟩, ⟨_, PySem.W.mg_of X G a_CR, rfl⟩, all10 (p := fun i => ExcC K (cAt C0 C1 C2 C3 C4 C5 C6 C7 C8 C9 i)) exc_C0 exc_C1 exc_C2 exc_C3 exc_C4 exc_C5 exc_C6 exc_C7 exc_C8 exc_C9, all10 (p := fun i => XfC K (cAt C0 C1 C2 C3 C4 C5 C6 C7 C8 C9 i)) xf_C0 xf_C1 xf_C2 xf_C3 xf_C4 xf_C5 xf_C6 xf_C7 xf_C8 xf_C9, all10 (p := fun i => i ≠ 6 → i ≠ 7 → i ≠ 8 → PySem.W.findIn K (.ref (cAt C0 C1 C2 C3 C4 C5 C6 C7 C8 C9 i)) "at" = some none) (fun _ _ _ => no_C0) (fun _ _ _ => no_C1) (fun _ _ _ => no_C2) (fun _ _ _ => no_C3) (fun _ _ _ => no_C4) (fun _ _ _ => no_C5) (fun h _ _ => absurd rfl h) (fun _ h _ => absurd rfl h) (fun _ _ h => absurd rfl h) (fun _ _ _ => no_C9), fun i hi => hi.elim (fun e => by subst e; exact no_C6) (fun e => by subst e; exact no_C8), kits, all10 (p := fun i => PySem.W.kitOne K (.ref (cAt C0 C1 C2 C3 C4 C5 C6 C7 C8 C9 i)) (.ref CR) = some true) (kit_true hd_CR ty_CR s_C0_CR) (kit_true hd_CR ty_CR s_C1_CR) (kit_true hd_CR ty_CR s_C2_CR) (kit_true hd_CR ty_CR s_C3_CR) (kit_true hd_CR ty_CR s_C4_CR) (kit_true hd_CR ty_CR s_C5_CR) (kit_true hd_CR ty_CR s_C6_CR) (kit_true hd_CR ty_CR s_C7_CR) (kit_true hd_CR ty_CR s_C8_CR) (kit_true hd_CR ty_CR s_C9_CR), all10 (p := fun i => PySem.W.kitOne K (.ref (cAt C0 C1 C2 C3 C4 C5 C6 C7 C8 C9 i)) (.type "ValueError") = some true) (kit_typ (by decide +kernel) s_C0_ValueError) (kit_typ (by decide +kernel) s_C1_ValueError) (kit_typ (by decide +kernel) s_C2_ValueError) (kit_typ (by decide +kernel) s_C3_ValueError) (kit_typ (by decide +kernel) s_C4_ValueError) (kit_typ (by decide +kernel) s_C5_ValueError) (kit_typ (by decide +kernel) s_C6_ValueError) (kit_typ (by decide +kernel) s_C7_ValueError) (kit_typ (by decide +kernel) s_C8_ValueError) (kit_typ (by decide +kernel) s_C9_ValueError), b_isinstance, b_len, b_all, b_ValueError⟩
  have c_is_name := Cl.of F0 g0 (ok_nameA (P := l.prog) (w := w) (base := base) F0 TB1) b0
  have c_is_ascending := Cl.of F1 g1 (ok_ascA (P := l.prog) (w := w) (base := base) F1 TB1) b1
  have c__is_room := Cl.of F2 g2 (ok_isRoomA (P := l.prog) (w := w) (base := base) F2 TB1 c_is_name c_is_ascending) b2
  have c__common := Cl.of F4 g4 (ok_common (P := l.prog) (w := w) (base := base) F4 TB1) b4
  have c__crosses_twice := Cl.of F3 g3 (ok_crossA (P := l.prog) (w := w) (base := base) F3 TB1 c__common) b3
  have c__homes_of := Cl.of F5 g5 (ok_homes (P := l.prog) (w := w) (base := base) F5 TB1) b5
  have c_Book : Cck l.prog w K mg base (L2.CX l.prog w) 4 "Book" CB ["self", "rooms"] ["rooms"] kwApp (spBInitA K CB C0) := ⟨⟨_, _, _, ok_binitA (P := l.prog) (w := w) (base := base) M0 TB1 err_C0 M1 mb1 c__is_room c__crosses_twice c__homes_of, PySem.W.mg_of X G a_CB, ⟨mk_CB, h0.at_, h0.fn, kp_CB⟩, fun_kb (ks := ["rooms"]) (g := kwApp) (gV := kwApp) M0 kwApp_rel fun _ _ _ _ _ _ us ws hl => match us, ws, hl with | [_], [_], _ => rfl⟩⟩
  have c__law_heap := Cl.of F6 g6 (ok_heap (P := l.prog) (w := w) (base := base) F6 TL1) b6
  have c__law_draw := Cl.of F7 g7 (ok_draw (P := l.prog) (w := w) (base := base) F7 TL1) b7
  have c__law_pick := Cl.of F8 g8 (ok_pick (P := l.prog) (w := w) (base := base) F8 TL1 c__law_draw) b8
  have c__law_names := Cl.of F9 g9 (ok_names (P := l.prog) (w := w) (base := base) F9 TL1 c__law_draw c__law_pick) b9
  have c__law_apart := Cl.of F10 g10 (ok_apart (P := l.prog) (w := w) (base := base) F10 TL1) b10
  have c__law_rooms := Cl.of F11 g11 (ok_rooms (P := l.prog) (w := w) (base := base) F11 TL1 c__law_draw c__law_pick c__law_apart) b11
  have c__law_named := Cl.of F12 g12 (ok_named (P := l.prog) (w := w) (base := base) F12 TF1) b12
  have c__law_fault := Cl.of F13 g13 (ok_fault (P := l.prog) (w := w) (base := base) F13 TF1 c__law_named) b13
  have c__law_told := Cl.of F14 g14 (ok_toldA (P := l.prog) (w := w) (base := base) F14 TTo1 c_Book) b14
  have c__law_spoilt := Cl.of F15 g15 (ok_spoilt (P := l.prog) (w := w) (base := base) F15 TLs1 c__law_draw c__law_pick) b15
  have c__law_chain := Cl.of F16 g16 (ok_chain (P := l.prog) (w := w) (base := base) F16 TCh1) b16
  have c__law_bounds := Cl.of F17 g17 (ok_bounds (P := l.prog) (w := w) (base := base) F17 TCh1 c__law_draw c__law_chain c__law_told) b17
  have c__law_errors := Cl.of F18 g18 (ok_errs (C := cAt C0 C1 C2 C3 C4 C5 C6 C7 C8 C9) (R := CR) (P := l.prog) (w := w) (base := base) F18 TEr1 err_C0 (ok_ini0 (P := l.prog) (w := w) (base := base) M1) mb1 err_C1 (ok_ini1 (P := l.prog) (w := w) (base := base) M2) (fun_kb (ks := ["at"]) (g := kwApp) (gV := kwApp) M2 kwApp_rel fun _ _ _ _ _ _ us ws hl => match us, ws, hl with | [_], [_], _ => rfl) err_C2 (ok_ini2 (P := l.prog) (w := w) (base := base) M3) mb3 err_C3 (ok_ini3 (P := l.prog) (w := w) (base := base) M4) (fun_kb (ks := ["at"]) (g := kwApp) (gV := kwApp) M4 kwApp_rel fun _ _ _ _ _ _ us ws hl => match us, ws, hl with | [_], [_], _ => rfl) err_C4 (ok_ini4 (P := l.prog) (w := w) (base := base) M5) mb5 err_C5 (ok_ini5 (P := l.prog) (w := w) (base := base) M6) (fun_kb (ks := ["at"]) (g := kwApp) (gV := kwApp) M6 kwApp_rel fun _ _ _ _ _ _ us ws hl => match us, ws, hl with | [_], [_], _ => rfl) err_C6 (ok_ini6 (P := l.prog) (w := w) (base := base) M7) mb7 (fun_kb (ks := ["word"]) (g := kwApp) (gV := kwApp) M7 kwApp_rel fun _ _ _ _ _ _ us ws hl => match us, ws, hl with | [_], [_], _ => rfl) err_C8 (ok_ini8 (P := l.prog) (w := w) (base := base) M8) mb8 (fun_kb (ks := ["word"]) (g := kwApp) (gV := kwApp) M8 kwApp_rel fun _ _ _ _ _ _ us ws hl => match us, ws, hl with | [_], [_], _ => rfl) err_C9 (ok_ini9 (P := l.prog) (w := w) (base := base) M9) mb9 PySem.F.excBase_ValueError q7 (PySem.W.mg_of X G a_C7) kp_C7) b18
  exact ok_law FL TLw1 c__law_heap c__law_draw c__law_names c__law_rooms c__law_told c__law_fault c__law_spoilt c__law_bounds c__law_errors
theorem walk {l : PySem.W.OpenLaw} {q : Program} {loose : List Str} {XP : (Str → Option Value) → Heap → Prop} {YP : World → Heap → Prop} {d : DefRec} {K : Params → PySem.W.Frag} (hn : l.most = some 63) (hdf : d.params.defaults = [])
    (hY : ∀ (w : World) (h : Heap), YP w h → (K w.params).In h)
    (F : ∀ (w : World) (mg : Str → Option Value) (fa : Addr) (h : Heap), (K w.params).In h → h.Ns mainGlobals mg → mg d.name = some (.ref fa) →
      ∃ fd : FuncData, (∀ (s : Shared) (u : Value), BindsTo s fd ⟨[u], []⟩ [("script", u)]) ∧ ∀ base : Heap, (K w.params).In base → base.Ns mainGlobals mg → FnOk l.prog w (K w.params) mg base CX0 8 fa fd ["script"] (spLaw (K w.params))) :
    PySem.W.WalkO q loose XP YP l.row.toRowW d [] (fun f vs => PySem.call f vs) :=
  L2.walk_of (n := 63) (k := 8) (x := "script") (CX := fun _ => CX0) (sp := fun w => spLaw (K w.params)) hn (by decide) hdf ⟨rfl, by decide, by decide⟩ hY F (fun _ _ a ns hl _ hS => ⟨a, ns, rfl, hS, hl, fun _ => rfl⟩) fun _ _ _ _ _ z => z
end K01
open PySem PySem.W PyProof.Rows
set_option maxRecDepth 100000 in
set_option maxHeartbeats 0 in
theorem PySem.Challenge.cw_roomlooks_k01_books_refused_at_their_fir_holds : PySem.Challenge.rw_roomlooks_k01_books_refused_at_their_fir.Holds := by
  w_on; o_law; k_head; (case hw => w_witness2)
  k_fill
  refine K01.walk (l := PySem.Challenge.rw_roomlooks_k01_books_refused_at_their_fir) rfl rfl (fun w h Y => PySem.W.kIn_of Y) ?F
  case F =>
    intro w mg fa h KX G hmg
    refine' K01.all_mk KX G hmg ?a_CB ?pg_CB ?hd_CB ?po_CB ?sa_CB ?mk_CB ?kp_CB ?ty_CB ?cc_CB ?mo_CB ?so_CB ?na_CB_rooms ?na_CB__homes ?a_C0 ?x_C0 ?sa_C0 ?no_C0 ?eC_C0 ?ty_C0 ?kp_C0 ?ga_C0 ?gg_C0 ?hd_C0 ?cc_C0 ?mo_C0 ?a_C1 ?x_C1 ?sa_C1 ?no_C1 ?eC_C1 ?ty_C1 ?kp_C1 ?ga_C1 ?gg_C1 ?hd_C1 ?cc_C1 ?mo_C1 ?a_C2 ?x_C2 ?sa_C2 ?no_C2 ?eC_C2 ?ty_C2 ?kp_C2 ?ga_C2 ?gg_C2 ?hd_C2 ?cc_C2 ?mo_C2 ?a_C3 ?x_C3 ?sa_C3 ?no_C3 ?eC_C3 ?ty_C3 ?kp_C3 ?ga_C3 ?gg_C3 ?hd_C3 ?cc_C3 ?mo_C3 ?a_C4 ?x_C4 ?sa_C4 ?no_C4 ?eC_C4 ?ty_C4 ?kp_C4 ?ga_C4 ?gg_C4 ?hd_C4 ?cc_C4 ?mo_C4 ?a_C5 ?x_C5 ?sa_C5 ?no_C5 ?eC_C5 ?ty_C5 ?kp_C5 ?ga_C5 ?gg_C5 ?hd_C5 ?cc_C5 ?mo_C5 ?a_C6 ?x_C6 ?sa_C6 ?no_C6 ?eC_C6 ?ty_C6 ?kp_C6 ?ga_C6 ?gg_C6 ?hd_C6 ?cc_C6 ?mo_C6 ?a_C7 ?eC_C7 ?ty_C7 ?kp_C7 ?ga_C7 ?gg_C7 ?hd_C7 ?cc_C7 ?mo_C7 ?a_C8 ?x_C8 ?sa_C8 ?no_C8 ?eC_C8 ?ty_C8 ?kp_C8 ?ga_C8 ?gg_C8 ?hd_C8 ?cc_C8 ?mo_C8 ?a_C9 ?x_C9 ?sa_C9 ?no_C9 ?eC_C9 ?ty_C9 ?kp_C9 ?ga_C9 ?gg_C9 ?hd_C9 ?cc_C9 ?mo_C9 ?a_CR ?hd_CR ?ty_CR ?s_C0_C0 ?s_C0_C1 ?s_C0_C2 ?s_C0_C3 ?s_C0_C4 ?s_C0_C5 ?s_C0_C6 ?s_C0_C7 ?s_C0_C8 ?s_C0_C9 ?s_C1_C0 ?s_C1_C1 ?s_C1_C2 ?s_C1_C3 ?s_C1_C4 ?s_C1_C5 ?s_C1_C6 ?s_C1_C7 ?s_C1_C8 ?s_C1_C9 ?s_C2_C0 ?s_C2_C1 ?s_C2_C2 ?s_C2_C3 ?s_C2_C4 ?s_C2_C5 ?s_C2_C6 ?s_C2_C7 ?s_C2_C8 ?s_C2_C9 ?s_C3_C0 ?s_C3_C1 ?s_C3_C2 ?s_C3_C3 ?s_C3_C4 ?s_C3_C5 ?s_C3_C6 ?s_C3_C7 ?s_C3_C8 ?s_C3_C9 ?s_C4_C0 ?s_C4_C1 ?s_C4_C2 ?s_C4_C3 ?s_C4_C4 ?s_C4_C5 ?s_C4_C6 ?s_C4_C7 ?s_C4_C8 ?s_C4_C9 ?s_C5_C0 ?s_C5_C1 ?s_C5_C2 ?s_C5_C3 ?s_C5_C4 ?s_C5_C5 ?s_C5_C6 ?s_C5_C7 ?s_C5_C8 ?s_C5_C9 ?s_C6_C0 ?s_C6_C1 ?s_C6_C2 ?s_C6_C3 ?s_C6_C4 ?s_C6_C5 ?s_C6_C6 ?s_C6_C7 ?s_C6_C8 ?s_C6_C9 ?s_C7_C0 ?s_C7_C1 ?s_C7_C2 ?s_C7_C3 ?s_C7_C4 ?s_C7_C5 ?s_C7_C6 ?s_C7_C7 ?s_C7_C8 ?s_C7_C9 ?s_C8_C0 ?s_C8_C1 ?s_C8_C2 ?s_C8_C3 ?s_C8_C4 ?s_C8_C5 ?s_C8_C6 ?s_C8_C7 ?s_C8_C8 ?s_C8_C9 ?s_C9_C0 ?s_C9_C1 ?s_C9_C2 ?s_C9_C3 ?s_C9_C4 ?s_C9_C5 ?s_C9_C6 ?s_C9_C7 ?s_C9_C8 ?s_C9_C9 ?s_C0_CR ?s_C1_CR ?s_C2_CR ?s_C3_CR ?s_C4_CR ?s_C5_CR ?s_C6_CR ?s_C7_CR ?s_C8_CR ?s_C9_CR ?s_C0_ValueError ?s_C1_ValueError ?s_C2_ValueError ?s_C3_ValueError ?s_C4_ValueError ?s_C5_ValueError ?s_C6_ValueError ?s_C7_ValueError ?s_C8_ValueError ?s_C9_ValueError ?sp ?ti ?v_LETTERS ?v_MOST_ROOMS ?v_MOST_OUTCOMES ?z_isinstance ?z_str ?z_tuple ?z_len ?z_all ?z_any ?z_range ?z_enumerate ?z_sorted ?z_abs ?z_int ?z_list ?z_ValueError ?q7 ?aL ?lL ?cL ?kL ?d0 ?d1 ?d2 ?d3 ?d4 ?d5 ?d6 ?d7 ?d8 ?d9 ?d10 ?d11 ?d12 ?d13 ?d14 ?d15 ?d16 ?d17 ?d18 ?m0 ?m1 ?m2 ?m3 ?m4 ?m5 ?m6 ?m7 ?m8 ?m9
    case a_CB => first | k_is | rfl | k_exc | decide
    case pg_CB => first | k_is | rfl | k_exc | decide
    case hd_CB => first | k_is | rfl | k_exc | decide
    case po_CB => first | k_is | rfl | k_exc | decide
    case sa_CB => first | k_is | rfl | k_exc | decide
    case mk_CB => first | k_is | rfl | k_exc | decide
    case kp_CB => first | k_is | rfl | k_exc | decide
    case ty_CB => first | k_is | rfl | k_exc | decide
    case cc_CB => first | k_is | rfl | k_exc | decide
    case mo_CB => first | k_is | rfl | k_exc | decide
    case so_CB => first | k_is | rfl | k_exc | decide
    case na_CB_rooms => first | k_is | rfl | k_exc | decide
    case na_CB__homes => first | k_is | rfl | k_exc | decide
    case a_C0 => first | k_is | rfl | k_exc | decide
    case x_C0 => first | k_is | rfl | k_exc | decide
    case sa_C0 => first | k_is | rfl | k_exc | decide
    case no_C0 => first | k_is | rfl | k_exc | decide
    case eC_C0 => first | k_is | rfl | k_exc | decide
    case ty_C0 => first | k_is | rfl | k_exc | decide
    case kp_C0 => first | k_is | rfl | k_exc | decide
    case ga_C0 => first | k_is | rfl | k_exc | decide
    case gg_C0 => first | k_is | rfl | k_exc | decide
    case hd_C0 => first | k_is | rfl | k_exc | decide
    case cc_C0 => first | k_is | rfl | k_exc | decide
    case mo_C0 => first | k_is | rfl | k_exc | decide
    case a_C1 => first | k_is | rfl | k_exc | decide
    case x_C1 => first | k_is | rfl | k_exc | decide
    case sa_C1 => first | k_is | rfl | k_exc | decide
    case no_C1 => first | k_is | rfl | k_exc | decide
    case eC_C1 => first | k_is | rfl | k_exc | decide
    case ty_C1 => first | k_is | rfl | k_exc | decide
    case kp_C1 => first | k_is | rfl | k_exc | decide
    case ga_C1 => first | k_is | rfl | k_exc | decide
    case gg_C1 => first | k_is | rfl | k_exc | decide
    case hd_C1 => first | k_is | rfl | k_exc | decide
    case cc_C1 => first | k_is | rfl | k_exc | decide
    case mo_C1 => first | k_is | rfl | k_exc | decide
    case a_C2 => first | k_is | rfl | k_exc | decide
    case x_C2 => first | k_is | rfl | k_exc | decide
    case sa_C2 => first | k_is | rfl | k_exc | decide
    case no_C2 => first | k_is | rfl | k_exc | decide
    case eC_C2 => first | k_is | rfl | k_exc | decide
    case ty_C2 => first | k_is | rfl | k_exc | decide
    case kp_C2 => first | k_is | rfl | k_exc | decide
    case ga_C2 => first | k_is | rfl | k_exc | decide
    case gg_C2 => first | k_is | rfl | k_exc | decide
    case hd_C2 => first | k_is | rfl | k_exc | decide
    case cc_C2 => first | k_is | rfl | k_exc | decide
    case mo_C2 => first | k_is | rfl | k_exc | decide
    case a_C3 => first | k_is | rfl | k_exc | decide
    case x_C3 => first | k_is | rfl | k_exc | decide
    case sa_C3 => first | k_is | rfl | k_exc | decide
    case no_C3 => first | k_is | rfl | k_exc | decide
    case eC_C3 => first | k_is | rfl | k_exc | decide
    case ty_C3 => first | k_is | rfl | k_exc | decide
    case kp_C3 => first | k_is | rfl | k_exc | decide
    case ga_C3 => first | k_is | rfl | k_exc | decide
    case gg_C3 => first | k_is | rfl | k_exc | decide
    case hd_C3 => first | k_is | rfl | k_exc | decide
    case cc_C3 => first | k_is | rfl | k_exc | decide
    case mo_C3 => first | k_is | rfl | k_exc | decide
    case a_C4 => first | k_is | rfl | k_exc | decide
    case x_C4 => first | k_is | rfl | k_exc | decide
    case sa_C4 => first | k_is | rfl | k_exc | decide
    case no_C4 => first | k_is | rfl | k_exc | decide
    case eC_C4 => first | k_is | rfl | k_exc | decide
    case ty_C4 => first | k_is | rfl | k_exc | decide
    case kp_C4 => first | k_is | rfl | k_exc | decide
    case ga_C4 => first | k_is | rfl | k_exc | decide
    case gg_C4 => first | k_is | rfl | k_exc | decide
    case hd_C4 => first | k_is | rfl | k_exc | decide
    case cc_C4 => first | k_is | rfl | k_exc | decide
    case mo_C4 => first | k_is | rfl | k_exc | decide
    case a_C5 => first | k_is | rfl | k_exc | decide
    case x_C5 => first | k_is | rfl | k_exc | decide
    case sa_C5 => first | k_is | rfl | k_exc | decide
    case no_C5 => first | k_is | rfl | k_exc | decide
    case eC_C5 => first | k_is | rfl | k_exc | decide
    case ty_C5 => first | k_is | rfl | k_exc | decide
    case kp_C5 => first | k_is | rfl | k_exc | decide
    case ga_C5 => first | k_is | rfl | k_exc | decide
    case gg_C5 => first | k_is | rfl | k_exc | decide
    case hd_C5 => first | k_is | rfl | k_exc | decide
    case cc_C5 => first | k_is | rfl | k_exc | decide
    case mo_C5 => first | k_is | rfl | k_exc | decide
    case a_C6 => first | k_is | rfl | k_exc | decide
    case x_C6 => first | k_is | rfl | k_exc | decide
    case sa_C6 => first | k_is | rfl | k_exc | decide
    case no_C6 => first | k_is | rfl | k_exc | decide
    case eC_C6 => first | k_is | rfl | k_exc | decide
    case ty_C6 => first | k_is | rfl | k_exc | decide
    case kp_C6 => first | k_is | rfl | k_exc | decide
    case ga_C6 => first | k_is | rfl | k_exc | decide
    case gg_C6 => first | k_is | rfl | k_exc | decide
    case hd_C6 => first | k_is | rfl | k_exc | decide
    case cc_C6 => first | k_is | rfl | k_exc | decide
    case mo_C6 => first | k_is | rfl | k_exc | decide
    case a_C7 => first | k_is | rfl | k_exc | decide
    case eC_C7 => first | k_is | rfl | k_exc | decide
    case ty_C7 => first | k_is | rfl | k_exc | decide
    case kp_C7 => first | k_is | rfl | k_exc | decide
    case ga_C7 => first | k_is | rfl | k_exc | decide
    case gg_C7 => first | k_is | rfl | k_exc | decide
    case hd_C7 => first | k_is | rfl | k_exc | decide
    case cc_C7 => first | k_is | rfl | k_exc | decide
    case mo_C7 => first | k_is | rfl | k_exc | decide
    case a_C8 => first | k_is | rfl | k_exc | decide
    case x_C8 => first | k_is | rfl | k_exc | decide
    case sa_C8 => first | k_is | rfl | k_exc | decide
    case no_C8 => first | k_is | rfl | k_exc | decide
    case eC_C8 => first | k_is | rfl | k_exc | decide
    case ty_C8 => first | k_is | rfl | k_exc | decide
    case kp_C8 => first | k_is | rfl | k_exc | decide
    case ga_C8 => first | k_is | rfl | k_exc | decide
    case gg_C8 => first | k_is | rfl | k_exc | decide
    case hd_C8 => first | k_is | rfl | k_exc | decide
    case cc_C8 => first | k_is | rfl | k_exc | decide
    case mo_C8 => first | k_is | rfl | k_exc | decide
    case a_C9 => first | k_is | rfl | k_exc | decide
    case x_C9 => first | k_is | rfl | k_exc | decide
    case sa_C9 => first | k_is | rfl | k_exc | decide
    case no_C9 => first | k_is | rfl | k_exc | decide
    case eC_C9 => first | k_is | rfl | k_exc | decide
    case ty_C9 => first | k_is | rfl | k_exc | decide
    case kp_C9 => first | k_is | rfl | k_exc | decide
    case ga_C9 => first | k_is | rfl | k_exc | decide
    case gg_C9 => first | k_is | rfl | k_exc | decide
    case hd_C9 => first | k_is | rfl | k_exc | decide
    case cc_C9 => first | k_is | rfl | k_exc | decide
    case mo_C9 => first | k_is | rfl | k_exc | decide
    case a_CR => first | k_is | rfl | k_exc | decide
    case hd_CR => first | k_is | rfl | k_exc | decide
    case ty_CR => first | k_is | rfl | k_exc | decide
    case s_C0_C0 => first | k_is | rfl | k_exc | decide
    case s_C0_C1 => first | k_is | rfl | k_exc | decide
    case s_C0_C2 => first | k_is | rfl | k_exc | decide
    case s_C0_C3 => first | k_is | rfl | k_exc | decide
    case s_C0_C4 => first | k_is | rfl | k_exc | decide
    case s_C0_C5 => first | k_is | rfl | k_exc | decide
    case s_C0_C6 => first | k_is | rfl | k_exc | decide
    case s_C0_C7 => first | k_is | rfl | k_exc | decide
    case s_C0_C8 => first | k_is | rfl | k_exc | decide
    case s_C0_C9 => first | k_is | rfl | k_exc | decide
    case s_C1_C0 => first | k_is | rfl | k_exc | decide
    case s_C1_C1 => first | k_is | rfl | k_exc | decide
    case s_C1_C2 => first | k_is | rfl | k_exc | decide
    case s_C1_C3 => first | k_is | rfl | k_exc | decide
    case s_C1_C4 => first | k_is | rfl | k_exc | decide
    case s_C1_C5 => first | k_is | rfl | k_exc | decide
    case s_C1_C6 => first | k_is | rfl | k_exc | decide
    case s_C1_C7 => first | k_is | rfl | k_exc | decide
    case s_C1_C8 => first | k_is | rfl | k_exc | decide
    case s_C1_C9 => first | k_is | rfl | k_exc | decide
    case s_C2_C0 => first | k_is | rfl | k_exc | decide
    case s_C2_C1 => first | k_is | rfl | k_exc | decide
    case s_C2_C2 => first | k_is | rfl | k_exc | decide
    case s_C2_C3 => first | k_is | rfl | k_exc | decide
    case s_C2_C4 => first | k_is | rfl | k_exc | decide
    case s_C2_C5 => first | k_is | rfl | k_exc | decide
    case s_C2_C6 => first | k_is | rfl | k_exc | decide
    case s_C2_C7 => first | k_is | rfl | k_exc | decide
    case s_C2_C8 => first | k_is | rfl | k_exc | decide
    case s_C2_C9 => first | k_is | rfl | k_exc | decide
    case s_C3_C0 => first | k_is | rfl | k_exc | decide
    case s_C3_C1 => first | k_is | rfl | k_exc | decide
    case s_C3_C2 => first | k_is | rfl | k_exc | decide
    case s_C3_C3 => first | k_is | rfl | k_exc | decide
    case s_C3_C4 => first | k_is | rfl | k_exc | decide
    case s_C3_C5 => first | k_is | rfl | k_exc | decide
    case s_C3_C6 => first | k_is | rfl | k_exc | decide
    case s_C3_C7 => first | k_is | rfl | k_exc | decide
    case s_C3_C8 => first | k_is | rfl | k_exc | decide
    case s_C3_C9 => first | k_is | rfl | k_exc | decide
    case s_C4_C0 => first | k_is | rfl | k_exc | decide
    case s_C4_C1 => first | k_is | rfl | k_exc | decide
    case s_C4_C2 => first | k_is | rfl | k_exc | decide
    case s_C4_C3 => first | k_is | rfl | k_exc | decide
    case s_C4_C4 => first | k_is | rfl | k_exc | decide
    case s_C4_C5 => first | k_is | rfl | k_exc | decide
    case s_C4_C6 => first | k_is | rfl | k_exc | decide
    case s_C4_C7 => first | k_is | rfl | k_exc | decide
    case s_C4_C8 => first | k_is | rfl | k_exc | decide
    case s_C4_C9 => first | k_is | rfl | k_exc | decide
    case s_C5_C0 => first | k_is | rfl | k_exc | decide
    case s_C5_C1 => first | k_is | rfl | k_exc | decide
    case s_C5_C2 => first | k_is | rfl | k_exc | decide
    case s_C5_C3 => first | k_is | rfl | k_exc | decide
    case s_C5_C4 => first | k_is | rfl | k_exc | decide
    case s_C5_C5 => first | k_is | rfl | k_exc | decide
    case s_C5_C6 => first | k_is | rfl | k_exc | decide
    case s_C5_C7 => first | k_is | rfl | k_exc | decide
    case s_C5_C8 => first | k_is | rfl | k_exc | decide
    case s_C5_C9 => first | k_is | rfl | k_exc | decide
    case s_C6_C0 => first | k_is | rfl | k_exc | decide
    case s_C6_C1 => first | k_is | rfl | k_exc | decide
    case s_C6_C2 => first | k_is | rfl | k_exc | decide
    case s_C6_C3 => first | k_is | rfl | k_exc | decide
    case s_C6_C4 => first | k_is | rfl | k_exc | decide
    case s_C6_C5 => first | k_is | rfl | k_exc | decide
    case s_C6_C6 => first | k_is | rfl | k_exc | decide
    case s_C6_C7 => first | k_is | rfl | k_exc | decide
    case s_C6_C8 => first | k_is | rfl | k_exc | decide
    case s_C6_C9 => first | k_is | rfl | k_exc | decide
    case s_C7_C0 => first | k_is | rfl | k_exc | decide
    case s_C7_C1 => first | k_is | rfl | k_exc | decide
    case s_C7_C2 => first | k_is | rfl | k_exc | decide
    case s_C7_C3 => first | k_is | rfl | k_exc | decide
    case s_C7_C4 => first | k_is | rfl | k_exc | decide
    case s_C7_C5 => first | k_is | rfl | k_exc | decide
    case s_C7_C6 => first | k_is | rfl | k_exc | decide
    case s_C7_C7 => first | k_is | rfl | k_exc | decide
    case s_C7_C8 => first | k_is | rfl | k_exc | decide
    case s_C7_C9 => first | k_is | rfl | k_exc | decide
    case s_C8_C0 => first | k_is | rfl | k_exc | decide
    case s_C8_C1 => first | k_is | rfl | k_exc | decide
    case s_C8_C2 => first | k_is | rfl | k_exc | decide
    case s_C8_C3 => first | k_is | rfl | k_exc | decide
    case s_C8_C4 => first | k_is | rfl | k_exc | decide
    case s_C8_C5 => first | k_is | rfl | k_exc | decide
    case s_C8_C6 => first | k_is | rfl | k_exc | decide
    case s_C8_C7 => first | k_is | rfl | k_exc | decide
    case s_C8_C8 => first | k_is | rfl | k_exc | decide
    case s_C8_C9 => first | k_is | rfl | k_exc | decide
    case s_C9_C0 => first | k_is | rfl | k_exc | decide
    case s_C9_C1 => first | k_is | rfl | k_exc | decide
    case s_C9_C2 => first | k_is | rfl | k_exc | decide
    case s_C9_C3 => first | k_is | rfl | k_exc | decide
    case s_C9_C4 => first | k_is | rfl | k_exc | decide
    case s_C9_C5 => first | k_is | rfl | k_exc | decide
    case s_C9_C6 => first | k_is | rfl | k_exc | decide
    case s_C9_C7 => first | k_is | rfl | k_exc | decide
    case s_C9_C8 => first | k_is | rfl | k_exc | decide
    case s_C9_C9 => first | k_is | rfl | k_exc | decide
    case s_C0_CR => first | k_is | rfl | k_exc | decide
    case s_C1_CR => first | k_is | rfl | k_exc | decide
    case s_C2_CR => first | k_is | rfl | k_exc | decide
    case s_C3_CR => first | k_is | rfl | k_exc | decide
    case s_C4_CR => first | k_is | rfl | k_exc | decide
    case s_C5_CR => first | k_is | rfl | k_exc | decide
    case s_C6_CR => first | k_is | rfl | k_exc | decide
    case s_C7_CR => first | k_is | rfl | k_exc | decide
    case s_C8_CR => first | k_is | rfl | k_exc | decide
    case s_C9_CR => first | k_is | rfl | k_exc | decide
    case s_C0_ValueError => first | k_is | rfl | k_exc | decide
    case s_C1_ValueError => first | k_is | rfl | k_exc | decide
    case s_C2_ValueError => first | k_is | rfl | k_exc | decide
    case s_C3_ValueError => first | k_is | rfl | k_exc | decide
    case s_C4_ValueError => first | k_is | rfl | k_exc | decide
    case s_C5_ValueError => first | k_is | rfl | k_exc | decide
    case s_C6_ValueError => first | k_is | rfl | k_exc | decide
    case s_C7_ValueError => first | k_is | rfl | k_exc | decide
    case s_C8_ValueError => first | k_is | rfl | k_exc | decide
    case s_C9_ValueError => first | k_is | rfl | k_exc | decide
    case sp => first | k_is | rfl | k_exc | decide
    case ti => first | k_is | rfl | k_exc | decide
    case v_LETTERS => first | k_is | rfl | k_exc | decide
    case v_MOST_ROOMS => first | k_is | rfl | k_exc | decide
    case v_MOST_OUTCOMES => first | k_is | rfl | k_exc | decide
    case z_isinstance => first | k_is | rfl | k_exc | decide
    case z_str => first | k_is | rfl | k_exc | decide
    case z_tuple => first | k_is | rfl | k_exc | decide
    case z_len => first | k_is | rfl | k_exc | decide
    case z_all => first | k_is | rfl | k_exc | decide
    case z_any => first | k_is | rfl | k_exc | decide
    case z_range => first | k_is | rfl | k_exc | decide
    case z_enumerate => first | k_is | rfl | k_exc | decide
    case z_sorted => first | k_is | rfl | k_exc | decide
    case z_abs => first | k_is | rfl | k_exc | decide
    case z_int => first | k_is | rfl | k_exc | decide
    case z_list => first | k_is | rfl | k_exc | decide
    case z_ValueError => first | k_is | rfl | k_exc | decide
    case q7 => first | k_is | rfl | k_exc | decide
    case aL => first | k_is | rfl | k_exc | decide
    case lL => first | k_is | rfl | k_exc | decide
    case cL => first | k_is | rfl | k_exc | decide
    case kL => first | k_is | rfl | k_exc | decide
    case d0 => (refine' K01.df_mk KX G ?a ?l ?c ?k; (case a => k_is); (case l => k_is); (case c => k_is); (case k => k_is))
    case d1 => (refine' K01.df_mk KX G ?a ?l ?c ?k; (case a => k_is); (case l => k_is); (case c => k_is); (case k => k_is))
    case d2 => (refine' K01.df_mk KX G ?a ?l ?c ?k; (case a => k_is); (case l => k_is); (case c => k_is); (case k => k_is))
    case d3 => (refine' K01.df_mk KX G ?a ?l ?c ?k; (case a => k_is); (case l => k_is); (case c => k_is); (case k => k_is))
    case d4 => (refine' K01.df_mk KX G ?a ?l ?c ?k; (case a => k_is); (case l => k_is); (case c => k_is); (case k => k_is))
    case d5 => (refine' K01.df_mk KX G ?a ?l ?c ?k; (case a => k_is); (case l => k_is); (case c => k_is); (case k => k_is))
    case d6 => (refine' K01.df_mk KX G ?a ?l ?c ?k; (case a => k_is); (case l => k_is); (case c => k_is); (case k => k_is))
    case d7 => (refine' K01.df_mk KX G ?a ?l ?c ?k; (case a => k_is); (case l => k_is); (case c => k_is); (case k => k_is))
    case d8 => (refine' K01.df_mk KX G ?a ?l ?c ?k; (case a => k_is); (case l => k_is); (case c => k_is); (case k => k_is))
    case d9 => (refine' K01.df_mk KX G ?a ?l ?c ?k; (case a => k_is); (case l => k_is); (case c => k_is); (case k => k_is))
    case d10 => (refine' K01.df_mk KX G ?a ?l ?c ?k; (case a => k_is); (case l => k_is); (case c => k_is); (case k => k_is))
    case d11 => (refine' K01.df_mk KX G ?a ?l ?c ?k; (case a => k_is); (case l => k_is); (case c => k_is); (case k => k_is))
    case d12 => (refine' K01.df_mk KX G ?a ?l ?c ?k; (case a => k_is); (case l => k_is); (case c => k_is); (case k => k_is))
    case d13 => (refine' K01.df_mk KX G ?a ?l ?c ?k; (case a => k_is); (case l => k_is); (case c => k_is); (case k => k_is))
    case d14 => (refine' K01.df_mk KX G ?a ?l ?c ?k; (case a => k_is); (case l => k_is); (case c => k_is); (case k => k_is))
    case d15 => (refine' K01.df_mk KX G ?a ?l ?c ?k; (case a => k_is); (case l => k_is); (case c => k_is); (case k => k_is))
    case d16 => (refine' K01.df_mk KX G ?a ?l ?c ?k; (case a => k_is); (case l => k_is); (case c => k_is); (case k => k_is))
    case d17 => (refine' K01.df_mk KX G ?a ?l ?c ?k; (case a => k_is); (case l => k_is); (case c => k_is); (case k => k_is))
    case d18 => (refine' K01.df_mk KX G ?a ?l ?c ?k; (case a => k_is); (case l => k_is); (case c => k_is); (case k => k_is))
    case m0 => (refine' K01.dm_mk ?a ?t ?l ?c ?k; (case a => k_is); (case t => k_is); (case l => k_is); (case c => k_is); (case k => k_is))
    case m1 => (refine' K01.dm_mk ?a ?t ?l ?c ?k; (case a => k_is); (case t => k_is); (case l => k_is); (case c => k_is); (case k => k_is))
    case m2 => (refine' K01.dm_mk ?a ?t ?l ?c ?k; (case a => k_is); (case t => k_is); (case l => k_is); (case c => k_is); (case k => k_is))
    case m3 => (refine' K01.dm_mk ?a ?t ?l ?c ?k; (case a => k_is); (case t => k_is); (case l => k_is); (case c => k_is); (case k => k_is))
    case m4 => (refine' K01.dm_mk ?a ?t ?l ?c ?k; (case a => k_is); (case t => k_is); (case l => k_is); (case c => k_is); (case k => k_is))
    case m5 => (refine' K01.dm_mk ?a ?t ?l ?c ?k; (case a => k_is); (case t => k_is); (case l => k_is); (case c => k_is); (case k => k_is))
    case m6 => (refine' K01.dm_mk ?a ?t ?l ?c ?k; (case a => k_is); (case t => k_is); (case l => k_is); (case c => k_is); (case k => k_is))
    case m7 => (refine' K01.dm_mk ?a ?t ?l ?c ?k; (case a => k_is); (case t => k_is); (case l => k_is); (case c => k_is); (case k => k_is))
    case m8 => (refine' K01.dm_mk ?a ?t ?l ?c ?k; (case a => k_is); (case t => k_is); (case l => k_is); (case c => k_is); (case k => k_is))
    case m9 => (refine' K01.dm_mk ?a ?t ?l ?c ?k; (case a => k_is); (case t => k_is); (case l => k_is); (case c => k_is); (case k => k_is))

