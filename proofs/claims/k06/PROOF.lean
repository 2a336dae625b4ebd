import PyProof.Rows.All
import Wide.All
import OpenK.AllK
import Wide.FinOn
import HandS.ForMost
import HandS.ForExc
import HandS.ExcInit
import HandS.ExcField
import HandS.ExcIs
import HandS.IsInst
import HandS.Style
import HandS.Wide
import HandS.Gcd
import HandS.Codes
import KE.GoesEnum
import HandS.TupAny
import HandS.Walk
import HandS.Iter
import HandS.ExcValue
import HandS.MakeKwOnly
import HandS.MakeKw
import HandS.More
import HandS.Deep
import HandS.Text
import HandS.Flow
import HandS.Zip
import HandS.Dict
import HandS.Sort
import HandS.List
import KE.DataCmp
import KE.SortData
import HandS.TryMany
import HandS.DictComp
import PySem.Challenge.RW_roomlooks_k06_lots_of_outcomes_apart
set_option Elab.async false
set_option linter.all false
set_option maxRecDepth 100000
set_option maxHeartbeats 2000000
/-! RKit: what several laws share. -/
namespace RK
open PySem PySem.Spec PyProof.Rows L2
/-! ### division of great ints by any divisor -/
def DivAny (_ j : Int) : Prop := j ≠ 0 ∧ j.natAbs.log2 < 9000
section
variable {X : Cx}
theorem op_fdivA : OpR X (binaryOp .FloorDiv) (rI DivAny fun i j => .int (Int.fdiv i j)) :=
  opI fun _ _ _ _ _ _ _ hc q => floordiv_int hc.1 q (.inl (PyProof.noPylong_of_log2 hc.2))
end
theorem divAny {i j : Int} {b : Nat} (h : j ≠ 0) (hb : j.natAbs < 2 ^ b) (h0 : 0 < b) (h9 : b ≤ 9000) : DivAny i j :=
  ⟨h, Nat.lt_of_lt_of_le (PySem.Flt.log2_lt_of h0 hb) h9⟩
/-! ### calls by keywords alone; the same where what is raised is wished for at the slots -/
section
variable {X : Cx} {CXt : CXT} {k : Nat} {f : Addr} {fd : FuncData} {ps ks : List Str} {sp : Sp} {x : Str} {p pos : Pos} {kws : List Keyword} {tk : TA}
  {g : List Value → List Value → List Value} {gV : List V → List V → List V}
theorem pe_kw0 {E : XK} (F : FnOk X.prog X.w X.K X.mg X.base CXt k f fd ps sp) (hr : Room k X.A) (hg : Gl X x) (hm : X.mg x = some (.ref f))
    (hk : PySem.W.keepIn X.K (.ref f) = true) (hb : KBinds X.K fd ps ks g gV) (hx : Passes CXt X E) (hkw : PK X kws tk)
    (hall : (backToKw pos (keywordEach kws X.env)).all (·.1.isSome) = true := by rfl)
    (hks : (backToKw pos (keywordEach kws X.env)).filterMap (·.1) = ks := by rfl)
    (hdb : (x == ("__debug__" : Str)) = false := by decide)
    (hpl : ((backTo pos (starEach [] X.env)).any (·.1) || (backToKw pos (keywordEach kws X.env)).any (·.1.isNone)) = false := by rfl) :
    PE X (.Call (.Name x p) [] kws pos) (tCallK sp gV E tNil tk) := ⟨fun pins s σ H Q I h => by
  refine wpAny_Call_Name_kw (ld_glob I hg hm ?_ hdb)
  refine PySem.W.callWith_KW0 (h₀ := X.base) I.ok.mod.kin hk hall ?_ hpl
  refine thn (hkw.run pos pins s σ H _ I h) fun ws s2 ⟨zs, H2, I2, rz, q2⟩ => ⟨I2.kIn, ?_⟩
  rw [hks]
  exact run_fnk F hr hb hx I2 .nil rz q2⟩
def tCallKS (sp : Sp) (gV : List V → List V → List V) (E : L2.St → XK) (t tk : TA) : TE := fun σ H Q => t σ H fun vs H1 => tk σ H1 fun zs H2 => sp (gV vs zs) H2 Q (E σ)
theorem run_kwS {E : L2.St → XK} {pins : List (Addr × Obj)} {σ : L2.St} {H : Hp} {s : Shared} {Q : VK} {us ws : List Value} {vs zs : List V}
    (F : FnOk X.prog X.w X.K X.mg X.base CXt k f fd ps sp) (hr : Room k X.A) (hb : KBinds X.K fd ps ks g gV) (hx : PassesAt CXt X σ (E σ))
    (I : Inv X pins σ H s) (r : Vals vs us) (rz : Vals zs ws) (h : sp (gV vs zs) H Q (E σ)) : wpAny (model X.prog X.w) X.A (call (.ref f) us (ks.zip ws)) (EP X pins σ Q) X.xe s := by
  have r2 := hb.rel r rz
  have hl : (g us ws).length = ps.length := r2.length.symm.trans (F.len _ _ _ _ h)
  have b := hb.to s us ws I.kIn hl
  refine wpAny_call (codeAny_mono (F.run X.A X.stack s H ⟨us, ks.zip ws⟩ (g us ws) (gV vs zs) Q (E σ) hr I.env0 b r2 h) ?_)
  intro r s' hq
  match r, hq with
  | .error e, hq => exact hx pins H s e s' I hq
  | .ok (.ret u), hq => exact I.after hq
theorem pe_kw0S {E : L2.St → XK} (F : FnOk X.prog X.w X.K X.mg X.base CXt k f fd ps sp) (hr : Room k X.A) (hg : Gl X x) (hm : X.mg x = some (.ref f))
    (hk : PySem.W.keepIn X.K (.ref f) = true) (hb : KBinds X.K fd ps ks g gV) (hx : ∀ σ, PassesAt CXt X σ (E σ)) (hkw : PK X kws tk)
    (hall : (backToKw pos (keywordEach kws X.env)).all (·.1.isSome) = true := by rfl)
    (hks : (backToKw pos (keywordEach kws X.env)).filterMap (·.1) = ks := by rfl)
    (hdb : (x == ("__debug__" : Str)) = false := by decide)
    (hpl : ((backTo pos (starEach [] X.env)).any (·.1) || (backToKw pos (keywordEach kws X.env)).any (·.1.isNone)) = false := by rfl) :
    PE X (.Call (.Name x p) [] kws pos) (tCallKS sp gV E tNil tk) := ⟨fun pins s σ H Q I h => by
  refine wpAny_Call_Name_kw (ld_glob I hg hm ?_ hdb)
  refine PySem.W.callWith_KW0 (h₀ := X.base) I.ok.mod.kin hk hall ?_ hpl
  refine thn (hkw.run pos pins s σ H _ I h) fun ws s2 ⟨zs, H2, I2, rz, q2⟩ => ⟨I2.kIn, ?_⟩
  rw [hks]
  exact run_kwS F hr hb (hx σ) I2 .nil rz q2⟩
end
/-! ### own errors of one field -/
/-- what is known of the class at C of errors with the one field f, whose __init__ stands at fI -/
structure ErrC (K : PySem.W.Frag) (mg : Str → Option Value) (x f : Str) (C fI : Addr) : Prop where
  gC : mg x = some (.ref C)
  oex : OexC K C
  xf : XfC K C
  exc : ExcC K C
  no : PySem.W.findIn K (.ref C) f = some none
  ini : PySem.W.findIn K (.ref C) "__init__" = some (some (.ref fI))
  tyI : PySem.W.typeIn K (.ref fI) = some (.type "function")
/-- __init__'s promise -/
def spIni (K : PySem.W.Frag) (f : Str) : Sp := fun vs H Q _ => ∃ (a C : Addr) (w : V), vs = [.ref a, w] ∧ OexC K C ∧ PySem.W.findIn K (.ref C) f = some none ∧ H a = some (exo a C none) ∧
  ∀ dx, H dx = none → dx ≠ a → Q .non (upd (upd H dx (exd dx [(f, w)])) a (exo a C (some dx)))
theorem upd_back {H : Hp} {a d : Addr} {o u w z : HO} (ha : H a = none) (hd : d ≠ a) : upd (del (upd (upd (upd H a o) d u) a w) a) d z = upd H d z := by
  funext b
  by_cases e : b = d
  · rw [e, upd_same, upd_same]
  · rw [upd_ne e, upd_ne e]
    by_cases e2 : b = a
    · rw [e2, del_same, ha]
    · rw [del_ne e2, upd_ne e2, upd_ne e, upd_ne e2]
/-- raise X(e): what stands behind e's reading, from what the error's new dict d leaves -/
theorem raise1 {K : PySem.W.Frag} {f : Str} {C : Addr} {H : Hp} {v : V} {Wd : XK} (T : OexC K C) (no : PySem.W.findIn K (.ref C) f = some none)
    (h : ∀ d, H d = none → Wd (.ref C) (some d) (upd H d (.xd [(f, v)]))) :
    ([v] : List V).length ≤ 1000 ∧ ∀ a, H a = none → spIni K f (.ref a :: ([v] ++ [])) (upd H a (exo a C none))
      (fun u H2 => u = .non ∧ ∃ (d : Addr) (fs : List (Str × V)), H2 a = some (exo a C (some d)) ∧ H2 d = some (exd d fs) ∧ H d = none ∧ Wd (.ref C) (some d) (upd (del H2 a) d (.xd fs))) (fun _ _ _ => False) := by
  refine ⟨by show 1 ≤ 1000; decide, fun a ha => ⟨a, C, v, rfl, T, no, upd_same, fun dx hdx hne => ⟨rfl, dx, [(f, v)], upd_same, ?_, ?_, ?_⟩⟩⟩
  · rw [upd_ne hne, upd_same]
  · rw [upd_ne hne] at hdx
    exact hdx
  · rw [upd_ne hne] at hdx
    rw [upd_back ha hne]
    exact h dx hdx
section
variable {X : Cx} {CXt : CXT} {C fI : Addr} {fd : FuncData} {f x : Str} {p pos pos' : Pos} {k : Nat} {e : Expr} {te : TE} {W : WX}
theorem ps_raise1 (T : ErrC X.K X.mg x f C fI) (F1 : FnOk X.prog X.w X.K X.mg X.base CXt k fI fd ["self", f] (spIni X.K f)) (hr : Room (k + 1) X.A)
    (hb : L2.Binds X.K fd ["self", f] []) (hx : Passes CXt X (fun _ _ _ => False)) (hc : X.calm = true) (tk : Takes X W) (he : PE X e te) (hg : Gl X x := by rfl)
    (hdb : (x == ("__debug__" : Str)) = false := by decide)
    (hst : starEach [e] X.env = (false, eval e X.env) :: starEach [] X.env := by rfl) (hpl : (backTo pos (starEach [] X.env)).any (·.1) = false := by rfl) :
    PS X (.Raise (some (.Call (.Name x p) [e] [] pos)) none pos') (fun _ σ H => tMkO C (spIni X.K f) [] (tCons te tNil) σ H fun cls d H' => W cls d σ H') :=
  ps_raise (pos := pos') hc tk (pmk_oex (p := p) T.oex T.ini T.tyI F1 hr hb .nil hx hg T.gC (pa_cons he (pa_nil) (hs := hst)) hdb hst hpl)
end
/-! ### isinstance of a caught error that has its own dict -/
section
open PySem.W PySem.Calls
variable {prog : Program} {w : World} {A : Around} {E : Value → Shared → Prop} {s : Shared} {K : Frag} {x D : Addr} {ox : Obj} {od : Option Obj}
theorem find_data {C : Addr} {nm : Str} {at_ gt : Value} (hc : (clsIn K C).isSome = true) (ha : findIn K (.ref C) nm = some (some at_)) (hg : specialIn K at_ "__get__" = some (some gt))
    (ht : takesIn K at_ = some true) : findObj K C od nm = some (.bind gt at_) := by
  obtain ⟨cd, e⟩ := Option.isSome_iff_exists.mp hc; unfold findObj; rw [e, Option.bind_some, ha]
  simp only [Option.bind_some, hg, ht]
/-- err.__class__, err an error of the own class at D with its dict -/
theorem cls_of_err {Q : Option Value → Shared → Prop} (T : ExcC K D) (X : K.In s.heap) (I : InstAt s.heap x ox D od) (h : Q (some (.ref D)) { s with toks := s.toks + 1 }) :
    wpAny (model prog w) A (getAttr? (.ref x) "__class__") Q E s := by
  have ic : (clsIn K D).isSome = true := by obtain ⟨cd, hc, _⟩ := any_some T.hd; rw [hc]; rfl
  have hf : findObj K D od "__class__" = some (.bind (.builtin "getset_descriptor.__get__") (.builtin "object.__class__")) := find_data ic T.ha T.hn T.ht
  obtain ⟨hp, g, dr, t, os⟩ := s
  have l0 := I.type (M := model prog w); have l1 := looks_findIn (M := model prog w) X T.hg; have l2 := looks_findIn (M := model prog w) X T.hk
  have l3 := looks_find (M := model prog w) X I hf
  have sb : Looks (model prog w) hp (isInstance (.ref x) (.type "BaseException")) true := l0.andThen (looks_subIn X T.hs)
  have n0 : (false && onTheHeap (Value.builtin "BaseException.__getattribute__")) = false := rfl
  have n1 : (onTheHeap (Value.ref D) && Value.builtin "BaseException.__getattribute__" == Value.builtin "object.__getattribute__") = false := by
    have n2 : (Value.builtin "BaseException.__getattribute__" == Value.builtin "object.__getattribute__") = false := by decide +kernel
    rw [n2, Bool.and_false]
  unfold getAttr? getAttrBy? getAttrBy; refine wpAny_bind (wpAny_mkText ?_)
  refine wpAny_bind (wpAny_attempt (wpAny_holding (wpAny_bind (l0.at (wpAny_bind (l1.at ?_))))))
  change wpAny _ _ (if (onTheHeap (Value.ref D) && Value.builtin "BaseException.__getattribute__" == Value.builtin "object.__getattribute__") = true then _ else _) _ _ _
  rw [n1, if_neg Bool.false_ne_true]; unfold getAttrByItsOwn hookBefore; refine wpAny_bind ?_
  rw [if_pos (show onTheHeap (Value.ref D) = true from rfl)]; refine l2.at (wpAny_bind (wpAny_attempt (wpAny_holding ?_)))
  unfold callGetattribute; rw [n0, if_neg Bool.false_ne_true]; unfold boundAndCalled
  rw [PySem.F.excAttr_ValueError.ga.bind (.ref x)]; refine wpAny_bind (wpAny_pure ?_)
  change wpAny _ _ (call (.builtin "BaseException.__getattribute__") [.ref x, .str "__class__" t]) _ _ _
  refine wpAny_call (codeAny_call_builtin PySem.F.excAttr_ValueError.ga.plain PySem.F.entry_bexc_ga
    (@check_slot (model prog w) _ _ ⟨hp, g, dr, t + 1, os⟩ "BaseException.__getattribute__" "BaseException" "__getattribute__" (.ref x) [.str "__class__" t] [] _
      (by decide +kernel) (by decide +kernel) sb (PySem.F.args_bexc_ga (.ref x) (.str "__class__" t)) ?_))
  unfold Builtin.«object.__getattribute__»
  refine wpAny_bind (wpAny_of_eq (a := ((Value.ref x : Value), [Value.str "__class__" t])) (by first | rfl | (simp only [slotArgs]; rfl)) (wpAny_bind (wpAny_pure (wpAny_bind (l0.at (wpAny_bind (l3.at ?_)))))))
  change wpAny _ _ (holding [Value.builtin "object.__class__"] (call (.builtin "getset_descriptor.__get__") [.builtin "object.__class__", .ref x, .ref D]) >>= ret) _ _ _
  refine wpAny_bind (wpAny_holding (wpAny_call (class_get (s := ⟨hp, g, dr, t + 1, os⟩) (ox := ox) (od := od) X I T.hm (wpAny_pure ?_))))
  change wpAny _ _ (handedOut (.ref D)) _ _ _
  rw [handedOut_of (v := .ref D) rfl]
  first | exact wpAny_pure (wpAny_pure h) | exact wpAny_pure h | exact wpAny_pure (wpAny_bind (wpAny_pure (wpAny_pure h)))
theorem kit_err (T : ExcC K D) : KitX K (.ref x) (.ref D) (fun h => InstAt h x ox D od) where
  ty := fun _ _ _ I => I.type
  it := fun _ _ X _ => by
    obtain ⟨cd, hc, _⟩ := any_some T.hd
    unfold clsIn at hc; split at hc
    · rename_i c' d' cd' sl' ho
      intro A' Q' E' s' kk q; unfold isType loadHead; exact wpAny_bind (wpAny_loadPart (kk _ _ (X _ _ ho)) (wpAny_pure q))
    · cases hc
  ne := fun h tp dd its n sl X htp => by
    obtain ⟨cd, hc, _⟩ := any_some T.hd
    cases q : (Value.ref D == Value.ref tp) with
    | false => rfl
    | true =>
      cases (Value.ref.inj (beq_iff_eq.mp q) : D = tp)
      unfold clsIn at hc; split at hc
      · rename_i c' d' cd' sl' ho
        cases (X _ _ ho).symm.trans htp
      · cases hc
  ca := fun X I kk => cls_of_err T X I kk
end
/-- isinstance(e, c), e the error that the suite holds (its class cls, its own dict d) -/
def rIsErr (K : PySem.W.Frag) (D a : Addr) (cls : Value) (d : Option Addr) : List V → Hp → VK → Prop := fun xs H Q => ∃ (c : V) (cv : Value) (b : Bool) (dd : Addr) (fs : List (Str × V)),
  xs = [.ref a, c] ∧ cls = .ref D ∧ d = some dd ∧ ClsV c cv ∧ H dd = some (.xd fs) ∧ PySem.W.kitOne K (.ref D) cv = some b ∧ Q (.bl b) H
theorem call_isErr {X : Cx} {a D : Addr} {cls : Value} {d : Option Addr} {oe : Obj} {pn : List (Addr × Obj)} (C : ExcC X.K D) (hz : Zc cls d oe) (hf : ∃ vs, oe.data = .fields vs) :
    CallR (X.suite a ((a, oe) :: pn)) (.builtin "isinstance") (rIsErr X.K D a cls d) := by
  intro pins s σ H xs us Q I r h
  obtain ⟨c, cv, b, dd, fs, rfl, ec, ed, hcv, hx, e, q⟩ := h
  subst ec ed
  obtain ⟨u1, u2, rfl, r1, r2⟩ := vals2 r
  cases (show u1 = Value.ref a from r1)
  have e2 := hcv.eq r2
  subst e2
  obtain ⟨hget, _⟩ := I.pin (a, oe) (List.mem_append.mpr (.inl List.mem_cons_self))
  obtain ⟨vs, hv⟩ := hf
  obtain ⟨mA, hns, hr⟩ := (show ObjOk X.prog X.w H s.heap dd (.xd fs) from I.hok dd _ hx)
  obtain ⟨od, ho, _⟩ := lookIn_ns hns
  have J : PySem.W.InstAt s.heap a oe D (some od) := ⟨hget, hz.1, by unfold PySem.W.notCls; rw [hv] <;> rfl, by rw [hz.2]; exact ho⟩
  exact PySem.W.kia_one (kit_err C) I.kIn J e (fun z => nomatch z) fun tk => ⟨.bl b, H, I.kept (t' := tk) fun _ _ z => z, rfl, q⟩
/-! ### heaps -/
/-- all that was tracked is as it was, but at p -/
def Kp (p : Addr) (H H' : Hp) : Prop := ∀ b o, H b = some o → b ≠ p → H' b = some o
theorem Kp.refl (p : Addr) (H : Hp) : Kp p H H := fun _ _ h _ => h
theorem Kp.trans {p : Addr} {H H1 H2 : Hp} (a : Kp p H H1) (b : Kp p H1 H2) : Kp p H H2 := fun c o h n => b c o (a c o h n) n
theorem Kp.of {p : Addr} {H H1 : Hp} (a : Same H H1) : Kp p H H1 := fun c o h _ => a c o h
theorem Kp.seqL {K : PySem.W.Frag} {p a : Addr} {H H' : Hp} {xs : List V} (e : Kp p H H') (h : SqL K H a xs) (n : a ≠ p) : SqL K H' a xs := by
  rcases h with (h | ⟨o, h⟩) | h
  · exact .inl (.inl (e _ _ h n))
  · exact .inl (.inr ⟨o, e _ _ h n⟩)
  · exact .inr h
theorem Same.upd {H : Hp} {p : Addr} {o : HO} (h : H p = none) : Same H (L2.upd H p o) := fun b u e => by
  rw [upd_ne (ne_of_none e h)]
  exact e
theorem Same.updAt {H H1 : Hp} {p : Addr} {o : HO} (s : Same H H1) (h : H p = none) : Same H (L2.upd H1 p o) := fun b u e => by
  rw [upd_ne (ne_of_none e h)]
  exact s b u e
end RK
namespace RK
open PySem PySem.Spec PyProof.Rows L2
/-- what is known of a value's kind stays known -/
theorem TyX.mono {K : PySem.W.Frag} {H H' : Hp} (S : Same H H') {v : V} {t : Value} (h : TyX K H v t) : TyX K H' v t := by
  cases h with
  | base b =>
    refine .base ?_
    cases b with
    | non => exact .non
    | bl x => exact .bl x
    | int i => exact .int i
    | str x => exact .str x
    | flt x => exact .flt x
    | lst e => exact .lst (S _ _ e)
    | frz e => exact .frz (S _ _ e)
    | tup e => exact .tup (S _ _ e)
    | dK e => exact .dK (S _ _ e)
    | dT e => exact .dT (S _ _ e)
    | ins e cl ha hn ht hm => exact .ins (S _ _ e) cl ha hn ht hm
  | byt b => exact .byt b
  | set e => exact .set (S _ _ e)
  | kList e c => exact .kList e c
  | kTuple e c => exact .kTuple e c
  | kDict e c => exact .kDict e c
  | fTuple e => exact .fTuple (S _ _ e)
  | fDict e => exact .fDict (S _ _ e)
end RK
/-! ### a def that is called, in one piece: where it stands, its promise, how its arguments bind -/
namespace RK
open PySem PySem.Spec PyProof.Rows L2
structure Cl (P : Program) (w : World) (K : PySem.W.Frag) (mg : Str → Option Value) (base : Heap) (CXt : CXT) (k : Nat) (x : Str) (ps : List Str) (sp : Sp) : Prop where
  ex : ∃ (f : Addr) (fd : FuncData), FnOk P w K mg base CXt k f fd ps sp ∧ mg x = some (.ref f) ∧ PySem.W.keepIn K (.ref f) = true ∧ L2.Binds K fd ps []
/-- the same, called by keywords ks alone -/
structure Ck (P : Program) (w : World) (K : PySem.W.Frag) (mg : Str → Option Value) (base : Heap) (CXt : CXT) (k : Nat) (x : Str) (ps ks : List Str) (gV : List V → List V → List V) (sp : Sp) : Prop where
  ex : ∃ (f : Addr) (fd : FuncData) (g : List Value → List Value → List Value), FnOk P w K mg base CXt k f fd ps sp ∧ mg x = some (.ref f) ∧ PySem.W.keepIn K (.ref f) = true ∧ KBinds K fd ps ks g gV
section
variable {X : Cx} {CXt : CXT} {j k : Nat} {ps ks : List Str} {sp : Sp} {x : Str} {p pos : Pos} {e : Expr} {es : List Expr} {t tk : TA} {kws : List Keyword} {gV : List V → List V → List V}
theorem pe_f {E : XK} (c : Cl X.prog X.w X.K X.mg X.base CXt k x ps sp) (hr : Room j X.A) (hk : k ≤ j) (hx : Passes CXt X E) (ha : PA X (e :: es) t) (hg : Gl X x := by rfl)
    (hdb : (x == ("__debug__" : Str)) = false := by decide) (he : starEach (e :: es) X.env = (false, eval e X.env) :: starEach es X.env := by rfl) (hpl : (backTo pos (starEach es X.env)).any (·.1) = false := by rfl) :
    PE X (.Call (.Name x p) (e :: es) [] pos) (tCall sp [] E t) := by
  obtain ⟨f, fd, F, hm, kp, b⟩ := c.ex
  exact pe_call F (hr.mono hk) hg hm kp b .nil hx ha hdb he hpl
theorem pe_fS {E : L2.St → XK} (c : Cl X.prog X.w X.K X.mg X.base CXt k x ps sp) (hr : Room j X.A) (hk : k ≤ j) (hx : ∀ σ, PassesAt CXt X σ (E σ)) (ha : PA X (e :: es) t) (hg : Gl X x := by rfl)
    (hdb : (x == ("__debug__" : Str)) = false := by decide) (he : starEach (e :: es) X.env = (false, eval e X.env) :: starEach es X.env := by rfl) (hpl : (backTo pos (starEach es X.env)).any (·.1) = false := by rfl) :
    PE X (.Call (.Name x p) (e :: es) [] pos) (tCallS sp E t) := by
  obtain ⟨f, fd, F, hm, kp, b⟩ := c.ex
  exact pe_callS F (hr.mono hk) hg hm kp b hx ha hdb he hpl
theorem pe_k {E : XK} (c : Ck X.prog X.w X.K X.mg X.base CXt k x ps ks gV sp) (hr : Room j X.A) (hk : k ≤ j) (hx : Passes CXt X E) (hkw : PK X kws tk) (hg : Gl X x := by rfl)
    (hall : (backToKw pos (keywordEach kws X.env)).all (·.1.isSome) = true := by rfl)
    (hks : (backToKw pos (keywordEach kws X.env)).filterMap (·.1) = ks := by rfl)
    (hdb : (x == ("__debug__" : Str)) = false := by decide)
    (hpl : ((backTo pos (starEach [] X.env)).any (·.1) || (backToKw pos (keywordEach kws X.env)).any (·.1.isNone)) = false := by rfl) :
    PE X (.Call (.Name x p) [] kws pos) (tCallK sp gV E tNil tk) := by
  obtain ⟨f, fd, g, F, hm, kp, b⟩ := c.ex
  exact pe_kw0 F (hr.mono hk) hg hm kp b hx hkw hall hks hdb hpl
theorem pe_kS {E : L2.St → XK} (c : Ck X.prog X.w X.K X.mg X.base CXt k x ps ks gV sp) (hr : Room j X.A) (hk : k ≤ j) (hx : ∀ σ, PassesAt CXt X σ (E σ)) (hkw : PK X kws tk) (hg : Gl X x := by rfl)
    (hall : (backToKw pos (keywordEach kws X.env)).all (·.1.isSome) = true := by rfl)
    (hks : (backToKw pos (keywordEach kws X.env)).filterMap (·.1) = ks := by rfl)
    (hdb : (x == ("__debug__" : Str)) = false := by decide)
    (hpl : ((backTo pos (starEach [] X.env)).any (·.1) || (backToKw pos (keywordEach kws X.env)).any (·.1.isNone)) = false := by rfl) :
    PE X (.Call (.Name x p) [] kws pos) (tCallKS sp gV E tNil tk) := by
  obtain ⟨f, fd, g, F, hm, kp, b⟩ := c.ex
  exact pe_kw0S F (hr.mono hk) hg hm kp b hx hkw hall hks hdb hpl
end
/-- keywords in the parameters' own order, nothing else -/
def kwId {α : Type} : List α → List α → List α
  | [], ws => ws
  | _ :: _, _ => []
/-- two keywords, the second parameter's first -/
def kwSw {α : Type} : List α → List α → List α
  | [], [y, x] => [x, y]
  | _, _ => []
theorem kwId_rel {vs : List V} {us : List Value} {zs : List V} {ws : List Value} (r : Vals vs us) (rz : Vals zs ws) : Vals (kwId vs zs) (kwId us ws) := by
  cases r with
  | nil => exact rz
  | cons _ _ => exact .nil
theorem kwSw_rel {vs : List V} {us : List Value} {zs : List V} {ws : List Value} (r : Vals vs us) (rz : Vals zs ws) : Vals (kwSw vs zs) (kwSw us ws) := by
  cases r with
  | cons _ _ => exact .nil
  | nil =>
    cases rz with
    | nil => exact .nil
    | cons a rz =>
      cases rz with
      | nil => exact .nil
      | cons b rz =>
        cases rz with
        | nil => exact .cons b (.cons a .nil)
        | cons _ _ => exact .nil
theorem fun_kb {K : PySem.W.Frag} {x qual : Str} {st : Stmt} {f : Addr} {fd : FuncData} {ps ks : List Str} {g : List Value → List Value → List Value} {gV : List V → List V → List V} (F : Fun K x qual st f fd)
    (rel : ∀ {vs : List V} {us : List Value} {zs : List V} {ws : List Value}, Vals vs us → Vals zs ws → Vals (gV vs zs) (g us ws))
    (h : ∀ (kV doc pm : Value) (an : Option Addr) (cdv ct : Value) (us ws : List Value), (g us ws).length = ps.length →
      bindArgs (PySem.W.fnOf x qual (defArgs st) (defBody st) (defScope st) .none kV doc pm an cdv ct) ⟨us, ks.zip ws⟩ = pure (ps.zip (g us ws))) : KBinds K fd ps ks g gV := by
  obtain ⟨oc, od, kV, doc, pm, an, cdv, ct, osl, rfl, lk, hcd⟩ := F.ex
  exact ⟨fun s us ws _ hl => .of_eq (h kV doc pm an cdv ct us ws hl), rel⟩
theorem Cl.of {P : Program} {w : World} {K : PySem.W.Frag} {mg : Str → Option Value} {base : Heap} {CXt : CXT} {k : Nat} {x : Str} {ps : List Str} {sp : Sp} {f : Addr} {fd : FuncData} {qual : Str} {st : Stmt}
    (F : Fun K x qual st f fd) (hm : mg x = some (.ref f)) (G : FnOk P w K mg base CXt k f fd ps sp) (b : L2.Binds K fd ps []) : Cl P w K mg base CXt k x ps sp := ⟨f, fd, G, hm, F.kp, b⟩
theorem Ck.of {P : Program} {w : World} {K : PySem.W.Frag} {mg : Str → Option Value} {base : Heap} {CXt : CXT} {k : Nat} {x : Str} {ps ks : List Str} {gV : List V → List V → List V} {sp : Sp} {f : Addr} {fd : FuncData} {qual : Str} {st : Stmt} {g : List Value → List Value → List Value}
    (F : Fun K x qual st f fd) (hm : mg x = some (.ref f)) (G : FnOk P w K mg base CXt k f fd ps sp) (b : KBinds K fd ps ks g gV) : Ck P w K mg base CXt k x ps ks gV sp := ⟨f, fd, g, G, hm, F.kp, b⟩
end RK
/-! ### what is sure of an expression, a test, from a heap on: it only adds objects -/
namespace RK
open PySem PySem.Spec PyProof.Rows L2
/-- te gives from H on some v with R v, and what was tracked stays -/
def Go (σ : L2.St) (H : Hp) (te : TE) (R : V → Hp → Prop) : Prop := ∀ H1, L2.Same H H1 → ∀ Q : VK, (∀ v H2, L2.Same H1 H2 → R v H2 → Q v H2) → te σ H1 Q
/-- a test's answer is b -/
def GoT (σ : L2.St) (H : Hp) (t : TT) (b : Bool) : Prop := ∀ H1, L2.Same H H1 → ∀ Q : Bool → Hp → Prop, (∀ H2, L2.Same H1 H2 → Q b H2) → t σ H1 Q
def IsB (b : Bool) : V → Hp → Prop := fun v _ => v = .bl b
def IsZ (z : Int) : V → Hp → Prop := fun v _ => v = .int z
section
variable {σ : L2.St} {H H' : Hp} {te ta tb : TE} {t u : TT} {b c : Bool} {i : Nat} {v : V} {R : V → Hp → Prop} {x y z : Int}
theorem Go.mono (a : Go σ H te R) (S : L2.Same H H') : Go σ H' te R := fun H1 S1 => a H1 (S.trans S1)
theorem Go.imp {R' : V → Hp → Prop} (a : Go σ H te R) (h : ∀ v H, R v H → R' v H) : Go σ H te R' := fun H1 S Q q => a H1 S Q fun v H2 S2 r => q v H2 S2 (h v H2 r)
theorem GoT.mono (a : GoT σ H t b) (S : L2.Same H H') : GoT σ H' t b := fun H1 S1 => a H1 (S.trans S1)
theorem go_var (hs : σ[i]? = some (some v)) (h : ∀ H1, L2.Same H H1 → R v H1) : Go σ H (tVar i) R := fun H1 S _ q => ⟨v, hs, q v H1 (L2.Same.refl H1) (h H1 S)⟩
theorem go_c (h : ∀ H1, L2.Same H H1 → R v H1) : Go σ H (tC v) R := fun H1 S _ q => q v H1 (L2.Same.refl H1) (h H1 S)
theorem goz_var (hs : σ[i]? = some (some (.int z))) : Go σ H (tVar i) (IsZ z) := go_var hs fun _ _ => rfl
theorem goz_c : Go σ H (tC (.int z)) (IsZ z) := go_c fun _ _ => rfl
theorem gob_c : Go σ H (tC (.bl b)) (IsB b) := go_c fun _ _ => rfl
theorem goz_add (a : Go σ H ta (IsZ x)) (b : Go σ H tb (IsZ y)) : Go σ H (tOp (rI0 fun i j => .int (i + j)) ta tb) (IsZ (x + y)) := fun H1 S Q q =>
  a H1 S _ fun _ H2 S2 e => b H2 (S.trans S2) _ fun _ H3 S3 e2 => ⟨x, y, e, e2, q _ H3 (S2.trans S3) rfl⟩
theorem goz_sub (a : Go σ H ta (IsZ x)) (b : Go σ H tb (IsZ y)) : Go σ H (tOp (rI0 fun i j => .int (i - j)) ta tb) (IsZ (x - y)) := fun H1 S Q q =>
  a H1 S _ fun _ H2 S2 e => b H2 (S.trans S2) _ fun _ H3 S3 e2 => ⟨x, y, e, e2, q _ H3 (S2.trans S3) rfl⟩
theorem goz_mulW (a : Go σ H ta (IsZ x)) (b : Go σ H tb (IsZ y)) (h : CMulW x y) : Go σ H (tOp (rI CMulW fun i j => .int (i * j)) ta tb) (IsZ (x * y)) := fun H1 S Q q =>
  a H1 S _ fun _ H2 S2 e => b H2 (S.trans S2) _ fun _ H3 S3 e2 => ⟨x, y, e, e2, h, q _ H3 (S2.trans S3) rfl⟩
theorem gob_lt (a : Go σ H ta (IsZ x)) (b : Go σ H tb (IsZ y)) : Go σ H (tOp (rI0 fun i j => .bl (decide (i < j))) ta tb) (IsB (decide (x < y))) := fun H1 S Q q =>
  a H1 S _ fun _ H2 S2 e => b H2 (S.trans S2) _ fun _ H3 S3 e2 => ⟨x, y, e, e2, q _ H3 (S2.trans S3) rfl⟩
theorem got_B (a : Go σ H te (IsB b)) : GoT σ H (tB te) b := fun H1 S Q q => a H1 S _ fun v H2 S2 e => ⟨b, e, q H2 S2⟩
theorem got_test (a : Go σ H te (IsB b)) : GoT σ H (tTest te) b := fun H1 S Q q => a H1 S _ fun v H2 S2 e => ⟨b, e, q H2 S2⟩
theorem got_not (a : GoT σ H t b) : GoT σ H (tNot t) (!b) := fun H1 S Q q => a H1 S _ fun H2 S2 => q H2 S2
theorem got_or (a : GoT σ H t b) (h : b = false → GoT σ H u c) : GoT σ H (tOr t u) (b || c) := fun H1 S Q q => a H1 S _ fun H2 S2 => by
  cases b with
  | true => exact iteT (q H2 S2)
  | false => exact iteF (h rfl H2 (S.trans S2) _ fun H3 S3 => q H3 (S2.trans S3))
theorem got_orF (a : GoT σ H t false) (h : GoT σ H u false) : GoT σ H (tOr t u) false := got_or a fun _ => h
theorem got_and (a : GoT σ H t b) (h : b = true → GoT σ H u c) : GoT σ H (tAnd t u) (b && c) := fun H1 S Q q => a H1 S _ fun H2 S2 => by
  cases b with
  | true => exact iteT (h rfl H2 (S.trans S2) _ fun H3 S3 => q H3 (S2.trans S3))
  | false => exact iteF (q H2 S2)
theorem got_notT (a : GoT σ H t true) : GoT σ H (tNot t) false := got_not a
theorem gob_notB (a : Go σ H ta (IsB b)) (c : Bool) : Go σ H (tOp rNotB ta (tC (.bl c))) (IsB (!decide (b = c))) := fun H1 S Q q => a H1 S _ fun v H2 S2 e => ⟨b, c, e, rfl, q _ H2 S2 rfl⟩
theorem gob_neB (a : Go σ H ta (IsB b)) (d : Go σ H tb (IsB c)) : Go σ H (tOp rNe ta tb) (IsB (!decide (V.bl b = V.bl c))) := fun H1 S Q q => a H1 S _ fun v H2 S2 e => d H2 (S.trans S2) _ fun w H3 S3 e2 => by
  cases (show v = .bl b from e)
  cases (show w = .bl c from e2)
  exact ⟨rfl, q _ H3 (S2.trans S3) rfl⟩
theorem gob_neZ (a : Go σ H ta (IsZ x)) (d : Go σ H tb (IsZ y)) : Go σ H (tOp rNe ta tb) (IsB (!decide (x = y))) := fun H1 S Q q => a H1 S _ fun v H2 S2 e => d H2 (S.trans S2) _ fun w H3 S3 e2 => by
  cases (show v = .int x from e)
  cases (show w = .int y from e2)
  refine ⟨rfl, q _ H3 (S2.trans S3) ?_⟩
  show V.bl _ = V.bl _
  rw [dec_int]
  rfl
/-- an if whose test is known -/
theorem if_no {tt uu : TS} {D : Ends} (a : GoT σ H t false) (h : ∀ H2, L2.Same H H2 → uu D σ H2) : tIfS t tt uu D σ H := a H (L2.Same.refl H) _ fun H2 S => iteF (h H2 S)
theorem if_yes {tt uu : TS} {D : Ends} (a : GoT σ H t true) (h : ∀ H2, L2.Same H H2 → tt D σ H2) : tIfS t tt uu D σ H := a H (L2.Same.refl H) _ fun H2 S => iteT (h H2 S)
theorem sif {tt rest : TS} {D : Ends} (a : GoT σ H t false) (h : ∀ H2, L2.Same H H2 → rest D σ H2) : tSeq (tIfS t tt tNext) rest D σ H := a H (L2.Same.refl H) _ fun H2 S => iteF (h H2 S)
theorem sset {rest : TS} {D : Ends} (a : Go σ H te R) (h : ∀ v H2, L2.Same H H2 → R v H2 → rest D (σ.set i (some v)) H2) : tSeq (tAsg te (gName i)) rest D σ H := a H (L2.Same.refl H) _ fun v H2 S r => h v H2 S r
theorem got_andF (a : GoT σ H t b) (h : b = true → GoT σ H u false) : GoT σ H (tAnd t u) false := fun H1 S Q q => a H1 S _ fun H2 S2 => by
  cases b with
  | true => exact iteT (h rfl H2 (S.trans S2) _ fun H3 S3 => q H3 (S2.trans S3))
  | false => exact iteF (q H2 S2)
theorem gob_eq (a : Go σ H te (IsB b)) (h : b = c) : Go σ H te (IsB c) := h ▸ a
theorem got_eq (a : GoT σ H t b) (h : b = c) : GoT σ H t c := h ▸ a
theorem spar {j : Nat} {R' : V → Hp → Prop} {rest : TS} {D : Ends} (a : Go σ H ta R) (b : ∀ v H2, L2.Same H H2 → R v H2 → Go σ H2 tb R')
    (h : ∀ v w H2 H3, L2.Same H H2 → R v H2 → L2.Same H2 H3 → R' w H3 → rest D ((σ.set i (some v)).set j (some w)) H3) : tSeq (tPar i j (tCons ta (tCons tb tNil))) rest D σ H :=
  a H (L2.Same.refl H) _ fun v H2 S2 r => b v H2 S2 r H2 (L2.Same.refl H2) _ fun w H3 S3 r3 => ⟨v, w, rfl, h v w H2 H3 S2 r S3 r3⟩
theorem stup4 {K : PySem.W.Frag} {i1 i2 i3 i4 : Nat} {tc td : TE} {z w : Int} {rest : TS} {D : Ends} (a : Go σ H ta (IsZ x)) (b : Go σ H tb (IsZ y)) (c : Go σ H tc (IsZ z)) (d : Go σ H td (IsZ w))
    (h : ∀ H2, L2.Same H H2 → rest D ((((σ.set i1 (some (.int x))).set i2 (some (.int y))).set i3 (some (.int z))).set i4 (some (.int w))) H2) :
    tSeq (tAsg (tTup (tCons ta (tCons tb (tCons tc (tCons td tNil))))) (gTup K 4 (gCons (gName i1) (gCons (gName i2) (gCons (gName i3) (gCons (gName i4) gNil)))))) rest D σ H :=
  a H (L2.Same.refl H) _ fun v1 H1 S1 e1 => b H1 S1 _ fun v2 H2 S2 e2 => c H2 (S1.trans S2) _ fun v3 H3 S3 e3 => d H3 (S1.trans (S2.trans S3)) _ fun v4 H4 S4 e4 =>
    ⟨(by show 4 ≤ sizeLine; decide), fun p hp => ⟨p, _, rfl, SqT.of upd_same, rfl, v1, _, rfl, v2, _, rfl, v3, _, rfl, v4, _, rfl, rfl, by
      cases (show v1 = .int x from e1)
      cases (show v2 = .int y from e2)
      cases (show v3 = .int z from e3)
      cases (show v4 = .int w from e4)
      exact h _ (S1.trans (S2.trans (S3.trans (S4.trans (RK.Same.upd hp)))))⟩⟩
end
theorem kit_self {K : PySem.W.Frag} {C : Addr} : PySem.W.kitOne K (.ref C) (.ref C) = some true := by
  unfold PySem.W.kitOne
  rw [if_pos (beq_iff_eq.mpr rfl)]
theorem kit_sub {K : PySem.W.Frag} {C S : Addr} {b : Bool} (ne : (Value.ref C == Value.ref S) = false) (hd : PySem.W.hasDictIn K S = true) (ht : PySem.W.typeIn K (.ref S) = some (.type "type"))
    (hs : PySem.W.subIn K (.ref C) (.ref S) = some b) : PySem.W.kitOne K (.ref C) (.ref S) = some b := by
  obtain ⟨cd, hc, _⟩ := PySem.W.any_some hd
  have e2 : ((PySem.W.clsIn K S).isSome && PySem.W.typeIn K (.ref S) == some (.type "type")) = true := by rw [hc, ht] <;> rfl
  unfold PySem.W.kitOne PySem.W.kitCls
  rw [ne, if_neg Bool.false_ne_true]
  dsimp only
  rw [if_pos e2]
  exact hs
end RK


set_option Elab.async false
set_option linter.all false
set_option maxRecDepth 100000
/-! methods of an own class, in one piece -/
namespace RK
open PySem PySem.Spec PyProof.Rows L2
structure Cm (P : Program) (w : World) (K : PySem.W.Frag) (mg : Str → Option Value) (base : Heap) (CXt : CXT) (k : Nat) (C : Addr) (m : Str) (ps : List Str) (sp : Sp) : Prop where
  ex : ∃ (f : Addr) (fd : FuncData), FnOk P w K mg base CXt k f fd ps sp ∧ Meth K C m f ∧ L2.Binds K fd ps []
section
variable {X : Cx} {CXt : CXT} {j k : Nat} {ps : List Str} {sp : Sp} {m : Str} {p pos apos : Pos} {o e : Expr} {es : List Expr} {ta : TE} {t : TA} {C : Addr}
theorem pe_m {E : XK} {pl : Sem Bool} (c : Cm X.prog X.w X.K X.mg X.base CXt k C m ps sp) (cl : Cls X.K C) (hr : Room j X.A) (hk : k ≤ j) (hx : Passes CXt X E) (he : PE X o ta) (ha : PA X (e :: es) t)
    (hst : starEach (e :: es) X.env = (false, eval e X.env) :: starEach es X.env := by rfl) (hpl : (backTo pos (starEach es X.env)).any (·.1) = false := by rfl)
    (ht : eval (.Call (.Attribute o m apos) (e :: es) [] pos) X.env = (do
      let ov ← eval o X.env
      standAt apos.atName
      let (f, first) ← holding [ov] (getMethod ov m pl)
      callWith pos f first (backTo pos (starEach (e :: es) X.env)) (backToKw pos (keywordEach [] X.env))) := by rfl) :
    PE X (.Call (.Attribute o m apos) (e :: es) [] pos) (tMeth C m sp [] E ta t) := by
  obtain ⟨f, fd, F, M, b⟩ := c.ex
  exact pe_meth he cl M F (hr.mono hk) b .nil hx ha hst hpl ht
theorem pe_m0 {E : XK} {pl : Sem Bool} (c : Cm X.prog X.w X.K X.mg X.base CXt k C m ps sp) (cl : Cls X.K C) (hr : Room j X.A) (hk : k ≤ j) (hx : Passes CXt X E) (he : PE X o ta)
    (ht : eval (.Call (.Attribute o m apos) [] [] pos) X.env = (do
      let ov ← eval o X.env
      standAt apos.atName
      let (f, first) ← holding [ov] (getMethod ov m pl)
      callWith pos f first (backTo pos (starEach [] X.env)) (backToKw pos (keywordEach [] X.env))) := by rfl) :
    PE X (.Call (.Attribute o m apos) [] [] pos) (tMeth C m sp [] E ta tNil) := by
  obtain ⟨f, fd, F, M, b⟩ := c.ex
  exact pe_meth0 he cl M F (hr.mono hk) b .nil hx ht
end
/-- a class that is made by its own __init__, in one piece -/
structure Cc (P : Program) (w : World) (K : PySem.W.Frag) (mg : Str → Option Value) (base : Heap) (CXt : CXT) (k : Nat) (x : Str) (C : Addr) (ps : List Str) (sp : Sp) : Prop where
  ex : ∃ (f : Addr) (fd : FuncData), FnOk P w K mg base CXt k f fd ps sp ∧ mg x = some (.ref C) ∧ Mk K C f ∧ L2.Binds K fd ps []
theorem pe_cls {X : Cx} {CXt : CXT} {j k : Nat} {ps : List Str} {sp : Sp} {x : Str} {p pos : Pos} {e : Expr} {es : List Expr} {t : TA} {C : Addr} {E : XK} (c : Cc X.prog X.w X.K X.mg X.base CXt k x C ps sp)
    (hr : Room j X.A) (hk : k + 1 ≤ j) (hx : Passes CXt X E) (ha : PA X (e :: es) t) (hg : Gl X x := by rfl) (hdb : (x == ("__debug__" : Str)) = false := by decide)
    (he : starEach (e :: es) X.env = (false, eval e X.env) :: starEach es X.env := by rfl) (hpl : (backTo pos (starEach es X.env)).any (·.1) = false := by rfl) :
    PE X (.Call (.Name x p) (e :: es) [] pos) (tMake C sp [] E t) := by
  obtain ⟨f, fd, F, hm, M, b⟩ := c.ex
  exact pe_make M F (hr.mono hk) hg hm b .nil hx ha hdb he hpl
/-- an attribute inside a comprehension: its K is the def's -/
theorem pe_fldK {X : Cx} (K : PySem.W.Frag) {e : Expr} {f : Str} {pos : Pos} {ta : TE} (h : PE X e ta) (ha : attributeBase e f X.env (eval e X.env) = eval e X.env) (hK : X.K = K := by rfl) : PE X (.Attribute e f pos) (tFld K ta f) := by
  subst hK
  exact pe_fld h ha
/-- len of a list or tuple -/
def rLenS (K : PySem.W.Frag) : List V → Hp → VK → Prop := fun xs H Q => ∃ (p : Addr) (ys : List V), xs = [.ref p] ∧ (SqL K H p ys ∨ SqT K H p ys) ∧ Q (.int ys.length) H
theorem call_lenS {X : Cx} : CallR X (.builtin "len") (rLenS X.K) := call_len_seq
end RK


set_option Elab.async false
set_option linter.all false
set_option maxRecDepth 100000
/-! methods by keywords; an own == -/
namespace RK
open PySem PySem.Spec PyProof.Rows L2
/-- an instance as the heap has it -/
theorem ins_look {P : Program} {w : World} {H : Hp} {h : Heap} {a C dx : Addr} {fs : List (Str × V)} (o : ObjOk P w H h a (.ins C dx fs)) : ∃ od, PySem.W.InstAt h a (PySem.W.instObj C dx) C (some od) ∧ ∀ m, fs.lookup m = none → PySem.W.lookIn m od = some none := by
  obtain ⟨-, -, hne, hget, mA, hns, hrel, -⟩ := o
  obtain ⟨od, hi, hl⟩ := (ObjM.mk hget hns hne).look
  refine ⟨od, hi, fun m hm => ?_⟩
  have := hrel m
  rw [hm] at this
  rw [hl m]
  cases e : mA m with
  | none => rfl
  | some v =>
    rw [e] at this
    exact this.elim
def tMethK (C : Addr) (m : Str) (sp : Sp) (gV : List V → List V → List V) (E : XK) (ta : TE) (tk : TA) : TE := fun σ H Q => ta σ H fun x H1 => ∃ a dx fs, x = .ref a ∧ H1 a = some (.ins C dx fs) ∧ fs.lookup m = none ∧ tk σ H1 fun zs H2 => sp (gV [x] zs) H2 Q E
section
variable {X : Cx} {CXt : CXT} {k : Nat} {f C : Addr} {fd : FuncData} {ps ks : List Str} {sp : Sp} {m : Str} {pos apos : Pos} {o : Expr} {ta : TE} {kws : List Keyword} {tk : TA}
  {g : List Value → List Value → List Value} {gV : List V → List V → List V}
theorem pe_methK {E : XK} {pl : Sem Bool} (he : PE X o ta) (c : Cls X.K C) (hm : Meth X.K C m f) (F : FnOk X.prog X.w X.K X.mg X.base CXt k f fd ps sp) (hr : Room k X.A) (hb : KBinds X.K fd ps ks g gV) (hx : Passes CXt X E) (hkw : PK X kws tk)
    (ht : eval (.Call (.Attribute o m apos) [] kws pos) X.env = (do
      let ov ← eval o X.env
      standAt apos.atName
      let (f, first) ← holding [ov] (getMethod ov m pl)
      callWith pos f first (backTo pos (starEach [] X.env)) (backToKw pos (keywordEach kws X.env))) := by rfl)
    (hall : (backToKw pos (keywordEach kws X.env)).all (·.1.isSome) = true := by rfl)
    (hks : (backToKw pos (keywordEach kws X.env)).filterMap (·.1) = ks := by rfl)
    (hpl : ((backTo pos (starEach [] X.env)).any (·.1) || (backToKw pos (keywordEach kws X.env)).any (·.1.isNone)) = false := by rfl) :
    PE X (.Call (.Attribute o m apos) [] kws pos) (tMethK C m sp gV E ta tk) := ⟨fun pins s σ H Q I h => by
  rw [ht]
  refine wpAny_bind (thn (he.run pins s σ H _ I h) fun u s1 ⟨x, H1, I1, rx, a, dx, fs, ex, ha, hl, h2⟩ => ?_)
  subst ex
  cases (show u = Value.ref a from rx)
  obtain ⟨od, hi, hlk⟩ := ins_look (I1.hok a _ ha)
  have pg := c.pg
  unfold PySem.W.plainGet at pg
  rw [Bool.and_eq_true, beq_iff_eq, beq_iff_eq] at pg
  refine wpAny_bind (wpAny_standAt (wpAny_bind (wpAny_holding (PySem.W.method_fn I1.kIn hi pg.1 pg.2 hm.at_ ?_ ?_ ?_))))
  · exact beq_iff_eq.mp hm.fn
  · show Option.map (fun x => x.isSome) (PySem.W.lookIn m od) = some false
    rw [hlk m hl]
    rfl
  · refine PySem.W.callWith_KW0 (h₀ := X.base) I1.ok.mod.kin hm.kp hall ?_ hpl
    refine thn (hkw.run pos pins s1 σ H1 _ I1 h2) fun ws s2 ⟨zs, H2, I2, rz, q2⟩ => ⟨I2.kIn, ?_⟩
    rw [hks]
    exact run_fnk F hr hb hx I2 (.cons (show RelV (.ref a) (Value.ref a) from rfl) .nil) rz q2⟩
end
/-- a method called by keywords alone, in one piece -/
structure Cmk (P : Program) (w : World) (K : PySem.W.Frag) (mg : Str → Option Value) (base : Heap) (CXt : CXT) (k : Nat) (C : Addr) (m : Str) (ps ks : List Str) (gV : List V → List V → List V) (sp : Sp) : Prop where
  ex : ∃ (f : Addr) (fd : FuncData) (g : List Value → List Value → List Value), FnOk P w K mg base CXt k f fd ps sp ∧ Meth K C m f ∧ KBinds K fd ps ks g gV
def kwApp {α : Type} : List α → List α → List α
  | [a], ws => a :: ws
  | _, _ => []
theorem kwApp_rel {vs : List V} {us : List Value} {zs : List V} {ws : List Value} (r : Vals vs us) (rz : Vals zs ws) : Vals (kwApp vs zs) (kwApp us ws) := by
  cases r with
  | nil => exact .nil
  | cons a r => cases r with
    | nil => exact .cons a rz
    | cons _ _ => exact .nil
theorem pe_mk {X : Cx} {CXt : CXT} {j k : Nat} {C : Addr} {ps ks : List Str} {sp : Sp} {m : Str} {pos apos : Pos} {o : Expr} {ta : TE} {kws : List Keyword} {tk : TA} {gV : List V → List V → List V} {E : XK} {pl : Sem Bool}
    (c : Cmk X.prog X.w X.K X.mg X.base CXt k C m ps ks gV sp) (cl : Cls X.K C) (hr : Room j X.A) (hk : k ≤ j) (hx : Passes CXt X E) (he : PE X o ta) (hkw : PK X kws tk)
    (ht : eval (.Call (.Attribute o m apos) [] kws pos) X.env = (do
      let ov ← eval o X.env
      standAt apos.atName
      let (f, first) ← holding [ov] (getMethod ov m pl)
      callWith pos f first (backTo pos (starEach [] X.env)) (backToKw pos (keywordEach kws X.env))) := by rfl)
    (hall : (backToKw pos (keywordEach kws X.env)).all (·.1.isSome) = true := by rfl)
    (hks : (backToKw pos (keywordEach kws X.env)).filterMap (·.1) = ks := by rfl)
    (hpl : ((backTo pos (starEach [] X.env)).any (·.1) || (backToKw pos (keywordEach kws X.env)).any (·.1.isNone)) = false := by rfl) :
    PE X (.Call (.Attribute o m apos) [] kws pos) (tMethK C m sp gV E ta tk) := by
  obtain ⟨f, fd, g, F, M, b⟩ := c.ex
  exact pe_methK he cl M F (hr.mono hk) b hx hkw ht hall hks hpl
end RK


set_option Elab.async false
set_option linter.all false
set_option maxRecDepth 100000
set_option maxHeartbeats 4000000
/-! enumerate over a tuple -/
namespace RK
open PySem PySem.Spec PyProof.Rows L2
section
open Builtin Builtin.ObjectAttr
theorem enum1_meets {v : Value} {o : Obj} {Hq : Heap → Prop} (B : Begins v o Hq) :
    Meets (Builtin.«enumerate.__new__» ⟨[.type "enumerate", v], []⟩) (fun _ R s => Hq s.heap ∧
      R (.ok (.ret (.ref (s.heap.push o).objs.size))) { s with heap := (s.heap.push o).push { cls := .type "enumerate", data := .fields #[.none, .bool false, .ref s.heap.objs.size, rawInt 0, .none, .none] } }) :=
  .of_wp fun prog w A R s hh => by
    obtain ⟨hp, g, d, tk, os⟩ := s; obtain ⟨hB, hR⟩ := hh; have sb := sub_enumerate
    have it1 : ∀ {A' : Around} {E : Value → Shared → Prop} {Q : Value → Shared → Prop}, Q (.ref hp.objs.size) ⟨hp.push o, g, d, tk, os⟩ → wpAny (model prog w) A' (pyIter v) Q E ⟨hp, g, d, tk, os⟩ := by
      intro A' E Q q; exact B.iter prog w _ _ ⟨hp, g, d, tk, os⟩ _ hB q
    wp_walk using it1
    refine wpAny_stack_any fun st => ?_; refine wpAny_pure ?_
    split
    · rename_i c _ _ _ _ _
      by_cases hc : (c == Value.type "enumerate") = true
      · rw [hc]; wp_walk using it1; exact ⟨_, rfl, hR⟩
      · rw [Bool.eq_false_iff.mpr hc]; wp_walk using it1; exact ⟨_, rfl, hR⟩
    · wp_walk using it1; exact ⟨_, rfl, hR⟩
theorem enum1_call {prog : Program} {w : World} {A : Around} {E : Value → Shared → Prop} {s : Shared} {v : Value} {o : Obj} {Hq : Heap → Prop} {Q : Value → Shared → Prop} (B : Begins v o Hq) (h1 : Hq s.heap)
    (h : ∀ h', IsEnum h' (s.heap.objs.size + 1) s.heap.objs.size 0 .none → h'.get? s.heap.objs.size = some o → (∀ b ob, s.heap.get? b = some ob → h'.get? b = some ob) →
      Q (.ref (s.heap.objs.size + 1)) { s with heap := h' }) : wpAny (model prog w) A (call (.type "enumerate") [v]) Q E s := by
  refine callType_new F.called_enumerate (by decide) (F.typeCall_enumerate_1 _) (F.newCall_enumerate_1 _) (fun obj => F.args_object_init_2 obj _) F.entry_enumerate_new (enum1_meets B) ⟨h1, ?_⟩
  have sz : (s.heap.push o).objs.size = s.heap.objs.size + 1 := Heap.size_push ..
  show _ ∧ _; rw [sz]
  have ie : IsEnum ((s.heap.push o).push { cls := .type "enumerate", data := .fields #[.none, .bool false, .ref s.heap.objs.size, rawInt 0, .none, .none] }) (s.heap.objs.size + 1) s.heap.objs.size 0 .none := by
    have q := Heap.get?_push_size (s.heap.push o) (o := { cls := .type "enumerate", data := .fields #[.none, .bool false, .ref s.heap.objs.size, rawInt 0, .none, .none] }) rfl
    rw [sz] at q; exact q
  refine ⟨⟨_, ie, rfl⟩, h _ ie (Heap.get?_push_of_some _ (Heap.get?_push_size _ B.free)) fun b ob x => ?_⟩
  exact Heap.get?_push_of_some _ (Heap.get?_push_of_some _ x)
end
/-- the tuple at a as it stands at each turn, each item in a new pair -/
def IteT (K : PySem.W.Frag) (a : Addr) : It :=
  ⟨fun i H => ∃ (xs : List V) (x : V), SqT K H a xs ∧ xs[i]? = some x, fun i H v H' => ∃ (T : Addr) (x : V), v = .ref T ∧ H T = none ∧ H' = L2.upd H T (.tup [.int (i : Nat), x]) ∧ ∀ xs, SqT K H a xs → xs[i]? = some x,
   fun i H => ∃ xs : List V, SqT K H a xs ∧ xs.length = i⟩
theorem isTup_at {h : Heap} {a : Addr} {items : Array Value} (x : IsTup h a items) : h.IsTuple a items := by
  obtain ⟨o, e, c, n, d⟩ := x
  exact ⟨o, e, c, n, d⟩
theorem turnE {P : Program} {w : World} {K : PySem.W.Frag} {elts : List Expr} {kk : Nat} {tpos : Pos} (a e it : Addr) (hai : a ≠ it) :
    Turn P w K (.Tuple elts kk tpos) (IteT K a) [e, it] e (fun i h => (∃ old, IsEnum h e it ((i : Nat) : Int) old) ∧ h.IsTupleIter it a i ∧ e ≠ it ∧ e ≠ a) where
  mem := List.mem_cons_self
  obj := fun i h st b hb => by
    obtain ⟨⟨old, he⟩, ⟨o, ho, _, hd⟩, _⟩ := st
    rcases List.mem_cons.mp hb with rfl | hb
    · exact ⟨_, he, fun v q => nomatch q⟩
    · obtain rfl := List.mem_singleton.mp hb
      exact ⟨o, ho, fun v q => by rw [hd] at q; cases q⟩
  keep := fun i h h' st k => ⟨⟨st.1.choose, k e (by simp) _ st.1.choose_spec⟩, st.2.1.at fun o q => k it (by simp) o q, st.2.2⟩
  item := by
    intro X hP hw hK hc i pins s σ H E I hf st hg
    subst hP hw hK
    obtain ⟨⟨old, he⟩, hit, hne, hea⟩ := st
    obtain ⟨xs, x, hq, hx⟩ := hg
    obtain ⟨its, rv, p, hz⟩ := I.tuple hq
    obtain ⟨u, hu, ru⟩ := rv.get hx
    have he0 : e < s.heap.objs.size := Heap.lt_size he
    have hi0 : it < s.heap.objs.size := by obtain ⟨_, q, _⟩ := hit; exact Heap.lt_size q
    have hlt : i < its.toArray.size := by
      have := (List.getElem?_eq_some_iff.mp hu).1
      simpa using this
    have D := Draws.tuple (prog := X.prog) (w := X.w) (A := X.A.in1) (I.ok.hd hc) it a hai its.toArray
    refine wpAny_pyNext_enum_itemD D he ⟨hit, isTup_at p⟩ hlt hne (by simp [hne, hea]) fun x' h' tk hP ho st' hT hsz hk => ?_
    have ex : x' = u := by
      have q : its.toArray[i]? = some u := by simpa using hu
      exact Option.some.inj (hP.symm.trans q)
    subst ex
    refine ⟨_, rfl, wpAny_letOwnedTupleGo_enum (s := { s with heap := h', toks := tk + 1 }) ho fun h2 he2 sb => ?_⟩
    obtain ⟨old', hx2⟩ : ∃ y, y = s.heap.objs.size := ⟨_, rfl⟩
    have nT : s.heap.objs.size ≠ e := Nat.ne_of_gt he0
    have tT : h2.get? s.heap.objs.size = some { cls := .type "tuple", data := .seq #[.int i tk, x'] } := (sb.2 _ nT).trans hT
    have nw : ObjOk X.prog X.w (L2.upd H s.heap.objs.size (.tup [.int (i : Nat), x])) h2 s.heap.objs.size (.tup [.int (i : Nat), x]) :=
      ⟨by show 2 ≤ sizeLine; decide, [.int i tk, x'], .cons ⟨_, rfl⟩ (.cons ru .nil), ⟨_, tT, rfl, _, rfl⟩⟩
    have kp : ∀ b ob, b ∉ [e, it] → s.heap.get? b = some ob → h2.get? b = some ob := fun b ob hb q =>
      (sb.2 b fun z => hb (by simp [z])).trans (hk b ob (fun z => hb (by simp [z])) (fun z => hb (by simp [z])) q)
    have J : Inv X pins σ (L2.upd H s.heap.objs.size (.tup [.int (i : Nat), x])) { s with heap := h2, toks := tk + 1 } := I.turnedNew (ch := [e, it]) kp hf (Nat.le_refl _) nw
    refine ⟨.ref s.heap.objs.size, _, J, rfl, ⟨_, x, rfl, I.hok.fresh (Nat.le_refl _), rfl, fun ys hy => ?_⟩, ⟨⟨x', ?_⟩, st'.1.at fun o q => (sb.2 it (Ne.symm hne)).trans q, hne, hea⟩, fun b hb => ?_⟩
    · rw [I.tuple_inj hy hq]
      exact hx
    · rw [show ((i + 1 : Nat) : Int) = (i : Int) + 1 by omega]
      exact he2
    · have hb' : b < s.heap.objs.size := by
        rcases List.mem_cons.mp hb with rfl | hb
        · exact he0
        · rw [List.mem_singleton.mp hb]
          exact hi0
      rw [upd_ne (Nat.ne_of_lt hb')]
      exact (hf b hb).1
  done := by
    intro X hP hw hK hc i pins s σ H E I hf st hg
    subst hP hw hK
    obtain ⟨⟨old, he⟩, hit, hne, hea⟩ := st
    obtain ⟨xs, hq, hx⟩ := hg
    obtain ⟨its, rv, p, hz⟩ := I.tuple hq
    obtain ⟨f0, f1, f2, f3, f4, f5⟩ := hf it (by simp)
    have hl := rv.length
    have hs : i = its.toArray.size := by simp; omega
    subst hs
    have D := Draws.tuple (prog := X.prog) (w := X.w) (A := X.A.in1) (I.ok.hd hc) it a hai its.toArray
    exact wpAny_pyNext_enum_endD D he ⟨hit, isTup_at p⟩ fun h' eb => ⟨rfl, I.turned (t' := s.toks) (fun b o hb q => eb b o hb q) f0 f1 f3 f4 f5⟩
  self := fun A i s Q E st h => wpAny_pyIter_enum st.1.choose_spec h
def iEnumT (K : PySem.W.Frag) (ta : TA) : TI := fun σ H R => ta σ H fun vs H1 => ∃ (a : Addr) (xs : List V), vs = [.ref a] ∧ SqT K H1 a xs ∧ R (IteT K a) H1
theorem pi_enumT {X : Cx} {e : Expr} {ta : TA} {p pos tpos : Pos} {elts : List Expr} {kk : Nat} (hg : Gl X "enumerate") (hm : X.mg "enumerate" = none) (ha : PA X [e] ta)
    (hs : starEach [e] X.env = [(false, eval e X.env)] := by rfl) : PI X (.Tuple elts kk tpos) (.Call (.Name "enumerate" p) [e] [] pos) (iEnumT X.K ta) := ⟨fun pins s σ H R I h => by
  refine Call_ (ld_blt I hg hm boot_enumerate (PyProof.Rows.callWith_type1 (thn (ha.run pos pins s σ H _ I h) ?_) hs rfl))
  rintro us s1 ⟨vs, H1, I1, r1, a, xs, rfl, hq, q⟩
  obtain ⟨u, rfl, ru⟩ := vals1 r1
  cases (show u = Value.ref a from ru)
  obtain ⟨its, rv, p', hz⟩ := I1.tuple hq
  have ha1 : a < s1.heap.objs.size := by obtain ⟨o, e, _⟩ := p'; exact Heap.lt_size e
  refine enum1_call (begins_tuple a its.toArray) (isTup_at p') fun h' he hit hk => wpAny_pyIter_enum he ?_
  have I2 : Inv X pins σ H1 { s1 with heap := h' } := I1.kept (t' := s1.toks) hk
  refine ⟨s1.heap.objs.size + 1, [s1.heap.objs.size + 1, s1.heap.objs.size], _, _, H1, rfl, I2, turnE a (s1.heap.objs.size + 1) s1.heap.objs.size (Nat.ne_of_lt ha1),
    ⟨⟨.none, he⟩, ⟨_, hit, rfl, rfl⟩, Nat.succ_ne_self _, Ne.symm (Nat.ne_of_lt (Nat.lt_succ_of_lt ha1))⟩, fun b hb => ?_, q⟩
  have hle : s1.heap.objs.size ≤ b := by
    rcases List.mem_cons.mp hb with rfl | hb
    · exact Nat.le_succ _
    · rw [List.mem_singleton.mp hb]
      exact Nat.le_refl _
  exact I1.fpOk hle (I1.hok.fresh hle)⟩
theorem walk_enumT {K : PySem.W.Frag} {a : Addr} {xs : List V} : Walk (IteT K a) xs.length (fun H => SqT K H a xs) (YPair (fun i => some (.int (i : Nat))) (fun i => xs[i]?)) := by
  refine ⟨fun i _ hi q => ⟨xs, xs[i], q, by simp [hi]⟩, fun _ q => ⟨xs, q, rfl⟩, ?_⟩
  rintro i H v H' _ q ⟨T, x, h1, h2, h3, h4⟩
  exact ⟨T, .int (i : Nat), x, h1, h2, h3, rfl, h4 xs q⟩
end RK


set_option Elab.async false
set_option linter.all false
set_option maxRecDepth 100000
/-! an own == and what != makes of it -/
namespace RK
open PySem PySem.Spec PyProof.Rows L2
/-- what a value's type is, of the kinds that are met -/
inductive TyO (H : Hp) : V → Value → Prop
  | non : TyO H .non (.type "NoneType")
  | int (i : Int) : TyO H (.int i) (.type "int")
  | str (x : Str) : TyO H (.str x) (.type "str")
  | tup {a : Addr} {xs : List V} (h : H a = some (.tup xs)) : TyO H (.ref a) (.type "tuple")
  | lst {a : Addr} {xs : List V} (h : H a = some (.lst xs)) : TyO H (.ref a) (.type "list")
  | ins {a C dx : Addr} {fs : List (Str × V)} (h : H a = some (.ins C dx fs)) : TyO H (.ref a) (.ref C)
theorem TyO.looks {P : Program} {w : World} {H : Hp} {h : Heap} {v : V} {T u : Value} {M : Model} (ok : HOk P w H h) (t : TyO H v T) (r : RelV v u) : PySem.W.Looks M h (typeOf u) T := by
  cases t with
  | non =>
    cases (show u = .none from r)
    exact fun A Q E s _ q => wpAny_of_eq (a := Value.type "NoneType") (by rfl) q
  | int i =>
    obtain ⟨t, rfl⟩ : ∃ t, u = .int i t := r
    exact fun A Q E s _ q => wpAny_of_eq (a := Value.type "int") (by rfl) q
  | str x =>
    obtain ⟨t, rfl⟩ : ∃ t, u = .str x t := r
    exact fun A Q E s _ q => wpAny_of_eq (a := Value.type "str") (by rfl) q
  | @tup a xs e =>
    cases (show u = .ref a from r)
    have o := ok a _ e
    obtain ⟨_, items, _, hg⟩ := o
    obtain ⟨o, e, c, _⟩ := isTup_at hg
    exact PySem.W.kitAt_ty M h ⟨o, e, c⟩
  | @lst a xs e =>
    cases (show u = .ref a from r)
    have o := ok a _ e
    obtain ⟨_, items, n, _, hg⟩ := o
    exact PySem.W.kitAt_ty M h ⟨_, hg, rfl⟩
  | @ins a C dx fs e =>
    cases (show u = .ref a from r)
    obtain ⟨od, hi, _⟩ := ins_look (ok a _ e)
    exact hi.type
/-- x == y by x's own __eq__ -/
def rOwnEq (K : PySem.W.Frag) (C : Addr) (sp : Sp) (E : XK) (neg : Bool) : R2 := fun x y H Q => ∃ (a dx : Addr) (fs : List (Str × V)) (T : Value), x = .ref a ∧ H a = some (.ins C dx fs) ∧ TyO H y T ∧ PySem.W.notFirst K C T = true ∧
  sp [.ref a, y] H (fun v H' => ∃ b, v = .bl b ∧ Q (.bl (if neg = true then !b else b)) H') E
section
variable {X : Cx} {CXt : CXT} {k : Nat} {f C : Addr} {fd : FuncData} {ps : List Str} {sp : Sp}
theorem op_eqOwn {E : XK} (F : FnOk X.prog X.w X.K X.mg X.base CXt k f fd ps sp) (hr : Room k X.A) (hb : L2.Binds X.K fd ps []) (hx : Passes CXt X E) (hu : X.A.units < cLine)
    (hs : PySem.W.findIn X.K (.ref C) "__eq__" = some (some (.ref f))) (hf : PySem.W.isFn X.K (.ref f) = true) : OpR X (compareOp .Eq) (rOwnEq X.K C sp E false) := by
  intro pins s σ H x y v u Q I rx ry ⟨a, dx, fs, T, ex, ha, hT, hn, q⟩
  subst ex
  cases (show v = Value.ref a from rx)
  obtain ⟨od, hi, _⟩ := ins_look (I.hok a _ ha)
  obtain ⟨m, fr⟩ := I.fr
  refine PySem.W.cmp_ofEq (PySem.W.cmp_K hu fr I.ok.mod.kin hi (hT.looks I.hok ry) hn hs hf ?_)
  refine thn (run_fn (vs := [.ref a, y]) (Q := fun v H' => ∃ b, v = .bl b ∧ Q (.bl (if false = true then !b else b)) H') F hr hb .nil hx I (.cons rx (.cons ry .nil)) (by simpa using q)) fun z s2 ⟨vz, H2, I2, rz, b, ez, q2⟩ => ?_
  subst ez
  cases (show z = Value.bool b from rz)
  exact ⟨.bl b, H2, I2, rfl, q2⟩
end
end RK


set_option Elab.async false
set_option linter.all false
set_option maxRecDepth 100000
/-! what != makes of an own == -/
namespace RK
open PySem PySem.Spec PyProof.Rows L2
open PySem.W PySem.Calls in
theorem cmp_neOwn {prog : Program} {w : World} {A : Around} {E : Value → Shared → Prop} {Q : Value → Shared → Prop} {s : Shared} {K : Frag} {x C f : Addr} {ox : Obj} {od : Option Obj} {b tb : Value} (hu : A.units + 1 < cLine) (X : K.In s.heap) (I : InstAt s.heap x ox C od)
    (lt : Looks (model prog w) s.heap (typeOf b) tb) (hn : notFirst K C tb = true) (hne : findIn K (.ref C) "__ne__" = some (some (.builtin "object.__ne__"))) (heq : findIn K (.ref C) "__eq__" = some (some (.ref f)))
    (hf : typeIn K (.ref f) = some (.type "function")) (so : subIn K (.ref C) (.type "object") = some true)
    (h : wpAny (model prog w) A.in1 (call (.ref f) [.ref x, b]) (fun v s' => ∃ k, v = .bool k ∧ Q (.bool !k) s') E s) : wpAny (model prog w) A (richCompare .NotEq (.ref x) b) Q E s := by
  unfold richCompare
  refine wpAny_holding (wpAny_bind (wpAny_cRoomFor (by omega) ?_))
  rw [oneThing_ref]
  dsimp only
  have e : cmpInfo CmpOp.NotEq = ("!=", (Str.ofString "__ne__" : Str), (Str.ofString "__ne__" : Str)) := rfl
  rw [e]
  dsimp only
  obtain ⟨hp, g, dr, t, os⟩ := s
  have core : wpAny (model prog w) A (tryCompare (.ref x) "__ne__" b) (fun r s' => ∃ k, r = some (Value.bool k) ∧ Q (.bool k) s') E ⟨hp, g, dr, t, os⟩ := by
    unfold tryCompare callSpecialIfBound?
    refine wpAny_bind (wpAny_holding ?_)
    unfold bindSpecialIfBound? specialOf
    refine wpAny_bind (wpAny_bind (wpAny_bind (I.type.at ((looks_findIn (M := model prog w) X hne).at ?_))))
    have bd : bindSpecial (.builtin "object.__ne__") (.ref x) = pure (.builtin "object.__ne__", [.ref x]) := PySem.F.slot_object_ne.bind (.ref x)
    have inner : wpAny (model prog w) A (call (.builtin "object.__ne__") [.ref x, b]) (fun v s' => ∃ k, v = .bool k ∧ Q (.bool k) s') E ⟨hp, g, dr, t, os⟩ := by
      have sb : Looks (model prog w) hp (isInstance (.ref x) (.type "object")) true := (I.type (M := model prog w)).andThen (looks_subIn X so)
      refine wpAny_call (codeAny_call_builtin (by decide +kernel) PySem.F.entry_object_ne
        (@check_slot (model prog w) _ _ ⟨hp, g, dr, t, os⟩ "object.__ne__" "object" "__ne__" (.ref x) [b] [] _ (by decide +kernel) (by decide +kernel) sb (PySem.F.args_object_ne_2 (.ref x) b) ?_))
      unfold Builtin.«object.__ne__»
      refine wpAny_bind (wpAny_of_eq (a := ((Value.ref x : Value), [b])) (by first | rfl | (simp only [slotArgs]; rfl)) ?_)
      dsimp only
      refine wpAny_bind (wpAny_cRoomFor hu (wpAny_bind (ifBound_K X I heq (beq_iff_eq.mpr hf) (thn h fun v s' ⟨k, hv, hq⟩ => ?_))))
      subst hv
      dsimp only
      refine wpAny_bind (wpAny_of_eq (a := k) (by rfl) ?_)
      exact wpAny_pure ⟨!k, rfl, hq⟩
    dsimp only
    rw [bd]
    refine wpAny_bind (wpAny_askSetting (wpAny_ite_split (fun _ => ?_) (fun _ => ?_)))
    · refine wpAny_of_eq (a := some (Value.builtin "object.__ne__", [Value.ref x])) (by rfl) ?_
      refine wpAny_bind (thn inner fun v s' ⟨k, hv, hq⟩ => ?_)
      subst hv
      exact wpAny_pure (wpAny_pure ⟨k, rfl, hq⟩)
    · refine wpAny_of_eq (a := some (Value.builtin "object.__ne__", [Value.ref x])) (by rfl) ?_
      refine wpAny_bind (thn inner fun v s' ⟨k, hv, hq⟩ => ?_)
      subst hv
      exact wpAny_pure (wpAny_pure ⟨k, rfl, hq⟩)
  have fin : ∀ {R : Option Value → Sem Value}, (∀ v, R (some v) = pure v) → wpAny (model prog w) A (tryCompare (.ref x) "__ne__" b >>= R) Q E ⟨hp, g, dr, t, os⟩ := fun {R} hR => by
    refine wpAny_bind (thn core fun r s' ⟨k, hr, hq⟩ => ?_)
    subst hr
    rw [hR]
    exact wpAny_pure hq
  refine wpAny_bind (I.type.at (wpAny_bind (lt.at ?_)))
  unfold notFirst at hn
  by_cases ht : tb = .ref C
  · subst ht
    rw [if_neg (by simp)]
    refine wpAny_bind (wpAny_pure ?_)
    rw [if_neg Bool.false_ne_true]
    exact fin fun _ => rfl
  · have hs : subIn K tb (.ref C) = some false := by
      rw [Bool.or_eq_true, beq_iff_eq, beq_iff_eq] at hn
      exact hn.resolve_left ht
    rw [if_pos (by simp; exact fun z => ht z.symm)]
    refine wpAny_bind ((looks_subIn (M := model prog w) X hs).at ?_)
    rw [if_neg Bool.false_ne_true]
    exact fin fun _ => rfl
section
variable {X : Cx} {CXt : CXT} {k : Nat} {f C : Addr} {fd : FuncData} {ps : List Str} {sp : Sp}
theorem op_neOwn {E : XK} (F : FnOk X.prog X.w X.K X.mg X.base CXt k f fd ps sp) (hr : Room (k + 1) X.A) (hb : L2.Binds X.K fd ps []) (hx : Passes CXt X E)
    (hne : PySem.W.findIn X.K (.ref C) "__ne__" = some (some (.builtin "object.__ne__"))) (hs : PySem.W.findIn X.K (.ref C) "__eq__" = some (some (.ref f))) (hf : PySem.W.isFn X.K (.ref f) = true)
    (so : PySem.W.subIn X.K (.ref C) (.type "object") = some true) : OpR X (compareOp .NotEq) (rOwnEq X.K C sp E true) := by
  intro pins s σ H x y v u Q I rx ry ⟨a, dx, fs, T, ex, ha, hT, hn, q⟩
  subst ex
  cases (show v = Value.ref a from rx)
  obtain ⟨od, hi, _⟩ := ins_look (I.hok a _ ha)
  obtain ⟨m, fr⟩ := I.fr
  have r1 : Room k X.A.in1 := ⟨hr.hd, by have := hr.dp; show X.A.depth + 3 * k + 5 < _; omega, by have := hr.un; show X.A.units + 1 + 16 * k + 200 < _; omega⟩
  have hu1 : X.A.units + 1 < cLine := by have := hr.un; omega
  refine PySem.W.cmp_ofNotEq (cmp_neOwn hu1 I.kIn hi (hT.looks I.hok ry) hn hne hs (beq_iff_eq.mp hf) so ?_)
  have e0 : Env0 X.prog X.w X.K X.mg X.base X.A.in1 X.stack s H := by
    have := I.env0
    exact ⟨this.frames, this.mod, this.bs, this.bsz, this.funs, this.frf, this.hok, this.bare⟩
  have hv : Vals [.ref a, y] [Value.ref a, u] := .cons rx (.cons ry .nil)
  have hl : ([Value.ref a, u] ++ []).length = ps.length := F.len _ _ _ _ q
  have b := hb s [Value.ref a, u] I.kIn hl
  refine wpAny_call (codeAny_mono (F.run X.A.in1 X.stack s H ⟨[Value.ref a, u], []⟩ ([Value.ref a, u] ++ []) [.ref a, y] _ E r1 e0 b hv q) ?_)
  intro r s' hq
  match r, hq with
  | .error e, hq => exact hx pins σ H s e s' I hq
  | .ok (.ret z), hq =>
    obtain ⟨vz, H2, I2, rz, k, ez, q2⟩ := I.after hq
    subst ez
    cases (show z = Value.bool k from rz)
    exact ⟨k, rfl, .bl (!k), H2, I2, rfl, q2⟩
end
end RK
namespace RK
open PySem PySem.Spec PyProof.Rows L2
/-- a class's own == (and no !=), in one piece -/
structure Ce (P : Program) (w : World) (K : PySem.W.Frag) (mg : Str → Option Value) (base : Heap) (CXt : CXT) (k : Nat) (C : Addr) (ps : List Str) (sp : Sp) : Prop where
  ex : ∃ (f : Addr) (fd : FuncData), FnOk P w K mg base CXt k f fd ps sp ∧ L2.Binds K fd ps [] ∧ PySem.W.findIn K (.ref C) "__eq__" = some (some (.ref f)) ∧ PySem.W.isFn K (.ref f) = true ∧
    PySem.W.findIn K (.ref C) "__ne__" = some (some (.builtin "object.__ne__")) ∧ PySem.W.subIn K (.ref C) (.type "object") = some true
section
variable {X : Cx} {CXt : CXT} {j k : Nat} {C : Addr} {ps : List Str} {sp : Sp} {E : XK}
theorem op_eqO (c : Ce X.prog X.w X.K X.mg X.base CXt k C ps sp) (hr : Room j X.A) (hk : k + 1 ≤ j) (hx : Passes CXt X E) : OpR X (compareOp .Eq) (rOwnEq X.K C sp E false) := by
  obtain ⟨f, fd, F, b, h1, h2, _, _⟩ := c.ex
  exact op_eqOwn F (hr.mono (by omega)) b hx (by have := hr.un; omega) h1 h2
theorem op_neO (c : Ce X.prog X.w X.K X.mg X.base CXt k C ps sp) (hr : Room j X.A) (hk : k + 1 ≤ j) (hx : Passes CXt X E) : OpR X (compareOp .NotEq) (rOwnEq X.K C sp E true) := by
  obtain ⟨f, fd, F, b, h1, h2, h3, h4⟩ := c.ex
  exact op_neOwn F (hr.mono hk) b hx h3 h1 h2 h4
end
end RK


set_option Elab.async false
set_option linter.all false
set_option maxRecDepth 100000
set_option maxHeartbeats 4000000
/-! own errors as values: made by place or by keyword, their field, isinstance of them -/
namespace PySem
namespace RKE
open PySem.HandSPX
section
variable {M : Model} {prog : Program} {w : World} {A : Around} {E : Value → Shared → Prop} {R : Result → Shared → Prop} {hp : Heap} {gs : Array GenState} {dr : Drawn} {tk : Nat} {os : OsState}
variable {nm q : Str} {C N : Addr} {bs bm bb : List Value} {hdct : Bool} {sn : List Str} {sub : List Value} {ab : Bool} {col : Option Bool} {dd : Option Addr} {k0 k1 k2 k3 k5 : Option Value} {B ni ii : String} {kw : List (Str × Value)} {Q1 : Unit → Shared → Prop}
/-- the class, called with keywords alone: __new__'s arguments are looked at -/
theorem kw_check (F : ExcBaseFacts B ni ii bb) (has : ∀ T : String, bm.contains (.type T) = bb.contains (.type T)) (oC : hp.get? C = some (excClassObj nm q C N bs bm hdct sn sub ab col dd k0 k1 k2 k3 k5 ni)) (go : Q1 () ⟨hp, gs, dr, tk, os⟩) :
    wpAny M A (checkBuiltinCall ni ⟨[.ref C], kw⟩) Q1 E ⟨hp, gs, dr, tk, os⟩ := by
  have isB : (Value.ref C :: bm).contains (.type B) = true := (List.contains_cons).trans (by rw [has, F.hasB, Bool.or_true])
  have nostar := F.noStar
  simp only [checkBuiltinCall, F.newKind, F.newSplit, F.newRow]
  repeat (first | refine wpAny_loadPart_at oC ?_ | (refine wpAny_isSubtype_exc oC ?_; rw [isB]) | refine wpAny_staticBase_exc oC ?_ | refine wpAny_madeBy_exc oC ?_ | simp only [bne_self_eq_false, Bool.false_eq_true, if_false] | wp_step)
  exact go
theorem kw_new (F : ExcBaseFacts B ni ii bb) (has : ∀ T : String, bm.contains (.type T) = bb.contains (.type T)) (oC : hp.get? C = some (excClassObj nm q C N bs bm hdct sn sub ab col dd k0 k1 k2 k3 k5 ni))
    (go : R (.ok (.ret (.ref (hp.objs.size + 1)))) ⟨(hp.push { cls := .type "tuple", data := .seq #[] }).push { cls := .ref C, data := .fields #[.ref hp.objs.size, .none, .none, .none, .bool false, .none] }, gs, dr, tk, os⟩) (k : Str) (v : Value) :
    codeAny (model prog w) A (.builtin ni ⟨[.ref C], [(k, v)]⟩) R ⟨hp, gs, dr, tk, os⟩ := by
  have fin := F.ends
  have isB : (Value.ref C :: bm).contains (.type B) = true := (List.contains_cons).trans (by rw [has, F.hasB, Bool.or_true])
  have isA : (Value.ref C :: bm).contains (.type "AttributeError") = false := (List.contains_cons).trans (by rw [has, F.noAttr]; rfl)
  have isN : (Value.ref C :: bm).contains (.type "NameError") = false := (List.contains_cons).trans (by rw [has, F.noName]; rfl)
  refine codeAny_builtinAt F.entry ?_
  unfold Builtin.«BaseException.__new__»
  refine wpAt_bind ?_
  show wpAt _ _ _ (stack >>= _) _ _ _
  refine wpAt_bind (wpAt_stack fun _ _ => wpAt_of_wpAny ?_)
  wp_walk
  refine wpAt_of_wpAny ?_
  rw [F.owner]
  repeat (first | with_reducible refine wpAny_madeHere_exc F.canon oC ?_ | with_reducible refine wpAny_loadPart_at oC ?_ | (with_reducible refine wpAny_isSubtype_exc oC ?_; first | rw [isB] | rw [isA] | rw [isN]) | wp_step)
  show R _ _
  rw [Heap.size_push]
  exact go
/-- type.__call__ of such a class with one keyword -/
theorem kw_type (F : ExcBaseFacts B ni ii bb) (has : ∀ T : String, bm.contains (.type T) = bb.contains (.type T)) {fi : Addr} {Qf : Fin → Shared → Prop} {k : Str} {v : Value} (oC : hp.get? C = some (excClassObj nm q C N bs bm hdct sn sub ab col dd k0 k1 k2 k3 k5 ni))
    (lk : W.Looks (model prog w) hp (typeLookup (.ref C) "__init__") (some (.ref fi))) (bd : ∀ self, W.Looks (model prog w) hp (bindSpecial (.ref fi) self) (.ref fi, [self]))
    (go : codeAny (model prog w) A (.call (.ref fi) ⟨[.ref (hp.objs.size + 1)], [(k, v)]⟩) (fun r sx => match r with | .ok (.ret u) => u = .none ∧ Qf (.done (.ret (.ref (hp.objs.size + 1)))) sx | .ok _ => False | .error e => E e sx)
      ⟨(hp.push (W.kdv_tup [])).push (excO C hp.objs.size), gs, dr, tk, os⟩) :
    wpAny (model prog w) A (Builtin.«type.__call__» ⟨[.ref C], [(k, v)]⟩) Qf E ⟨hp, gs, dr, tk, os⟩ := by
  repeat (first | with_reducible refine wpAny_loadPart_at oC ?_ | with_reducible refine wpAny_madeBy_exc oC ?_ | wp_step)
  refine codeAny_call_builtin_code (Code.quiet_builtin _ F.quiet) (kw_check F has oC (kw_new F has oC ?_ k v))
  show wpAny _ _ _ _ _ _
  have stay : ∀ b o, hp.get? b = some o → ((hp.push (W.kdv_tup [])).push (excO C hp.objs.size)).get? b = some o := fun _ _ e => Heap.get?_push_of_some _ (Heap.get?_push_of_some _ e)
  have oC2 := stay _ _ oC
  have mine : ((hp.push (W.kdv_tup [])).push (excO C hp.objs.size)).get? (hp.objs.size + 1) = some (excO C hp.objs.size) := by heap_get
  have self_ : (Value.ref C :: bm).contains (.ref C) = true := by simp
  have lk2 := lk.keeps stay
  have bd2 := (bd (.ref (hp.objs.size + 1))).keeps stay
  unfold isInstance
  repeat (first | with_reducible refine wpAny_loadPart_at mine ?_ | (with_reducible refine wpAny_isSubtype_exc oC2 ?_; rw [self_]) | wp_step)
  show wpAny _ _ (typeLookup (.ref C) _) _ _ _
  refine lk2.at (wpAny_holding (wpAny_bind (bd2.at (wpAny_bind (wpAny_call (codeAny_mono go fun r sx got => ?_))))))
  rcases r with e | (u | _ | _ | _) <;> first | exact got | exact got.elim | skip
  obtain ⟨eu, go2⟩ := got
  subst eu
  first | exact wpAny_pure (wpAny_pure go2) | (wp_walk; exact go2)
theorem kw_call (F : ExcBaseFacts B ni ii bb) (has : ∀ T : String, bm.contains (.type T) = bb.contains (.type T)) {fi : Addr} {k : Str} {v : Value} (oC : hp.get? C = some (excClassObj nm q C N bs bm hdct sn sub ab col dd k0 k1 k2 k3 k5 ni))
    (lk : W.Looks (model prog w) hp (typeLookup (.ref C) "__init__") (some (.ref fi))) (bd : ∀ self, W.Looks (model prog w) hp (bindSpecial (.ref fi) self) (.ref fi, [self]))
    (go : codeAny (model prog w) (A.under (.builtin "type.__call__" ⟨[.ref C], [(k, v)]⟩)) (.call (.ref fi) ⟨[.ref (hp.objs.size + 1)], [(k, v)]⟩) (W.InitBack (hp.objs.size + 1) R)
      ⟨(hp.push (W.kdv_tup [])).push (excO C hp.objs.size), gs, dr, tk, os⟩) :
    codeAny (model prog w) A (.call (.ref C) ⟨[], [(k, v)]⟩) R ⟨hp, gs, dr, tk, os⟩ := by
  have g1 := tc_lookup
  have g2 := tc_bind (.ref C)
  have isT : (⟨hp, gs, dr, tk, os⟩ : Shared).TypeIs (.ref C) "type" := ⟨_, oC, rfl⟩
  refine codeAny_of_tree (show wpAny _ _ (callAny (.ref C) _) _ _ _ from ?_)
  repeat (any_goals (first | assumption | with_reducible refine wpAny_loadPart_at oC ?_ | wp_step))
  refine ⟨rfl, codeAny_call_builtin_at (Code.quiet_builtin _ (by decide +kernel)) entry_typeCall (wpAny_check_type_call_sub oC (kw_type F has oC lk bd (codeAny_mono go fun r sx got => ?_)))⟩
  rcases r with e | (u | _ | _ | _) <;> exact got
end
end RKE
end PySem


set_option Elab.async false
set_option linter.all false
set_option maxRecDepth 100000
set_option maxHeartbeats 4000000
/-! rules for own errors as values -/
namespace RK
open PySem PySem.Spec PyProof.Rows L2
/-- C(e): a new error with the field f -/
def tErr1 (C : Addr) (f : Str) (te : TE) : TE := fun σ H Q => te σ H fun v H1 => ∀ (a d : Addr) (H2 : Hp), L2.Same H1 H2 → H1 a = none → H1 d = none → H2 a = some (exo a C (some d)) → H2 d = some (exd d [(f, v)]) → Q (.ref a) H2
theorem ini_of {K : PySem.W.Frag} {f : Str} {C a : Addr} {H1 : Hp} {v : V} {Q : VK} (T : OexC K C) (no : PySem.W.findIn K (.ref C) f = some none) (ha : H1 a = none)
    (q : ∀ (a d : Addr) (H2 : Hp), L2.Same H1 H2 → H1 a = none → H1 d = none → H2 a = some (exo a C (some d)) → H2 d = some (exd d [(f, v)]) → Q (.ref a) H2) :
    spIni K f [.ref a, v] (upd H1 a (exo a C none)) (fun u H2 => u = .non ∧ Q (.ref a) H2) (fun _ _ _ => False) := by
  refine ⟨a, C, v, rfl, T, no, upd_same, fun dx hdx hne => ⟨rfl, q a dx _ ?_ ha ?_ upd_same ?_⟩⟩
  · intro b u e
    have hb := ne_of_none e ha
    rw [upd_ne hb]
    have hd : b ≠ dx := fun z => by
      rw [z] at e
      rw [upd_ne hne] at hdx
      rw [e] at hdx
      cases hdx
    rw [upd_ne hd, upd_ne hb]
    exact e
  · rw [upd_ne hne] at hdx
    exact hdx
  · rw [upd_ne hne, upd_same]
/-- an error as it is tracked: its class, its fields -/
def ErrAt (H : Hp) (a C : Addr) (fs : List (Str × V)) : Prop := ∃ d, H a = some (exo a C (some d)) ∧ H d = some (exd d fs)
theorem ErrAt.same {H H' : Hp} {a C : Addr} {fs : List (Str × V)} (S : L2.Same H H') (h : ErrAt H a C fs) : ErrAt H' a C fs := by
  obtain ⟨d, e1, e2⟩ := h
  exact ⟨d, S _ _ e1, S _ _ e2⟩
section
variable {X : Cx} {CXt : CXT} {C fI : Addr} {fd : FuncData} {f x : Str} {p pos : Pos} {k : Nat} {e : Expr} {te : TE} {kws : List Keyword} {tk : TA}
/-- the heap at the moment at which __init__ is called -/
theorem err_laid {pins : List (Addr × Obj)} {σ : L2.St} {H1 : Hp} {hp : Heap} {g : Array GenState} {dr : Drawn} {t : Nat} {os : OsState} {us : List Value} (I1 : L2.Inv X pins σ H1 ⟨hp, g, dr, t, os⟩) :
    L2.Inv X pins σ (upd H1 (hp.objs.size + 1) (exo (hp.objs.size + 1) C none)) ⟨(hp.push (PySem.W.kdv_tup us)).push (PySem.HandSPX.excO C hp.objs.size), g, dr, t, os⟩ := by
  have got : ((hp.push (PySem.W.kdv_tup us)).push (PySem.HandSPX.excO C hp.objs.size)).get? (hp.objs.size + 1) = some (PySem.HandSPX.excO C hp.objs.size) := by heap_get
  exact I1.laid (t' := t) (a := hp.objs.size + 1) (fun b o z => Heap.get?_push_of_some _ (Heap.get?_push_of_some _ z)) (Nat.le_succ _) (exo_ok got)
def errQ (C : Addr) (f : Str) (Q : VK) : List V → Hp → Prop := fun vs H1 => match vs with
  | [v] => ∀ (a d : Addr) (H2 : Hp), L2.Same H1 H2 → H1 a = none → H1 d = none → H2 a = some (exo a C (some d)) → H2 d = some (exd d [(f, v)]) → Q (.ref a) H2
  | _ => False
theorem errQ_one {Q : VK} {vs : List V} {H1 : Hp} (h : errQ C f Q vs H1) : ∃ v, vs = [v] ∧ ∀ (a d : Addr) (H2 : Hp), L2.Same H1 H2 → H1 a = none → H1 d = none → H2 a = some (exo a C (some d)) → H2 d = some (exd d [(f, v)]) → Q (.ref a) H2 :=
  match vs, h with
  | [v], h => ⟨v, rfl, h⟩
theorem pe_err1 (T : ErrC X.K X.mg x f C fI) (F1 : FnOk X.prog X.w X.K X.mg X.base CXt k fI fd ["self", f] (spIni X.K f)) (hr : Room (k + 1) X.A) (hb : L2.Binds X.K fd ["self", f] []) (hx : Passes CXt X (fun _ _ _ => False)) (he : PE X e te) (hg : Gl X x := by rfl)
    (hdb : (x == ("__debug__" : Str)) = false := by decide) (hst : starEach [e] X.env = (false, eval e X.env) :: starEach [] X.env := by rfl) (hpl : (backTo pos (starEach [] X.env)).any (·.1) = false := by rfl) :
    PE X (.Call (.Name x p) [e] [] pos) (tErr1 C f te) := by
  refine ⟨fun pins s σ H Q I h => ?_⟩
  obtain ⟨nm, q, N, bs, bm, sn, sub, ab, col, dd, k0, k1, k2, k3, k5, oC, mro⟩ := T.oex.cls
  refine wpAny_Call_Name_kw (ld_glob I hg T.gC ?_ hdb)
  have args : PA X [e] (tCons te tNil) := pa_cons he pa_nil (hs := hst)
  refine PySem.W.callWith_K (h₀ := X.base) I.ok.mod.kin T.oex.kC (thn (args.run pos pins s σ H (errQ C f Q) I h) fun us s1 ⟨vs, H1, I1, r1, q1⟩ => ⟨I1.kIn, ?_⟩) hst hpl
  · obtain ⟨v, rfl, q1⟩ := errQ_one q1
    show wpAny _ _ (call (.ref C) us) _ _ _
    obtain ⟨hp, g, dr, t, os⟩ := s1
    have hn : H1 (hp.objs.size + 1) = none := I1.hok.fresh (Nat.le_succ _)
    have hq := ini_of T.oex T.no hn q1
    have I2 := err_laid (C := C) (us := us) I1
    have r2 : Vals (V.ref (hp.objs.size + 1) :: [v]) (Value.ref (hp.objs.size + 1) :: us) := .cons rfl r1
    have ul : us.length = 1 := r1.length.symm
    refine wpAny_call (PySem.HandSPX.call_own F.excBase_ValueError (fun Y => PySem.HandSPX.refsVE_contains Y bm mro) (I1.kIn _ _ oC) (PySem.W.looks_findIn I1.kIn T.ini) (fun self => PySem.W.bind_fn I1.kIn self T.tyI) (by rw [ul, sizeLine_eq]; omega)
      (codeAny_mono (F1.run _ X.stack _ _ ⟨Value.ref (hp.objs.size + 1) :: us, []⟩ (Value.ref (hp.objs.size + 1) :: us ++ []) _ _ (fun _ _ _ => False) (hr.make C us []) (I2.env0.make C us []) (hb _ (Value.ref (hp.objs.size + 1) :: us) I2.kIn (by simp [ul])) (by rw [List.append_nil]; exact r2) hq) fun r s' got => ?_))
    cases r with
    | error er => exact hx pins σ _ _ er s' I2 got
    | ok fl =>
      cases fl with
      | ret u =>
        obtain ⟨vz, H3, I3, rv, ev, q3⟩ := I2.after got
        subst ev
        exact ⟨rv, ⟨V.ref (hp.objs.size + 1), H3, I3, rfl, q3⟩⟩
      | next => exact got.elim
      | brk => exact got.elim
      | cont => exact got.elim
/-- the same by its keyword -/
theorem pe_errK (T : ErrC X.K X.mg x f C fI) (F1 : FnOk X.prog X.w X.K X.mg X.base CXt k fI fd ["self", f] (spIni X.K f)) (hr : Room (k + 1) X.A) (hb : KBinds X.K fd ["self", f] [f] kwApp kwApp) (hx : Passes CXt X (fun _ _ _ => False)) (hkw : PK X kws (tCons te tNil)) (hg : Gl X x := by rfl)
    (hall : (backToKw pos (keywordEach kws X.env)).all (·.1.isSome) = true := by rfl) (hks : (backToKw pos (keywordEach kws X.env)).filterMap (·.1) = [f] := by rfl) (hdb : (x == ("__debug__" : Str)) = false := by decide)
    (hpl : ((backTo pos (starEach [] X.env)).any (·.1) || (backToKw pos (keywordEach kws X.env)).any (·.1.isNone)) = false := by rfl) :
    PE X (.Call (.Name x p) [] kws pos) (tErr1 C f te) := by
  refine ⟨fun pins s σ H Q I h => ?_⟩
  obtain ⟨nm, q, N, bs, bm, sn, sub, ab, col, dd, k0, k1, k2, k3, k5, oC, mro⟩ := T.oex.cls
  refine wpAny_Call_Name_kw (ld_glob I hg T.gC ?_ hdb)
  refine PySem.W.callWith_KW0 (h₀ := X.base) I.ok.mod.kin T.oex.kC hall (thn (hkw.run pos pins s σ H (errQ C f Q) I h) fun us s1 ⟨vs, H1, I1, r1, q1⟩ => ⟨I1.kIn, ?_⟩) hpl
  obtain ⟨v, rfl, q1⟩ := errQ_one q1
  rw [hks]
  obtain ⟨u, rfl, ru⟩ : ∃ u, us = [u] ∧ RelV v u := by
    cases r1 with
    | cons a r => cases r; exact ⟨_, rfl, a⟩
  show wpAny _ _ (call (.ref C) [] [(f, u)]) _ _ _
  obtain ⟨hp, g, dr, t, os⟩ := s1
  have hn : H1 (hp.objs.size + 1) = none := I1.hok.fresh (Nat.le_succ _)
  have hq := ini_of T.oex T.no hn q1
  have I2 := err_laid (C := C) (us := []) I1
  have r2 : Vals (kwApp [V.ref (hp.objs.size + 1)] [v]) (kwApp [Value.ref (hp.objs.size + 1)] [u]) := .cons rfl (.cons ru .nil)
  refine wpAny_call (PySem.RKE.kw_call F.excBase_ValueError (fun Y => PySem.HandSPX.refsVE_contains Y bm mro) (I1.kIn _ _ oC) (PySem.W.looks_findIn I1.kIn T.ini) (fun self => PySem.W.bind_fn I1.kIn self T.tyI)
    (codeAny_mono (F1.run _ X.stack _ _ ⟨[Value.ref (hp.objs.size + 1)], [(f, u)]⟩ (kwApp [Value.ref (hp.objs.size + 1)] [u]) _ _ (fun _ _ _ => False) (hr.make C [] [(f, u)]) (I2.env0.make C [] [(f, u)]) (hb.to _ [Value.ref (hp.objs.size + 1)] [u] I2.kIn rfl) r2 hq) fun r s' got => ?_))
  cases r with
  | error er => exact hx pins σ _ _ er s' I2 got
  | ok fl =>
    cases fl with
    | ret u =>
      obtain ⟨vz, H3, I3, rv, ev, q3⟩ := I2.after got
      subst ev
      exact ⟨rv, ⟨V.ref (hp.objs.size + 1), H3, I3, rfl, q3⟩⟩
    | next => exact got.elim
    | brk => exact got.elim
    | cont => exact got.elim
end
/-! ### its field -/
def tErrF (K : PySem.W.Frag) (f : Str) (te : TE) : TE := fun σ H Q => te σ H fun x H1 => ∃ (a C : Addr) (fs : List (Str × V)) (v : V), x = .ref a ∧ XfC K C ∧ PySem.W.findIn K (.ref C) f = some none ∧ ErrAt H1 a C fs ∧ fs.lookup f = some v ∧ Q v H1
section
variable {X : Cx} {f : Str} {pos : Pos} {e : Expr} {te : TE}
/-- what the heap has of an error -/
theorem err_look {pins : List (Addr × Obj)} {σ : L2.St} {H : Hp} {s : Shared} {a C : Addr} {fs : List (Str × V)} (I : L2.Inv X pins σ H s) (h : ErrAt H a C fs) :
    ∃ (oe od : Obj), PySem.W.InstAt s.heap a oe C (some od) ∧ ∀ n, ∃ o, PySem.W.lookIn n od = some o ∧ RelO (fs.lookup n) o := by
  obtain ⟨d, e1, e2⟩ := h
  obtain ⟨t1, g1⟩ := exo_at I.hok e1
  obtain ⟨mA, ns, rel⟩ := exd_at I.hok e2
  obtain ⟨od, ho, hl⟩ := lookIn_ns ns
  exact ⟨_, od, ⟨g1, rfl, rfl, ho⟩, fun n => ⟨mA n, hl n, rel n⟩⟩
theorem pe_errF (K : PySem.W.Frag) (he : PE X e te) (hb : attributeBase e f X.env (eval e X.env) = eval e X.env := by rfl) (hK : X.K = K := by rfl) : PE X (.Attribute e f pos) (tErrF K f te) := by
  subst hK
  refine ⟨fun pins s σ H Q I h => attr_of hb (thn (he.run pins s σ H _ I h) fun u s1 ⟨x, H1, I1, rx, a, C, fs, v, ex, T, no, hE, l, q⟩ => ?_)⟩
  subst ex
  cases (show u = Value.ref a from rx)
  obtain ⟨oe, od, J, hl⟩ := err_look I1 hE
  obtain ⟨o, hlo, ro⟩ := hl f
  obtain ⟨u, hu, ru⟩ := RelO.some_of (v := v) (o := o) (by rw [← l]; exact ro)
  exact HandSPX.exc_get I1.kIn J T.ga T.gg T.exC (PySem.W.findObj_own T.hdC no rfl (by rw [hlo, hu])) (handed_of ru) ⟨v, H1, I1.tok _, ru, q⟩
end
/-! ### isinstance of it -/
def rIsX (K : PySem.W.Frag) : List V → Hp → VK → Prop := fun xs H Q => ∃ (a C : Addr) (c : V) (cv : Value) (b : Bool), xs = [.ref a, c] ∧ ClsV c cv ∧ ExcC K C ∧ ((∃ fs, ErrAt H a C fs) ∨ H a = some (ExO (.ref C) a)) ∧ PySem.W.kitOne K (.ref C) cv = some b ∧ Q (.bl b) H
theorem call_isX {X : Cx} : CallR X (.builtin "isinstance") (rIsX X.K) := by
  intro pins s σ H xs us Q I r h
  obtain ⟨a, C, c, cv, b, rfl, hcv, hC, hE, e, q⟩ := h
  obtain ⟨u1, u2, rfl, r1, r2⟩ := vals2 r
  cases (show u1 = Value.ref a from r1)
  have e2 := hcv.eq r2
  subst e2
  rcases hE with ⟨fs, hE⟩ | hE
  · obtain ⟨oe, od, J, _⟩ := err_look I hE
    exact PySem.W.kia_one (kit_err hC) I.kIn J e (fun z => nomatch z) fun tk => ⟨.bl b, H, I.kept (t' := tk) fun _ _ z => z, rfl, q⟩
  · obtain ⟨⟨oe, vs, ho, hz, hd, _⟩, _⟩ := I.hok a _ hE
    have J : PySem.W.InstAt s.heap a oe C none := by
      obtain ⟨oc, od, oda, osl⟩ := oe
      obtain ⟨h1, h2⟩ := hz
      dsimp only at h1 h2 hd
      subst h1 h2 hd
      exact ⟨ho, rfl, rfl, trivial⟩
    exact PySem.W.kia_one (PySem.W.handS_kitx_exc hC.hg hC.hk hC.hs hC.hd hC.ha hC.hn hC.ht hC.hm) I.kIn J e (fun z => nomatch z) fun tk => ⟨.bl b, H, I.kept (t' := tk) fun _ _ z => z, rfl, q⟩
/-- C(), an own error class without own __init__ -/
theorem pe_err0 {X : Cx} {C : Addr} {bmB : List Value} {B newId initId : String} {x : Str} {p pos : Pos} (F : ExcBaseFacts B newId initId bmB) (q : PySem.W.excIn X.K C bmB newId = true) (gC : X.mg x = some (.ref C)) (kC : PySem.W.keepIn X.K (.ref C) = true) (hg : Gl X x := by rfl)
    (hdb : (x == ("__debug__" : Str)) = false := by decide) : PE X (.Call (.Name x p) [] [] pos) (fun σ H Q => ∀ a, H a = none → Q (.ref a) (upd H a (ExO (.ref C) a))) := by
  refine ⟨fun pins s σ H Q I h => ?_⟩
  refine wpAny_Call_Name_kw (ld_glob I hg gC ?_ hdb)
  refine PySem.W.callWith_K0 I.kIn kC ?_
  show wpAny _ _ (call (.ref C) []) _ _ _
  obtain ⟨bm, N, nm, qn, bs, hdct, sn, sub, ab, col, dd, k0, k1, k2, k3, k5, mN, hC, hN, hni, T⟩ := exc_obj I.kIn q
  refine wpAny_call_exc_subT F T hC hN hni (fun hp a hm => ?_) (by show 0 ≤ sizeLine; exact Nat.zero_le _)
  have hn : H a = none := I.hok.gone hm.new
  obtain ⟨t, ht, _, _⟩ := hm.there
  exact ⟨.ref a, _, I.laidN hm.keeps hm.new hn (exO_ok ht ⟨rfl, rfl⟩ rfl rfl rfl (show 4 < 6 by decide)), rfl, h a hn⟩
end RK


set_option Elab.async false
set_option linter.all false
set_option maxRecDepth 100000
/-! a class called by keywords alone, whose __init__ may raise -/
namespace RK
open PySem PySem.Spec PyProof.Rows L2
def tMakeKS (C : Addr) (sp : Sp) (gV : List V → List V → List V) (E : L2.St → XK) (tk : TA) : TE := fun σ H Q => tk σ H fun zs H2 => ∀ x dx, H2 x = none → H2 dx = none → dx ≠ x →
  sp (gV [.ref x] zs) (upd (upd H2 dx (.own x)) x (.ins C dx [])) (fun v H3 => v = .non ∧ Q (.ref x) H3) (E σ)
/-- such a class, in one piece -/
structure Cck (P : Program) (w : World) (K : PySem.W.Frag) (mg : Str → Option Value) (base : Heap) (CXt : CXT) (k : Nat) (x : Str) (C : Addr) (ps ks : List Str) (gV : List V → List V → List V) (sp : Sp) : Prop where
  ex : ∃ (f : Addr) (fd : FuncData) (g : List Value → List Value → List Value), FnOk P w K mg base CXt k f fd ps sp ∧ mg x = some (.ref C) ∧ L2.Mk K C f ∧ KBinds K fd ps ks g gV
section
variable {X : Cx} {CXt : CXT} {j k : Nat} {C : Addr} {ps ks : List Str} {sp : Sp} {x : Str} {p pos : Pos} {kws : List Keyword} {tk : TA} {gV : List V → List V → List V}
theorem pe_makeKS {E : L2.St → XK} (c : Cck X.prog X.w X.K X.mg X.base CXt k x C ps ks gV sp) (hr : Room j X.A) (hk : k + 1 ≤ j) (hx : ∀ σ, PassesAt CXt X σ (E σ)) (hkw : PK X kws tk) (hg : Gl X x := by rfl)
    (hall : (backToKw pos (keywordEach kws X.env)).all (·.1.isSome) = true := by rfl) (hks : (backToKw pos (keywordEach kws X.env)).filterMap (·.1) = ks := by rfl) (hdb : (x == ("__debug__" : Str)) = false := by decide)
    (hpl : ((backTo pos (starEach [] X.env)).any (·.1) || (backToKw pos (keywordEach kws X.env)).any (·.1.isNone)) = false := by rfl) : PE X (.Call (.Name x p) [] kws pos) (tMakeKS C sp gV E tk) := by
  obtain ⟨f, fd, g, F, hm, M, hb⟩ := c.ex
  refine ⟨fun pins s σ H Q I h => wpAny_Call_Name_kw (ld_glob I hg hm ?_ hdb)⟩
  refine PySem.W.callWith_KW0 (h₀ := X.base) I.ok.mod.kin M.kp hall (thn (hkw.run pos pins s σ H _ I h) fun ws s2 ⟨zs, H2, I2, rz, q2⟩ => ⟨I2.kIn, ?_⟩) hpl
  rw [hks]
  have q := q2 (s2.heap.objs.size + 1) s2.heap.objs.size (I2.hok.fresh (Nat.le_succ _)) (I2.hok.fresh (Nat.le_refl _)) (Nat.ne_of_lt (Nat.lt_succ_self _))
  have I3 := Inv.made (C := C) I2
  have r1 : Vals [V.ref (s2.heap.objs.size + 1)] [Value.ref (s2.heap.objs.size + 1)] := .cons rfl .nil
  have r2 := hb.rel r1 rz
  have hl : (g [Value.ref (s2.heap.objs.size + 1)] ws).length = ps.length := r2.length.symm.trans (F.len _ _ _ _ q)
  refine wpAny_call (make_map (f := f) I2.kIn M.makes M.init (beq_iff_eq.mp M.fn) (codeAny_mono (F.run _ X.stack _ _ ⟨[Value.ref (s2.heap.objs.size + 1)], ks.zip ws⟩ (g [Value.ref (s2.heap.objs.size + 1)] ws) _ _ (E σ) ((hr.mono hk).make C [] (ks.zip ws))
    (I3.env0.make C [] (ks.zip ws)) (hb.to _ [Value.ref (s2.heap.objs.size + 1)] ws I3.kIn hl) r2 q) fun r s3 got => ?_))
  cases r with
  | error e => exact hx σ pins _ _ e s3 I3 got
  | ok fl =>
    cases fl with
    | ret u =>
      obtain ⟨v, H3, I4, rv, ev, q3⟩ := I3.after got
      subst ev
      exact ⟨rv, ⟨V.ref (s2.heap.objs.size + 1), H3, I4, rfl, q3⟩⟩
    | next => exact got.elim
    | brk => exact got.elim
    | cont => exact got.elim
end
end RK


set_option Elab.async false
set_option linter.all false
set_option maxRecDepth 100000
set_option maxHeartbeats 1000000
/-! PD: pure data over the abstract heap: what a value tells (Rep), slots that hold data or objects of their own (ER), and what changes of the heap leave of it. -/
namespace PD
open PySem PySem.Spec PyProof.Rows L2 RK
/-- what a value tells, without addresses -/
inductive D where
  | non | bl (b : Bool) | int (i : Int) | str (s : Str)
  | tup (ds : List D) | lst (ds : List D) | dic (t : Bool) (ks : List (D × D)) | obj (c : Str) (fs : List (Str × D))
  /-- the script: a list that is read alone -/
  | scr (ns : List Int)
instance : Inhabited D := ⟨.non⟩
/-- the written part, own classes by name, the one field of an error's class -/
structure Kn where
  K : PySem.W.Frag
  cn : Str → Option Addr
  en : Str → Option Addr
  fd : Str → Option Str
  /-- slots that keep the object they were given -/
  pin : Nat → Option Addr
  /-- of the error that a clause holds: the object of its field, that field, what it holds -/
  kp : Option (Addr × Str × V × D)
def keyD : Key → D
  | .inl i => .int i
  | .inr x => .str x
def KeyOk : Key → Prop
  | .inl _ => True
  | .inr x => PyData.strOk x = true
mutual
inductive Rep (k : Kn) (G : Hp) : D → V → Prop
  | non : Rep k G .non .non
  | bl (b : Bool) : Rep k G (.bl b) (.bl b)
  | int (i : Int) : Rep k G (.int i) (.int i)
  | str (x : Str) : PyData.strOk x = true → Rep k G (.str x) (.str x)
  | tup {a : Addr} {vs : List V} {ds : List D} : G a = some (.tup vs) → vs.length ≤ sizeLine → RepAll k G ds vs → Rep k G (.tup ds) (.ref a)
  | lst {a : Addr} {vs : List V} {ds : List D} : G a = some (.lst vs) → vs.length ≤ sizeLine → RepAll k G ds vs → Rep k G (.lst ds) (.ref a)
  | scr {a : Addr} {ns : List Int} : SqL k.K G a (ns.map V.int) → ns.length ≤ 63 → Rep k G (.scr ns) (.ref a)
  | dK {a : Addr} {vs : List (Key × V)} {ks : List (D × D)} : G a = some (.dK vs) → RepK k G ks vs → Rep k G (.dic false ks) (.ref a)
  | dT {a : Addr} {vs : List (List Key × V)} {ks : List (D × D)} : G a = some (.dT vs) → RepT k G ks vs → Rep k G (.dic true ks) (.ref a)
  | obj {a C dx : Addr} {c : Str} {vs : List (Str × V)} {fs : List (Str × D)} : G a = some (.ins C dx vs) → k.cn c = some C → RepF k G fs vs → Rep k G (.obj c fs) (.ref a)
inductive RepAll (k : Kn) (G : Hp) : List D → List V → Prop
  | nil : RepAll k G [] []
  | cons {d : D} {v : V} {ds : List D} {vs : List V} : Rep k G d v → RepAll k G ds vs → RepAll k G (d :: ds) (v :: vs)
inductive RepF (k : Kn) (G : Hp) : List (Str × D) → List (Str × V) → Prop
  | nil : RepF k G [] []
  | cons {f : Str} {d : D} {v : V} {ds : List (Str × D)} {vs : List (Str × V)} : Rep k G d v → RepF k G ds vs → RepF k G ((f, d) :: ds) ((f, v) :: vs)
inductive RepK (k : Kn) (G : Hp) : List (D × D) → List (Key × V) → Prop
  | nil : RepK k G [] []
  | cons {x : Key} {d : D} {v : V} {ds : List (D × D)} {vs : List (Key × V)} : KeyOk x → Rep k G d v → RepK k G ds vs → RepK k G ((keyD x, d) :: ds) ((x, v) :: vs)
inductive RepT (k : Kn) (G : Hp) : List (D × D) → List (List Key × V) → Prop
  | nil : RepT k G [] []
  | cons {x : List Key} {d : D} {v : V} {ds : List (D × D)} {vs : List (List Key × V)} : (∀ y ∈ x, KeyOk y) → Rep k G d v → RepT k G ds vs → RepT k G ((.tup (x.map keyD), d) :: ds) ((x, v) :: vs)
end
theorem sqT_mono {K : PySem.W.Frag} {G H : Hp} {a : Addr} {xs : List V} (S : L2.Same G H) (h : SqT K G a xs) : SqT K H a xs := by
  rcases h with (h | ⟨o, h⟩) | h
  · exact .inl (.inl (S _ _ h))
  · exact .inl (.inr ⟨o, S _ _ h⟩)
  · exact .inr h
theorem sqL_mono {K : PySem.W.Frag} {G H : Hp} {a : Addr} {xs : List V} (S : L2.Same G H) (h : SqL K G a xs) : SqL K H a xs := by
  rcases h with (h | ⟨o, h⟩) | h
  · exact .inl (.inl (S _ _ h))
  · exact .inl (.inr ⟨o, S _ _ h⟩)
  · exact .inr h
section
variable {k : Kn} {G G' H : Hp}
theorem Rep.mono (S : L2.Same G G') {d : D} {v : V} (h : Rep k G d v) : Rep k G' d v :=
  Rep.rec (motive_1 := fun d v _ => Rep k G' d v) (motive_2 := fun d v _ => RepAll k G' d v) (motive_3 := fun d v _ => RepF k G' d v) (motive_4 := fun d v _ => RepK k G' d v) (motive_5 := fun d v _ => RepT k G' d v)
    .non .bl .int .str (fun a b _ q => .tup (S _ _ a) b q) (fun a b _ q => .lst (S _ _ a) b q) (fun a b => .scr (sqL_mono S a) b) (fun a _ q => .dK (S _ _ a) q) (fun a _ q => .dT (S _ _ a) q) (fun a b _ q => .obj (S _ _ a) b q)
    .nil (fun _ _ p q => .cons p q) .nil (fun _ _ p q => .cons p q) .nil (fun o _ _ p q => .cons o p q) .nil (fun o _ _ p q => .cons o p q) h
theorem RepAll.mono (S : L2.Same G G') : ∀ {ds : List D} {vs : List V}, RepAll k G ds vs → RepAll k G' ds vs
  | _, _, .nil => .nil
  | _, _, .cons p q => .cons (p.mono S) (q.mono S)
theorem RepF.mono (S : L2.Same G G') : ∀ {ds : List (Str × D)} {vs : List (Str × V)}, RepF k G ds vs → RepF k G' ds vs
  | _, _, .nil => .nil
  | _, _, .cons p q => .cons (p.mono S) (q.mono S)
theorem RepK.mono (S : L2.Same G G') : ∀ {ds : List (D × D)} {vs : List (Key × V)}, RepK k G ds vs → RepK k G' ds vs
  | _, _, .nil => .nil
  | _, _, .cons o p q => .cons o (p.mono S) (q.mono S)
theorem RepT.mono (S : L2.Same G G') : ∀ {ds : List (D × D)} {vs : List (List Key × V)}, RepT k G ds vs → RepT k G' ds vs
  | _, _, .nil => .nil
  | _, _, .cons o p q => .cons o (p.mono S) (q.mono S)
theorem RepAll.len : ∀ {ds : List D} {vs : List V}, RepAll k G ds vs → ds.length = vs.length
  | _, _, .nil => rfl
  | _, _, .cons _ q => congrArg (· + 1) q.len
theorem RepAll.app : ∀ {ds es : List D} {vs ws : List V}, RepAll k G ds vs → RepAll k G es ws → RepAll k G (ds ++ es) (vs ++ ws)
  | _, _, _, _, .nil, h => h
  | _, _, _, _, .cons p q, h => .cons p (q.app h)
theorem RepAll.get : ∀ {ds : List D} {vs : List V} {i : Nat} {d : D}, RepAll k G ds vs → ds[i]? = some d → ∃ v, vs[i]? = some v ∧ Rep k G d v
  | _, _, 0, _, .cons p q, e => by
    rw [List.getElem?_cons_zero] at e
    cases e
    exact ⟨_, List.getElem?_cons_zero, p⟩
  | _, _, i + 1, _, .cons p q, e => by
    rw [List.getElem?_cons_succ] at e
    obtain ⟨v, h1, h2⟩ := q.get e
    exact ⟨v, by rw [List.getElem?_cons_succ]; exact h1, h2⟩
theorem RepAll.getV : ∀ {ds : List D} {vs : List V} {i : Nat} {v : V}, RepAll k G ds vs → vs[i]? = some v → ∃ d, ds[i]? = some d ∧ Rep k G d v
  | _, _, 0, _, .cons p q, e => by
    rw [List.getElem?_cons_zero] at e
    cases e
    exact ⟨_, List.getElem?_cons_zero, p⟩
  | _, _, i + 1, _, .cons p q, e => by
    rw [List.getElem?_cons_succ] at e
    obtain ⟨v, h1, h2⟩ := q.getV e
    exact ⟨v, by rw [List.getElem?_cons_succ]; exact h1, h2⟩
theorem RepAll.take : ∀ {ds : List D} {vs : List V} (n : Nat), RepAll k G ds vs → RepAll k G (ds.take n) (vs.take n)
  | _, _, 0, _ => .nil
  | _, _, _ + 1, .nil => .nil
  | _, _, n + 1, .cons p q => .cons p (q.take n)
theorem RepAll.drop : ∀ {ds : List D} {vs : List V} (n : Nat), RepAll k G ds vs → RepAll k G (ds.drop n) (vs.drop n)
  | _, _, 0, h => h
  | _, _, _ + 1, .nil => .nil
  | _, _, n + 1, .cons p q => q.drop n
theorem RepAll.rev : ∀ {ds : List D} {vs : List V}, RepAll k G ds vs → RepAll k G ds.reverse vs.reverse
  | _, _, .nil => .nil
  | _, _, .cons p q => by
    rw [List.reverse_cons, List.reverse_cons]
    exact q.rev.app (.cons p .nil)
theorem RepAll.set {x : D} {u : V} (r : Rep k G x u) : ∀ {ds : List D} {vs : List V} (i : Nat), RepAll k G ds vs → RepAll k G (ds.set i x) (vs.set i u)
  | _, _, _, .nil => .nil
  | _, _, 0, .cons _ q => .cons r q
  | _, _, i + 1, .cons p q => .cons p (RepAll.set r i q)
theorem RepAll.dropLast : ∀ {ds : List D} {vs : List V}, RepAll k G ds vs → RepAll k G ds.dropLast vs.dropLast := fun {ds vs} h => by
  rw [List.dropLast_eq_take, List.dropLast_eq_take, h.len]
  exact h.take _
theorem RepAll.eraseIdx : ∀ {ds : List D} {vs : List V} (i : Nat), RepAll k G ds vs → RepAll k G (ds.eraseIdx i) (vs.eraseIdx i)
  | _, _, _, .nil => .nil
  | _, _, 0, .cons _ q => q
  | _, _, i + 1, .cons p q => .cons p (q.eraseIdx i)
/-- the node at H, what is below it in G -/
def Node (k : Kn) (G H : Hp) : D → V → Prop
  | .scr ns, v => ∃ a, v = .ref a ∧ SqL k.K H a (ns.map V.int) ∧ ns.length ≤ 63
  | .lst ds, v => ∃ a vs, v = .ref a ∧ H a = some (.lst vs) ∧ vs.length ≤ sizeLine ∧ RepAll k G ds vs
  | .dic t ks, v => ∃ a, v = .ref a ∧ ((t = false ∧ ∃ vs, H a = some (.dK vs) ∧ RepK k G ks vs) ∨ (t = true ∧ ∃ vs, H a = some (.dT vs) ∧ RepT k G ks vs))
  | .obj c fs, v => ∃ a C dx vs, v = .ref a ∧ H a = some (.ins C dx vs) ∧ k.cn c = some C ∧ RepF k G fs vs
  | d, v => Rep k G d v
theorem Rep.node (S : L2.Same G H) {d : D} {v : V} (h : Rep k G d v) : Node k G H d v := by
  cases h with
  | tup a b c => exact .tup a b c
  | lst a b c => exact ⟨_, _, rfl, S _ _ a, b, c⟩
  | scr a b => exact ⟨_, rfl, sqL_mono S a, b⟩
  | dK a c => exact ⟨_, rfl, .inl ⟨rfl, _, S _ _ a, c⟩⟩
  | dT a c => exact ⟨_, rfl, .inr ⟨rfl, _, S _ _ a, c⟩⟩
  | obj a b c => exact ⟨_, _, _, _, rfl, S _ _ a, b, c⟩
  | non => exact .non
  | bl b => exact .bl b
  | int i => exact .int i
  | str x h => exact .str x h
theorem Node.rep {d : D} {v : V} (h : Node k G G d v) : Rep k G d v := by
  cases d with
  | tup ds => exact h
  | lst ds => obtain ⟨a, vs, rfl, b, c, e⟩ := h; exact .lst b c e
  | scr ns => obtain ⟨a, rfl, b, c⟩ := h; exact .scr b c
  | dic t ks => obtain ⟨a, rfl, ⟨rfl, vs, b, c⟩ | ⟨rfl, vs, b, c⟩⟩ := h; exact .dK b c; exact .dT b c
  | obj c fs => obtain ⟨a, C, dx, vs, rfl, b, c, e⟩ := h; exact .obj b c e
  | non => exact h
  | bl b => exact h
  | int i => exact h
  | str x => exact h
theorem Node.mono {H' : Hp} (S : L2.Same G G') (S2 : L2.Same H H') {d : D} {v : V} (h : Node k G H d v) : Node k G' H' d v := by
  cases d with
  | tup ds => exact Rep.mono S h
  | lst ds => obtain ⟨a, vs, rfl, b, c, e⟩ := h; exact ⟨_, _, rfl, S2 _ _ b, c, e.mono S⟩
  | scr ns => obtain ⟨a, rfl, b, c⟩ := h; exact ⟨_, rfl, sqL_mono S2 b, c⟩
  | dic t ks => obtain ⟨a, rfl, ⟨rfl, vs, b, c⟩ | ⟨rfl, vs, b, c⟩⟩ := h; exact ⟨_, rfl, .inl ⟨rfl, _, S2 _ _ b, c.mono S⟩⟩; exact ⟨_, rfl, .inr ⟨rfl, _, S2 _ _ b, c.mono S⟩⟩
  | obj c fs => obtain ⟨a, C, dx, vs, rfl, b, c, e⟩ := h; exact ⟨_, _, _, _, rfl, S2 _ _ b, c, e.mono S⟩
  | non => exact Rep.mono S h
  | bl b => exact Rep.mono S h
  | int i => exact Rep.mono S h
  | str x => exact Rep.mono S h
/-- an object's content -/
inductive NodeO (k : Kn) (G : Hp) : D → HO → Prop
  | tup {vs : List V} {ds : List D} : vs.length ≤ sizeLine → RepAll k G ds vs → NodeO k G (.tup ds) (.tup vs)
  | lst {vs : List V} {ds : List D} : vs.length ≤ sizeLine → RepAll k G ds vs → NodeO k G (.lst ds) (.lst vs)
  | dK {vs : List (Key × V)} {ks : List (D × D)} : RepK k G ks vs → NodeO k G (.dic false ks) (.dK vs)
  | dT {vs : List (List Key × V)} {ks : List (D × D)} : RepT k G ks vs → NodeO k G (.dic true ks) (.dT vs)
  | obj {C dx : Addr} {c : Str} {vs : List (Str × V)} {fs : List (Str × D)} : k.cn c = some C → RepF k G fs vs → NodeO k G (.obj c fs) (.ins C dx vs)
theorem NodeO.mono (S : L2.Same G G') {d : D} {o : HO} (h : NodeO k G d o) : NodeO k G' d o := by
  cases h with
  | tup a b => exact .tup a (b.mono S)
  | lst a b => exact .lst a (b.mono S)
  | dK a => exact .dK (a.mono S)
  | dT a => exact .dT (a.mono S)
  | obj a b => exact .obj a (b.mono S)
def isTup : D → Bool
  | .tup _ => true
  | _ => false
theorem NodeO.node {a : Addr} {d : D} {o : HO} (h : NodeO k G d o) (e : H a = some o) (nt : isTup d = false) : Node k G H d (.ref a) := by
  cases h with
  | tup b c => cases nt
  | lst b c => exact ⟨_, _, rfl, e, b, c⟩
  | dK c => exact ⟨_, rfl, .inl ⟨rfl, _, e, c⟩⟩
  | dT c => exact ⟨_, rfl, .inr ⟨rfl, _, e, c⟩⟩
  | obj b c => exact ⟨_, _, _, _, rfl, e, b, c⟩
theorem NodeO.rep {a : Addr} {d : D} {o : HO} (h : NodeO k G d o) (e : G a = some o) : Rep k G d (.ref a) := by
  cases h with
  | tup b c => exact .tup e b c
  | lst b c => exact .lst e b c
  | dK c => exact .dK e c
  | dT c => exact .dT e c
  | obj b c => exact .obj e b c
end
/-! ### slots -/
inductive Sl where
  | no | val (d : D) | own (d : D) | heap (zs : List Int) (s : Int)
abbrev Ev := List Sl
def Sl.isOwn : Sl → Bool
  | .own _ => true
  | .heap _ _ => true
  | _ => false
def OwnR (k : Kn) (G H : Hp) : Sl → Addr → List Addr → Prop
  | .own d, a, fp => fp = [a] ∧ ∃ o, H a = some o ∧ NodeO k G d o
  | .heap zs s, a, fp => ∃ l, fp = [a, l] ∧ a ≠ l ∧ H a = some (.lst [.ref l, .int s]) ∧ H l = some (.lst (zs.map V.int)) ∧ 0 ≤ s ∧ s < 2147483647 ∧ zs.length ≤ 100
  | _, _, _ => False
structure ERf (k : Kn) (B G : Hp) (e : Ev) (σ : L2.St) (H : Hp) (fp : Nat → List Addr) : Prop where
  len : σ.length = e.length
  base : L2.Same B H
  vis : L2.Same G H
  val : ∀ (i : Nat) (d : D), e[i]? = some (Sl.val d) → ∃ v, σ[i]? = some (some v) ∧ Rep k G d v
  own : ∀ (i : Nat) (s : Sl), e[i]? = some s → s.isOwn = true → ∃ a : Addr, σ[i]? = some (some (.ref a)) ∧ OwnR k G H s a (fp i)
  free : ∀ (i : Nat) (s : Sl) (b : Addr), e[i]? = some s → s.isOwn = true → b ∈ fp i → B b = none ∧ G b = none
  sep : ∀ (i j : Nat) (s t : Sl) (b : Addr), i ≠ j → e[i]? = some s → s.isOwn = true → e[j]? = some t → t.isOwn = true → b ∈ fp i → b ∈ fp j → False
  pin : ∀ (i : Nat) (a : Addr), k.pin i = some a → σ[i]? = some (some (.ref a))
  kept : ∀ dd f v d, k.kp = some (dd, f, v, d) → H dd = some (.xd [(f, v)]) ∧ Rep k G d v
def ER (k : Kn) (B G : Hp) (e : Ev) (σ : L2.St) (H : Hp) : Prop := ∃ fp, ERf k B G e σ H fp
/-- what a step that changes no object of ours leaves -/
structure Ext (G H G' H' : Hp) : Prop where
  hh : L2.Same H H'
  gg : L2.Same G G'
  gh : L2.Same G' H'
  nw : ∀ b o, G' b = some o → G b = some o ∨ H b = none
theorem Ext.refl {G H : Hp} (S : L2.Same G H) : Ext G H G H := ⟨L2.Same.refl H, L2.Same.refl G, S, fun _ _ e => .inl e⟩
theorem Ext.trans {G H G1 H1 G2 H2 : Hp} (a : Ext G H G1 H1) (b : Ext G1 H1 G2 H2) : Ext G H G2 H2 := ⟨a.hh.trans b.hh, a.gg.trans b.gg, b.gh, fun c o e => by
  rcases b.nw c o e with h | h
  · exact a.nw c o h
  · refine .inr ?_
    cases q : H c with
    | none => rfl
    | some u => rw [a.hh _ _ q] at h; cases h⟩
/-- a new object that is seen -/
theorem Ext.new {G H : Hp} {p : Addr} {o : HO} (S : L2.Same G H) (hp : H p = none) : Ext G H (upd G p o) (upd H p o) := by
  have gp : G p = none := by
    cases q : G p with
    | none => rfl
    | some u => rw [S _ _ q] at hp; cases hp
  refine ⟨RK.Same.upd hp, RK.Same.upd gp, fun b u e => ?_, fun b u e => ?_⟩
  · by_cases hb : b = p
    · subst hb; rw [upd_same] at e ⊢; exact e
    · rw [upd_ne hb] at e ⊢; exact S _ _ e
  · by_cases hb : b = p
    · subst hb; exact .inr hp
    · rw [upd_ne hb] at e; exact .inl e
/-- a new object that is not seen -/
theorem Ext.hid {G H : Hp} {p : Addr} {o : HO} (S : L2.Same G H) (hp : H p = none) : Ext G H G (upd H p o) :=
  ⟨RK.Same.upd hp, L2.Same.refl G, S.trans (RK.Same.upd hp), fun _ _ e => .inl e⟩
section
variable {k : Kn} {B B' G G' H H' : Hp} {e e' : Ev} {σ : L2.St} {fp : Nat → List Addr}
theorem OwnR.there {s : Sl} {a b : Addr} {l : List Addr} (h : OwnR k G H s a l) (hb : b ∈ l) : ∃ o, H b = some o := by
  cases s with
  | own d =>
    obtain ⟨rfl, o, e, _⟩ := h
    rw [List.mem_singleton] at hb
    subst hb
    exact ⟨o, e⟩
  | heap zs s =>
    obtain ⟨l, rfl, _, e1, e2, _⟩ := h
    rcases List.mem_cons.mp hb with rfl | hb
    · exact ⟨_, e1⟩
    · rw [List.mem_singleton] at hb
      subst hb
      exact ⟨_, e2⟩
  | no => exact h.elim
  | val d => exact h.elim
theorem OwnR.keep {s : Sl} {a : Addr} {l : List Addr} (h : OwnR k G H s a l) (S : L2.Same G G') (hk : ∀ b ∈ l, ∀ o, H b = some o → H' b = some o) : OwnR k G' H' s a l := by
  cases s with
  | own d =>
    obtain ⟨rfl, o, e, n⟩ := h
    exact ⟨rfl, o, hk _ List.mem_cons_self _ e, n.mono S⟩
  | heap zs s =>
    obtain ⟨l, rfl, ne, e1, e2, r⟩ := h
    exact ⟨l, rfl, ne, hk _ List.mem_cons_self _ e1, hk _ (List.mem_cons_of_mem _ List.mem_cons_self) _ e2, r⟩
  | no => exact h
  | val d => exact h
theorem OwnR.notX {s : Sl} {a b : Addr} {l : List Addr} {fs : List (Str × V)} (h : OwnR k G H s a l) (hb : b ∈ l) : H b ≠ some (.xd fs) := fun z => by
  cases s with
  | own d =>
    obtain ⟨rfl, o, e, n⟩ := h
    rw [List.mem_singleton] at hb
    subst hb
    rw [e] at z
    cases z
    cases n
  | heap zs s =>
    obtain ⟨l, rfl, _, e1, e2, _⟩ := h
    rcases List.mem_cons.mp hb with rfl | hb
    · rw [e1] at z; cases z
    · rw [List.mem_singleton] at hb
      subst hb
      rw [e2] at z; cases z
  | no => exact h.elim
  | val d => exact h.elim
/-- a step that changes the objects of the slots ch alone -/
theorem ERf.step (r : ERf k B G e σ H fp) (ch : Nat → Prop) (kp : ∀ b o, H b = some o → (∀ (i : Nat) (s : Sl), ch i → e[i]? = some s → s.isOwn = true → b ∉ fp i) → H' b = some o)
    (gg : L2.Same G G') (gh : L2.Same G' H') (nw : ∀ b o, G' b = some o → G b = some o ∨ H b = none) (hl : e'.length = e.length) (same : ∀ i : Nat, ¬ ch i → e'[i]? = e[i]?)
    (hc : ∀ i : Nat, ch i → ∀ t : Sl, e'[i]? = some t → ∃ s a, e[i]? = some s ∧ s.isOwn = true ∧ t.isOwn = true ∧ σ[i]? = some (some (.ref a)) ∧ OwnR k G' H' t a (fp i)) : ERf k B G' e' σ H' fp where
  len := r.len.trans hl.symm
  base := fun b o h => kp b o (r.base b o h) fun i s _ hs ho hb => by
    rw [(r.free i s b hs ho hb).1] at h
    cases h
  vis := gh
  val := fun i d h => by
    by_cases c : ch i
    · obtain ⟨s, a, _, _, h2, _⟩ := hc i c _ h
      cases h2
    · rw [same i c] at h
      obtain ⟨v, h1, h2⟩ := r.val i d h
      exact ⟨v, h1, h2.mono gg⟩
  own := fun i s h ho => by
    by_cases c : ch i
    · obtain ⟨s', a, h1, h2, h3, h4, h5⟩ := hc i c _ h
      exact ⟨a, h4, h5⟩
    · rw [same i c] at h
      obtain ⟨a, h1, h2⟩ := r.own i s h ho
      refine ⟨a, h1, h2.keep gg fun b hb o eo => kp b o eo fun j t cj ht hto hbj => ?_⟩
      exact r.sep i j s t b (fun z => c (z ▸ cj)) h ho ht hto hb hbj
  free := fun i s b h ho hb => by
    have h0 : ∃ s0, e[i]? = some s0 ∧ s0.isOwn = true := by
      by_cases c : ch i
      · obtain ⟨s', a, h1, h2, _⟩ := hc i c _ h
        exact ⟨s', h1, h2⟩
      · rw [same i c] at h
        exact ⟨s, h, ho⟩
    obtain ⟨s0, h1, h2⟩ := h0
    obtain ⟨f1, f2⟩ := r.free i s0 b h1 h2 hb
    refine ⟨f1, ?_⟩
    cases q : G' b with
    | none => rfl
    | some o =>
      rcases nw b o q with z | z
      · rw [f2] at z; cases z
      · obtain ⟨a, _, h3⟩ := r.own i s0 h1 h2
        obtain ⟨u, h4⟩ := h3.there hb
        rw [h4] at z
        cases z
  sep := fun i j s t b ne h ho h' ho' hb hb' => by
    have h0 : ∀ (i : Nat) (s : Sl), e'[i]? = some s → s.isOwn = true → ∃ s0, e[i]? = some s0 ∧ s0.isOwn = true := fun i s h ho => by
      by_cases c : ch i
      · obtain ⟨s', a, h1, h2, _⟩ := hc i c _ h
        exact ⟨s', h1, h2⟩
      · rw [same i c] at h
        exact ⟨s, h, ho⟩
    obtain ⟨s0, h1, h2⟩ := h0 i s h ho
    obtain ⟨t0, h3, h4⟩ := h0 j t h' ho'
    exact r.sep i j s0 t0 b ne h1 h2 h3 h4 hb hb'
  pin := r.pin
  kept := fun dd f v d q => by
    obtain ⟨h1, h2⟩ := r.kept dd f v d q
    refine ⟨kp dd _ h1 fun i s _ hs ho hb => ?_, h2.mono gg⟩
    obtain ⟨a, _, h3⟩ := r.own i s hs ho
    exact h3.notX hb h1
theorem ER.ext (r : ER k B G e σ H) (x : Ext G H G' H') : ER k B G' e σ H' := by
  obtain ⟨fp, r⟩ := r
  exact ⟨fp, r.step (fun _ => False) (fun b o h _ => x.hh b o h) x.gg x.gh x.nw rfl (fun _ _ => rfl) fun _ c => c.elim⟩
theorem ER.base (r : ER k B G e σ H) (S : L2.Same B' B) : ER k B' G e σ H := by
  obtain ⟨fp, r⟩ := r
  refine ⟨fp, r.len, S.trans r.base, r.vis, r.val, r.own, fun i s b h ho hb => ⟨?_, (r.free i s b h ho hb).2⟩, r.sep, r.pin, r.kept⟩
  cases q : B' b with
  | none => rfl
  | some o =>
    have := S _ _ q
    rw [(r.free i s b h ho hb).1] at this
    cases this
theorem ER.vis (r : ER k B G e σ H) : L2.Same G H := let ⟨_, r⟩ := r; r.vis
theorem ER.bs (r : ER k B G e σ H) : L2.Same B H := let ⟨_, r⟩ := r; r.base
theorem ER.len (r : ER k B G e σ H) : σ.length = e.length := let ⟨_, r⟩ := r; r.len
theorem ER.val (r : ER k B G e σ H) {i : Nat} {d : D} (h : e[i]? = some (Sl.val d)) : ∃ v, σ[i]? = some (some v) ∧ Rep k G d v := let ⟨_, r⟩ := r; r.val i d h
theorem ER.own (r : ER k B G e σ H) {i : Nat} {d : D} (h : e[i]? = some (Sl.own d)) : ∃ a o, σ[i]? = some (some (.ref a)) ∧ H a = some o ∧ NodeO k G d o ∧ B a = none ∧ G a = none := by
  obtain ⟨fp, r⟩ := r
  obtain ⟨a, h1, h2, o, h3, h4⟩ := r.own i _ h rfl
  obtain ⟨f1, f2⟩ := r.free i _ a h rfl (by rw [h2]; exact List.mem_cons_self)
  exact ⟨a, o, h1, h3, h4, f1, f2⟩
theorem pin_set {σ : L2.St} {i : Nat} {x : Option V} (hp : k.pin i = none) (h : ∀ (j : Nat) (a : Addr), k.pin j = some a → σ[j]? = some (some (.ref a))) : ∀ (j : Nat) (a : Addr), k.pin j = some a → (σ.set i x)[j]? = some (some (.ref a)) := fun j a e => by
  have hj : i ≠ j := fun z => by rw [← z, hp] at e; cases e
  rw [List.getElem?_set_ne hj]
  exact h j a e
/-- a slot gets data -/
theorem ER.setVal (r : ER k B G e σ H) {i : Nat} {d : D} {v : V} (h : Rep k G d v) (hp : k.pin i = none) : ER k B G (e.set i (Sl.val d)) (σ.set i (some v)) H := by
  obtain ⟨fp, r⟩ := r
  have at_ : ∀ (j : Nat) (s : Sl), s.isOwn = true → (e.set i (Sl.val d))[j]? = some s → j ≠ i ∧ e[j]? = some s := fun j s ho h => by
    by_cases hj : i = j
    · subst hj
      by_cases hl : i < e.length
      · rw [List.getElem?_set_self hl] at h; cases h; cases ho
      · rw [List.getElem?_eq_none (by rw [List.length_set]; omega)] at h; cases h
    · rw [List.getElem?_set_ne hj] at h
      exact ⟨fun z => hj z.symm, h⟩
  refine ⟨fp, by rw [List.length_set, List.length_set, r.len], r.base, r.vis, fun j d' h' => ?_, fun j s h' ho => ?_, fun j s b h' ho hb => r.free j s b (at_ j s ho h').2 ho hb, fun j l s t b ne h1 ho1 h2 ho2 => r.sep j l s t b ne (at_ j s ho1 h1).2 ho1 (at_ l t ho2 h2).2 ho2, pin_set hp r.pin, r.kept⟩
  · by_cases hj : i = j
    · subst hj
      by_cases hl : i < e.length
      · rw [List.getElem?_set_self hl] at h'
        cases h'
        exact ⟨v, List.getElem?_set_self (by rw [r.len]; exact hl), h⟩
      · rw [List.getElem?_eq_none (by rw [List.length_set]; omega)] at h'; cases h'
    · rw [List.getElem?_set_ne hj] at h' ⊢
      exact r.val j d' h'
  · obtain ⟨hj, h2⟩ := at_ j s ho h'
    obtain ⟨a, h3, h4⟩ := r.own j s h2 ho
    exact ⟨a, by rw [List.getElem?_set_ne (fun z => hj z.symm)]; exact h3, h4⟩
/-- a slot gets an object of its own: p, that no other slot and no data knows -/
theorem ER.setOwn {o : HO} {p : Addr} {d : D} (r : ER k (upd B p o) G e σ H) (hB : B p = none) (hG : G p = none) (n : NodeO k G d o) (i : Nat) (hp' : k.pin i = none) : ER k B G (e.set i (Sl.own d)) (σ.set i (some (.ref p))) H := by
  obtain ⟨fp, r⟩ := r
  have hp : H p = some o := r.base p o upd_same
  have S : L2.Same B (upd B p o) := RK.Same.upd hB
  have at_ : ∀ (j : Nat) (s : Sl), j ≠ i → (e.set i (Sl.own d))[j]? = some s → e[j]? = some s := fun j s hj h => by
    rw [List.getElem?_set_ne (fun z => hj z.symm)] at h
    exact h
  have at_i : ∀ s : Sl, (e.set i (Sl.own d))[i]? = some s → s = .own d ∧ i < e.length := fun s h => by
    by_cases hl : i < e.length
    · rw [List.getElem?_set_self hl] at h; cases h; exact ⟨rfl, hl⟩
    · rw [List.getElem?_eq_none (by rw [List.length_set]; omega)] at h; cases h
  have nf : ∀ (j : Nat) (s : Sl), e[j]? = some s → s.isOwn = true → p ∉ fp j := fun j s h ho hb => by
    have := (r.free j s p h ho hb).1
    rw [upd_same] at this
    cases this
  refine ⟨fun j => if j = i then [p] else fp j, by rw [List.length_set, List.length_set, r.len], S.trans r.base, r.vis, fun j d' h' => ?_, fun j s h' ho => ?_, fun j s b h' ho hb => ?_, fun j l s t b ne h1 ho1 h2 ho2 hb1 hb2 => ?_, pin_set hp' r.pin, r.kept⟩
  · by_cases hj : j = i
    · subst hj
      obtain ⟨q, _⟩ := at_i _ h'
      cases q
    · rw [List.getElem?_set_ne (fun z => hj z.symm)]
      exact r.val j d' (at_ j _ hj h')
  · by_cases hj : j = i
    · subst hj
      obtain ⟨rfl, hl⟩ := at_i _ h'
      refine ⟨p, List.getElem?_set_self (by rw [r.len]; exact hl), ?_, o, hp, n⟩
      show (if j = j then [p] else fp j) = [p]
      rw [if_pos rfl]
    · rw [List.getElem?_set_ne (fun z => hj z.symm)]
      obtain ⟨a, h1, h2⟩ := r.own j s (at_ j _ hj h') ho
      refine ⟨a, h1, ?_⟩
      show OwnR k G H s a (if j = i then [p] else fp j)
      rw [if_neg hj]
      exact h2
  · have hb : b ∈ (if j = i then [p] else fp j) := hb
    by_cases hj : j = i
    · subst hj
      rw [if_pos rfl, List.mem_singleton] at hb
      subst hb
      exact ⟨hB, hG⟩
    · rw [if_neg hj] at hb
      obtain ⟨f1, f2⟩ := r.free j s b (at_ j _ hj h') ho hb
      refine ⟨?_, f2⟩
      cases q : B b with
      | none => rfl
      | some u => rw [S _ _ q] at f1; cases f1
  · have hb1 : b ∈ (if j = i then [p] else fp j) := hb1
    have hb2 : b ∈ (if l = i then [p] else fp l) := hb2
    by_cases hj : j = i
    · have hl : l ≠ i := fun z => ne (hj.trans z.symm)
      rw [if_pos hj, List.mem_singleton] at hb1
      rw [if_neg hl, hb1] at hb2
      exact nf l t (at_ l _ hl h2) ho2 hb2
    · rw [if_neg hj] at hb1
      by_cases hl : l = i
      · rw [if_pos hl, List.mem_singleton] at hb2
        rw [hb2] at hb1
        exact nf j s (at_ j _ hj h1) ho1 hb1
      · rw [if_neg hl] at hb2
        exact r.sep j l s t b ne (at_ j _ hj h1) ho1 (at_ l _ hl h2) ho2 hb1 hb2
/-- an object of ours that nobody else knows is seen from now on -/
theorem ER.seen {o : HO} {p : Addr} (r : ER k (upd B p o) G e σ H) (hB : B p = none) (hG : G p = none) : ER k B (upd G p o) e σ H := by
  obtain ⟨fp, r⟩ := r
  have hp : H p = some o := r.base p o upd_same
  have S : L2.Same B (upd B p o) := RK.Same.upd hB
  have SG : L2.Same G (upd G p o) := RK.Same.upd hG
  refine ⟨fp, r.len, S.trans r.base, fun b u q => ?_, fun i d h => ?_, fun i s h ho => ?_, fun i s b h ho hb => ?_, r.sep, r.pin, fun dd f v d q => ⟨(r.kept dd f v d q).1, (r.kept dd f v d q).2.mono SG⟩⟩
  · by_cases hb : b = p
    · subst hb; rw [upd_same] at q; cases q; exact hp
    · rw [upd_ne hb] at q; exact r.vis _ _ q
  · obtain ⟨v, h1, h2⟩ := r.val i d h
    exact ⟨v, h1, h2.mono SG⟩
  · obtain ⟨a, h1, h2⟩ := r.own i s h ho
    exact ⟨a, h1, h2.keep SG fun _ _ _ q => q⟩
  · obtain ⟨f1, f2⟩ := r.free i s b h ho hb
    have hbp : b ≠ p := fun z => by rw [z, upd_same] at f1; cases f1
    rw [upd_ne hbp] at f1 ⊢
    exact ⟨f1, f2⟩
/-- a slot's own object is written -/
theorem ER.write {i : Nat} {d d' : D} {a : Addr} {o' : HO} (r : ER k B G e σ H) (h : e[i]? = some (Sl.own d)) (hs : σ[i]? = some (some (.ref a))) (n : NodeO k G d' o') : ER k B G (e.set i (Sl.own d')) σ (upd H a o') := by
  obtain ⟨fp, r⟩ := r
  obtain ⟨a', h1, h2, o, h3, h4⟩ := r.own i _ h rfl
  rw [hs] at h1
  cases h1
  have hl : i < e.length := (List.getElem?_eq_some_iff.mp h).1
  have am : a ∈ fp i := by rw [h2]; exact List.mem_cons_self
  obtain ⟨f1, f2⟩ := r.free i _ a h rfl am
  refine ⟨fp, r.step (fun j => j = i) (fun b u q nb => ?_) (L2.Same.refl G) (fun b u q => ?_) (fun b u q => .inl q) (List.length_set) (fun j hj => List.getElem?_set_ne (fun z => hj z.symm)) ?_⟩
  · have : b ≠ a := fun z => nb i _ rfl h rfl (z ▸ am)
    rw [upd_ne this]
    exact q
  · have : b ≠ a := fun z => by rw [z, f2] at q; cases q
    rw [upd_ne this]
    exact r.vis _ _ q
  · rintro j rfl t ht
    rw [List.getElem?_set_self hl] at ht
    cases ht
    exact ⟨_, a, h, rfl, rfl, hs, h2, o', upd_same, n⟩
/-- a slot's own object is seen from now on -/
theorem ER.freeze {i : Nat} {d : D} (r : ER k B G e σ H) (h : e[i]? = some (Sl.own d)) : ∃ G', L2.Same G G' ∧ (∀ b o, G' b = some o → G b = some o ∨ B b = none) ∧ ER k B G' (e.set i (Sl.val d)) σ H := by
  obtain ⟨fp, r⟩ := r
  obtain ⟨a, h1, h2, o, h3, h4⟩ := r.own i _ h rfl
  have hl : i < e.length := (List.getElem?_eq_some_iff.mp h).1
  have am : a ∈ fp i := by rw [h2]; exact List.mem_cons_self
  obtain ⟨f1, f2⟩ := r.free i _ a h rfl am
  have SG : L2.Same G (upd G a o) := RK.Same.upd f2
  have at_ : ∀ (j : Nat) (s : Sl), s.isOwn = true → (e.set i (Sl.val d))[j]? = some s → j ≠ i ∧ e[j]? = some s := fun j s ho h => by
    by_cases hj : i = j
    · subst hj
      rw [List.getElem?_set_self hl] at h; cases h; cases ho
    · rw [List.getElem?_set_ne hj] at h
      exact ⟨fun z => hj z.symm, h⟩
  refine ⟨upd G a o, SG, fun b u q => ?_, fp, by rw [List.length_set, r.len], r.base, fun b u q => ?_, fun j d' h' => ?_, fun j s h' ho => ?_, fun j s b h' ho hb => ?_, fun j l s t b ne g1 ho1 g2 ho2 => r.sep j l s t b ne (at_ j s ho1 g1).2 ho1 (at_ l t ho2 g2).2 ho2, r.pin, fun dd f v d q => ⟨(r.kept dd f v d q).1, (r.kept dd f v d q).2.mono SG⟩⟩
  · by_cases hb : b = a
    · subst hb; exact .inr f1
    · rw [upd_ne hb] at q; exact .inl q
  · by_cases hb : b = a
    · subst hb; rw [upd_same] at q; cases q; exact h3
    · rw [upd_ne hb] at q; exact r.vis _ _ q
  · by_cases hj : i = j
    · subst hj
      rw [List.getElem?_set_self hl] at h'
      cases h'
      exact ⟨_, h1, (h4.mono SG).rep upd_same⟩
    · rw [List.getElem?_set_ne hj] at h'
      obtain ⟨v, g1, g2⟩ := r.val j d' h'
      exact ⟨v, g1, g2.mono SG⟩
  · obtain ⟨hj, g2⟩ := at_ j s ho h'
    obtain ⟨a', g3, g4⟩ := r.own j s g2 ho
    exact ⟨a', g3, g4.keep SG fun _ _ _ q => q⟩
  · obtain ⟨hj, g2⟩ := at_ j s ho h'
    obtain ⟨g3, g4⟩ := r.free j s b g2 ho hb
    refine ⟨g3, ?_⟩
    have : b ≠ a := fun z => r.sep j i s _ b hj g2 ho h rfl hb (z ▸ am)
    rw [upd_ne this]
    exact g4
/-- forget a slot -/
theorem ER.drop (r : ER k B G e σ H) (i : Nat) : ER k B G (e.set i Sl.no) σ H := by
  obtain ⟨fp, r⟩ := r
  have at_ : ∀ (j : Nat) (s : Sl), s ≠ .no → (e.set i Sl.no)[j]? = some s → j ≠ i ∧ e[j]? = some s := fun j s ho h => by
    by_cases hj : i = j
    · subst hj
      by_cases hl : i < e.length
      · rw [List.getElem?_set_self hl] at h; cases h; exact absurd rfl ho
      · rw [List.getElem?_eq_none (by rw [List.length_set]; omega)] at h; cases h
    · rw [List.getElem?_set_ne hj] at h
      exact ⟨fun z => hj z.symm, h⟩
  have no : ∀ s : Sl, s.isOwn = true → s ≠ .no := fun s h z => by subst z; cases h
  exact ⟨fp, by rw [List.length_set, r.len], r.base, r.vis, fun j d h => r.val j d (at_ j _ (fun z => by cases z) h).2, fun j s h ho => r.own j s (at_ j s (no s ho) h).2 ho, fun j s b h ho => r.free j s b (at_ j s (no s ho) h).2 ho,
    fun j l s t b ne g1 ho1 g2 ho2 => r.sep j l s t b ne (at_ j s (no s ho1) g1).2 ho1 (at_ l t (no t ho2) g2).2 ho2, r.pin, r.kept⟩
end
end PD


set_option Elab.async false
set_option linter.all false
set_option maxRecDepth 100000
/-! texts in order; rooms, their outcomes and the rooms of an outcome -/
namespace RK
open PySem PySem.Spec PyProof.Rows L2
/-! ### texts in order -/
def ltS (a b : Str) : Prop := a.cps.toList < b.cps.toList
instance (a b : Str) : Decidable (ltS a b) := inferInstanceAs (Decidable (a.cps.toList < b.cps.toList))
theorem ltS_irrefl (a : Str) : ¬ ltS a a := List.lt_irrefl _
theorem ltS_trans {a b c : Str} (h : ltS a b) (k : ltS b c) : ltS a c := List.lt_trans h k
theorem str_ext {a b : Str} (h : a.cps.toList = b.cps.toList) : a = b := by
  cases a with
  | mk x =>
    cases b with
    | mk y =>
      congr 1
      exact Array.ext' h
theorem ltS_tri {a b : Str} (h : ¬ ltS a b) (k : ¬ ltS b a) : a = b := str_ext (List.le_antisymm (List.not_lt.mp k) (List.not_lt.mp h))
theorem ltS_asymm {a b : Str} (h : ltS a b) : ¬ ltS b a := fun k => ltS_irrefl a (ltS_trans h k)
theorem ltCps_iff : ∀ a b : List Nat, ltCps a b = true ↔ a < b
  | [], [] => by simp [ltCps]
  | [], _ :: _ => by simp [ltCps]
  | _ :: _, [] => by simp [ltCps]
  | a :: r, b :: t => by
    unfold ltCps
    rw [Bool.or_eq_true, Bool.and_eq_true, ltCps_iff r t, List.cons_lt_cons_iff]
    simp
/-- not falling -/
def LeS (a b : Str) : Prop := ¬ ltS b a
theorem LeS.trans {a b c : Str} (h : LeS a b) (k : LeS b c) : LeS a c := fun z => by
  by_cases e : ltS c b
  · exact k e
  · by_cases e2 : ltS b c
    · exact h (ltS_trans e2 z)
    · have := ltS_tri e e2
      subst this
      exact h z
theorem risingS_le : ∀ (p : Str) (l : List Str), risingS p l = true → (p :: l).Pairwise LeS
  | p, [], _ => by simp
  | p, x :: r, h => by
    have h : (!ltCps x.cps.toList p.cps.toList && risingS x r) = true := h
    rw [Bool.and_eq_true] at h
    have h1 : LeS p x := fun z => by
      have := (ltCps_iff _ _).mpr z
      rw [this] at h
      exact absurd h.1 (by decide)
    have ih := risingS_le x r h.2
    rw [List.pairwise_cons]
    refine ⟨fun y hy => ?_, ih⟩
    rcases List.mem_cons.mp hy with rfl | hy
    · exact h1
    · exact h1.trans ((List.pairwise_cons.mp ih).1 y hy)
theorem sortedS_le {l : List Str} (h : sortedS l = true) : l.Pairwise LeS := by
  cases l with
  | nil => exact List.Pairwise.nil
  | cons x r => exact risingS_le x r h
/-- rising without doubles -/
abbrev Asc (l : List Str) : Prop := l.Pairwise ltS
theorem asc_of {l : List Str} (h : sortedS l = true) (nd : l.Nodup) : Asc l := by
  have h1 := sortedS_le h
  clear h
  induction l with
  | nil => exact List.Pairwise.nil
  | cons x r ih =>
    rw [List.pairwise_cons] at h1
    rw [List.nodup_cons] at nd
    refine List.pairwise_cons.mpr ⟨fun y hy => ?_, ih nd.2 h1.2⟩
    by_cases e : ltS x y
    · exact e
    · exact absurd (ltS_tri e (h1.1 y hy)) (fun z => nd.1 (z ▸ hy))
theorem Asc.nodup {l : List Str} (h : Asc l) : l.Nodup := List.Pairwise.imp (S := fun a b : Str => a ≠ b) (fun {a b} hab e => ltS_irrefl b (by rw [e] at hab; exact hab)) h
theorem snoc_ind {α : Type} {P : List α → Prop} (h0 : P []) (h1 : ∀ l x, P l → P (l ++ [x])) (l : List α) : P l := by
  have key : ∀ m : List α, P m.reverse := by
    intro m
    induction m with
    | nil => exact h0
    | cons x m ih =>
      rw [List.reverse_cons]
      exact h1 _ _ ih
  have := key l.reverse
  rwa [List.reverse_reverse] at this
theorem asc_eq : ∀ {l m : List Str}, Asc l → Asc m → (∀ x, x ∈ l ↔ x ∈ m) → l = m
  | [], [], _, _, _ => rfl
  | [], y :: m, _, _, h => absurd ((h y).mpr List.mem_cons_self) List.not_mem_nil
  | x :: l, [], _, _, h => absurd ((h x).mp List.mem_cons_self) List.not_mem_nil
  | x :: l, y :: m, a, b, h => by
    replace a := List.pairwise_cons.mp a
    replace b := List.pairwise_cons.mp b
    have e : x = y := by
      rcases List.mem_cons.mp ((h x).mp List.mem_cons_self) with e | hx
      · exact e
      · rcases List.mem_cons.mp ((h y).mpr List.mem_cons_self) with e | hy
        · exact e.symm
        · exact absurd (a.1 y hy) (ltS_asymm (b.1 x hx))
    subst e
    congr 1
    refine asc_eq a.2 b.2 fun z => ⟨fun hz => ?_, fun hz => ?_⟩
    · rcases List.mem_cons.mp ((h z).mp (List.mem_cons_of_mem _ hz)) with e | hz'
      · exact absurd (e ▸ a.1 z hz) (ltS_irrefl x)
      · exact hz'
    · rcases List.mem_cons.mp ((h z).mpr (List.mem_cons_of_mem _ hz)) with e | hz'
      · exact absurd (e ▸ b.1 z hz) (ltS_irrefl x)
      · exact hz'
theorem perm_asc_eq {l m k : List Str} (a : l.Perm k) (sa : sortedS l = true) (b : m.Perm k) (sb : sortedS m = true) (nd : k.Nodup) : l = m :=
  asc_eq (asc_of sa (a.nodup_iff.mpr nd)) (asc_of sb (b.nodup_iff.mpr nd)) fun x => (a.mem_iff).trans b.mem_iff.symm
/-! ### texts in a list, as == finds them -/
theorem inV_str (x : Str) (ys : List Str) : inV (.str x) (ys.map V.str) = decide (x ∈ ys) := by
  unfold inV
  rw [List.any_map, Bool.eq_iff_iff, List.any_eq_true, decide_eq_true_eq]
  constructor
  · rintro ⟨y, hy, e⟩
    have e : (y == x) = true := e
    exact (beq_iff_eq.mp e) ▸ hy
  · intro h
    exact ⟨x, h, show (x == x) = true from beq_self_eq_true x⟩
theorem flat_strs (ys : List Str) : (ys.map V.str).all flatV = true := by rw [List.all_map]; simp [Function.comp_def, flatV]
theorem inV_int (x : Int) (ys : List Int) : inV (.int x) (ys.map V.int) = decide (x ∈ ys) := by
  unfold inV
  rw [List.any_map, Bool.eq_iff_iff, List.any_eq_true, decide_eq_true_eq]
  constructor
  · rintro ⟨y, hy, e⟩
    have e : (y == x) = true := e
    exact (beq_iff_eq.mp e) ▸ hy
  · intro h
    exact ⟨x, h, show (x == x) = true from beq_self_eq_true x⟩
theorem flat_ints (ys : List Int) : (ys.map V.int).all flatV = true := by rw [List.all_map]; simp [Function.comp_def, flatV]
/-! ### rooms -/
abbrev Rm := List Str
/-- a..z -/
def lowB (c : Nat) : Bool := decide (97 ≤ c) && decide (c ≤ 122)
def NameOk (x : Str) : Prop := 1 ≤ x.length ∧ x.length ≤ 5 ∧ ∀ c ∈ x.cps.toList, lowB c = true
def RoomOk (r : Rm) : Prop := 3 ≤ r.length ∧ r.length ≤ 5 ∧ (∀ x ∈ r, NameOk x) ∧ Asc r
/-- what two rooms share -/
def common (r s : Rm) : Rm := r.filter fun x => decide (x ∈ s)
/-- the outcomes with the numbers of their rooms, as they are met -/
def occs : Nat → List Rm → List (Str × Nat)
  | _, [] => []
  | n, r :: rs => r.map (fun x => (x, n)) ++ occs (n + 1) rs
/-- the outcomes in the order in which they are first met -/
def firsts (o : List (Str × Nat)) : List Str := o.foldl (fun acc p => if p.1 ∈ acc then acc else acc ++ [p.1]) []
def numsOf (o : List (Str × Nat)) (x : Str) : List Nat := (o.filter fun p => decide (p.1 = x)).map (·.2)
theorem firsts_snoc (o : List (Str × Nat)) (p : Str × Nat) : firsts (o ++ [p]) = if p.1 ∈ firsts o then firsts o else firsts o ++ [p.1] := by
  unfold firsts
  rw [List.foldl_append]
  rfl
theorem mem_firsts (o : List (Str × Nat)) (x : Str) : x ∈ firsts o ↔ x ∈ o.map (·.1) := by
  refine snoc_ind (P := fun o => x ∈ firsts o ↔ x ∈ o.map (·.1)) Iff.rfl (fun o p ih => ?_) o
  · rw [firsts_snoc, List.map_append, List.mem_append]
    split
    · rename_i h
      rw [ih]
      constructor
      · exact .inl
      · rintro (h1 | h1)
        · exact h1
        · have e : x = p.1 := by simpa using h1
          subst e
          exact ih.mp h
    · rw [List.mem_append, ih]
      simp
theorem nodup_firsts (o : List (Str × Nat)) : (firsts o).Nodup := by
  refine snoc_ind (P := fun o => (firsts o).Nodup) List.nodup_nil (fun o p ih => ?_) o
  · rw [firsts_snoc]
    split
    · exact ih
    · rename_i h
      rw [List.nodup_append]
      refine ⟨ih, by simp, fun a ha b hb => ?_⟩
      have e : b = p.1 := by simpa using hb
      rintro rfl
      exact h (e ▸ ha)
theorem numsOf_snoc (o : List (Str × Nat)) (p : Str × Nat) (x : Str) : numsOf (o ++ [p]) x = if p.1 = x then numsOf o x ++ [p.2] else numsOf o x := by
  unfold numsOf
  rw [List.filter_append, List.map_append]
  by_cases h : p.1 = x
  · rw [if_pos h]
    simp [h]
  · rw [if_neg h]
    simp [h]
theorem numsOf_none {o : List (Str × Nat)} {x : Str} (h : x ∉ o.map (·.1)) : numsOf o x = [] := by
  unfold numsOf
  rw [List.filter_eq_nil_iff.mpr fun p hp e => h (by rw [← of_decide_eq_true e]; exact List.mem_map_of_mem hp)]
  rfl
theorem numsOf_ne {o : List (Str × Nat)} {x : Str} (h : x ∈ o.map (·.1)) : numsOf o x ≠ [] := by
  obtain ⟨p, hp, rfl⟩ := List.mem_map.mp h
  unfold numsOf
  intro e
  rw [List.map_eq_nil_iff, List.filter_eq_nil_iff] at e
  exact e p hp (by simp)
theorem occs_snoc : ∀ (n : Nat) (rs : List Rm) (r : Rm), occs n (rs ++ [r]) = occs n rs ++ r.map (fun x => (x, n + rs.length))
  | n, [], r => by simp [occs]
  | n, s :: rs, r => by
    show s.map _ ++ occs (n + 1) (rs ++ [r]) = (s.map _ ++ occs (n + 1) rs) ++ _
    rw [occs_snoc (n + 1) rs r, List.append_assoc, List.length_cons]
    congr 3
    funext x
    congr 1
    omega
theorem occs_mem {n : Nat} {rs : List Rm} {x : Str} : x ∈ (occs n rs).map (·.1) ↔ ∃ r ∈ rs, x ∈ r := by
  induction rs generalizing n with
  | nil => simp [occs]
  | cons s rs ih =>
    show x ∈ (s.map (fun y => (y, n)) ++ occs (n + 1) rs).map (fun p : Str × Nat => p.1) ↔ _
    rw [List.map_append, List.mem_append, ih, List.map_map]
    simp
/-- the outcomes of rooms -/
def outsOf (rs : List Rm) : List Str := firsts (occs 0 rs)
/-- the numbers of the rooms of x -/
def placesOf (rs : List Rm) (x : Str) : List Nat := numsOf (occs 0 rs) x
theorem mem_outsOf {rs : List Rm} {x : Str} : x ∈ outsOf rs ↔ ∃ r ∈ rs, x ∈ r := (mem_firsts _ _).trans occs_mem
/-- the rooms of a book -/
structure RoomsOk (rs : List Rm) : Prop where
  few : 1 ≤ rs.length ∧ rs.length ≤ 10
  ok : ∀ r ∈ rs, RoomOk r
  one : rs.Pairwise (fun r s => (common s r).length ≤ 1)
  most : (outsOf rs).length ≤ 24
end RK


set_option Elab.async false
set_option linter.all false
set_option maxRecDepth 100000
/-! a text some times -/
namespace RK
open PySem PySem.Spec PyProof.Rows L2
theorem wpi (P : Program) (w : World) : True := trivial
def repS (z : Str) (k : Int) : Str := { cps := List.foldl (fun x1 x2 => x1 ++ x2) #[] (List.replicate k.toNat z.cps) }
theorem rep_size (z : Array Nat) : ∀ (n : Nat) (a : Array Nat), ((List.replicate n z).foldl (fun x1 x2 => x1 ++ x2) a).size = a.size + n * z.size
  | 0, a => by simp
  | n + 1, a => by
    rw [List.replicate_succ, List.foldl_cons, rep_size z n, Array.size_append, Nat.add_mul, Nat.one_mul]
    omega
theorem rep_list (z : Array Nat) : ∀ (n : Nat) (a : Array Nat), ((List.replicate n z).foldl (fun x1 x2 => x1 ++ x2) a).toList = a.toList ++ (List.replicate n z.toList).flatten
  | 0, a => by simp
  | n + 1, a => by
    rw [List.replicate_succ, List.foldl_cons, rep_list z n, Array.toList_append, List.replicate_succ, List.flatten_cons, List.append_assoc]
theorem rep_len {z : Str} {k : Int} (h : k ≤ 100) (hz : z.length ≤ 1000) : (repS z k).length ≤ 100000 := by
  show ((List.replicate k.toNat z.cps).foldl (fun x1 x2 => x1 ++ x2) #[]).size ≤ 100000
  rw [rep_size]
  have : k.toNat * z.cps.size ≤ 100 * 1000 := Nat.mul_le_mul (by omega) hz
  simp only [List.size_toArray, List.length_nil]
  omega
theorem op_repS {X : Cx} : OpR X (binaryOp .Mult) (fun x y H Q => ∃ z k, x = .str z ∧ y = .int k ∧ 2 ≤ k ∧ k ≤ 100 ∧ 1 ≤ z.length ∧ z.length ≤ 1000 ∧ Q (.str (repS z k)) H) := by
  intro pins s σ H x y v u Q I rx ry h
  obtain ⟨z, k, rfl, rfl, k2, k9, z1, z9, q⟩ := h
  obtain ⟨t, rfl⟩ : ∃ t, v = .str z t := rx
  obtain ⟨tu, rfl⟩ : ∃ t, u = .int k t := ry
  refine wpAny_binaryOp_repeat (T := "str") (U := "int") (id := "str.__mul__") (idr := "int.__rmul__") (by decide) ?_ ?_ noFill_str_mul F.fills_int_mul F.slot_int_rmul repeat_str int_index ?_
  · exact fun s' => rfl
  · exact fun s' => rfl
  · refine call_gives F.slot_int_rmul rfl F.entry_int_rmul (F.args_int_rmul_2 _ _) (AutoIntG1.int___rmul___int_str_0 k tu z t) ⟨rfl, ?_⟩
    have kk : ¬ k < 1 := by omega
    have k1 : (k == 1 || z.length == 0) = false := by
      rw [Bool.or_eq_false_iff]
      exact ⟨beq_eq_false_iff_ne.mpr (by omega), beq_eq_false_iff_ne.mpr (by omega)⟩
    have g := gives_str_mul z k t tu (by rw [Bool.or_eq_false_iff]; exact ⟨decide_eq_false (by omega), decide_eq_false (by omega)⟩)
      (fun _ _ h => by
        have h2 : (2 ^ 63 - 1 : Int) / k ≥ 1001 := (Int.le_ediv_iff_mul_le (by omega)).mpr (by omega)
        omega) (fun _ _ => by
        have : z.length * k.toNat ≤ 1000 * 100 := Nat.mul_le_mul z9 (by omega)
        exact decide_eq_false (Nat.not_lt.mpr (Nat.le_trans this (by decide))))
    rw [if_neg kk, if_neg (by rw [k1]; exact Bool.false_ne_true)] at g
    refine call_gives F.slot_str_mul rfl F.entry_str_mul (F.args_str_mul_2 _ _) g ?_
    refine ⟨?_, .str (repS z k), H, I.kept fun _ _ z => z, ⟨_, rfl⟩, q⟩
    exact Nat.le_trans (rep_len (by omega) z9) (by decide)
end RK


set_option Elab.async false
set_option linter.all false
set_option maxRecDepth 100000
/-! names that are made letter by letter -/
namespace RK
open PySem PySem.Spec PyProof.Rows L2
def LowS (x : Str) : Prop := ∀ c ∈ x.cps.toList, lowB c = true
abbrev lettersS : Str := "abcdefghijklmnopqrstuvwxyz"
theorem lets_list : lettersS.cps.toList = [97, 98, 99, 100, 101, 102, 103, 104, 105, 106, 107, 108, 109, 110, 111, 112, 113, 114, 115, 116, 117, 118, 119, 120, 121, 122] := by decide +kernel
theorem let_at : ∀ d < 26, lettersS.cps.toList[d]? = some (97 + d) := by rw [lets_list]; decide
theorem lets_len : lettersS.cps.size = 26 := by decide +kernel
theorem ix_letter {d : Nat} {H : Hp} {Q : VK} (h : d < 26) (q : Q (.str ⟨#[97 + d]⟩) H) : rIxS (.str lettersS) (.int (d : Int)) H Q :=
  ⟨lettersS, _, 97 + d, rfl, rfl, (by rw [show lettersS.length = 26 from lets_len]; decide), atI_nat (let_at d h), q⟩
theorem low_one {d : Nat} (h : d < 26) : LowS ⟨#[97 + d]⟩ := fun c hc => by
  have e : c = 97 + d := by simpa using hc
  rw [e]
  unfold lowB
  rw [Bool.and_eq_true, decide_eq_true_eq, decide_eq_true_eq]
  omega
theorem low_empty : LowS ("" : Str) := fun c hc => by
  rw [show ("" : Str).cps.toList = [] from by decide +kernel] at hc
  exact absurd hc List.not_mem_nil
theorem app_list (x y : Str) : (x ++ y).cps.toList = x.cps.toList ++ y.cps.toList := by
  show (x.cps ++ y.cps).toList = _
  simp
theorem app_len (x y : Str) : (x ++ y).length = x.length + y.length := by
  show (x.cps ++ y.cps).size = _
  simp [Str.length]
theorem low_app {x y : Str} (h : LowS x) (k : LowS y) : LowS (x ++ y) := fun c hc => by
  rw [app_list] at hc
  exact (List.mem_append.mp hc).elim (h c) (k c)
theorem cut_list (x : Str) : (cutS x none (some 4)).cps.toList = x.cps.toList.take 4 := by
  unfold cutS
  rw [HT.sIx_none, show (4 : Int) = ((4 : Nat) : Int) from rfl, HT.sIx_nat, List.drop_zero, Nat.sub_zero]
  show List.take (min 4 x.length) x.cps.toList = _
  by_cases h : 4 ≤ x.length
  · rw [Nat.min_eq_left h]
  · rw [Nat.min_eq_right (by omega), List.take_of_length_le (by show x.cps.toList.length ≤ x.length; exact Nat.le_of_eq (Array.length_toList)), List.take_of_length_le]
    have : x.cps.toList.length = x.length := Array.length_toList
    omega
theorem nodup_sub_len : ∀ {S L : List Str}, S.Nodup → (∀ x ∈ S, x ∈ L) → S.length ≤ L.length
  | [], L, _, _ => Nat.zero_le _
  | x :: S, L, nd, h => by
    rw [List.nodup_cons] at nd
    have hx := h x List.mem_cons_self
    have := nodup_sub_len (S := S) (L := L.erase x) nd.2 fun y hy => (List.mem_erase_of_ne (fun e => nd.1 (by rw [← e]; exact hy))).mpr (h y (List.mem_cons_of_mem _ hy))
    rw [List.length_erase_of_mem hx] at this
    have hl : 0 < L.length := List.length_pos_of_mem hx
    rw [List.length_cons]
    omega
def Fresh (found : List Str) (i : Nat) (w : Str) : Prop := w ∉ found ∨ ∃ S : List Str, S.Nodup ∧ S.length = i ∧ (∀ x ∈ S, x ∈ found) ∧ ∀ x ∈ S, ∃ j, j < i ∧ x.cps.toList.getLast? = some (97 + j)
def nextW (found : List Str) (i : Nat) (w : Str) : Str := if w ∈ found then cutS w none (some 4) ++ ⟨#[97 + i]⟩ else w
theorem fresh_step {found : List Str} {i : Nat} {w : Str} (h : Fresh found i w) : Fresh found (i + 1) (nextW found i w) := by
  unfold nextW
  split
  · rename_i hw
    rcases h with h | ⟨S, nd, sl, sf, sj⟩
    · exact absurd hw h
    · by_cases hn : cutS w none (some 4) ++ ⟨#[97 + i]⟩ ∈ found
      · have hlast : (cutS w none (some 4) ++ (⟨#[97 + i]⟩ : Str)).cps.toList.getLast? = some (97 + i) := by
          rw [app_list]
          simp
        refine .inr ⟨S ++ [cutS w none (some 4) ++ ⟨#[97 + i]⟩], ?_, ?_, ?_, ?_⟩
        · rw [List.nodup_append]
          refine ⟨nd, by simp, fun a ha b hb => ?_⟩
          obtain rfl := List.mem_singleton.mp hb
          obtain ⟨j, hj, ej⟩ := sj a ha
          intro e
          rw [e, hlast] at ej
          have := Option.some.inj ej
          omega
        · rw [List.length_append, sl]
          rfl
        · intro x hx
          rcases List.mem_append.mp hx with hx | hx
          · exact sf x hx
          · rw [List.mem_singleton.mp hx]
            exact hn
        · intro x hx
          rcases List.mem_append.mp hx with hx | hx
          · obtain ⟨j, hj, ej⟩ := sj x hx
            exact ⟨j, by omega, ej⟩
          · rw [List.mem_singleton.mp hx]
            exact ⟨i, by omega, hlast⟩
      · exact .inl hn
  · rename_i hw
    exact .inl hw
theorem fresh_zero (found : List Str) (w : Str) : Fresh found 0 w := .inr ⟨[], List.nodup_nil, rfl, fun _ h => absurd h List.not_mem_nil, fun _ h => absurd h List.not_mem_nil⟩
theorem fresh_end {found : List Str} {w : Str} (h : Fresh found 26 w) (hl : found.length < 26) : w ∉ found := by
  rcases h with h | ⟨S, nd, sl, sf, _⟩
  · exact h
  · have := nodup_sub_len nd sf
    omega
/-- a name in the making -/
def Word (w : Str) : Prop := 1 ≤ w.length ∧ w.length ≤ 5 ∧ LowS w
theorem Word.name {w : Str} (h : Word w) : NameOk w := h
theorem len_list (x : Str) : x.length = x.cps.toList.length := Array.length_toList.symm
theorem word_next {found : List Str} {i : Nat} {w : Str} (hi : i < 26) (h : Word w) : Word (nextW found i w) := by
  unfold nextW
  split
  · refine ⟨?_, ?_, low_app (fun c hc => ?_) (low_one hi)⟩
    · rw [app_len]
      show 1 ≤ _ + 1
      omega
    · rw [app_len, len_list (cutS _ _ _), cut_list, List.length_take]
      show min 4 _ + 1 ≤ 5
      omega
    · rw [cut_list] at hc
      exact h.2.2 c (List.mem_of_mem_take hc)
  · exact h
theorem low_rep {z : Str} (h : LowS z) : LowS (repS z 2) ∧ (repS z 2).length = 2 * z.length := by
  have e : (repS z 2).cps.toList = z.cps.toList ++ z.cps.toList := by
    show ((List.replicate 2 z.cps).foldl (fun x1 x2 => x1 ++ x2) #[]).toList = _
    rw [rep_list]
    simp
  refine ⟨fun c hc => ?_, ?_⟩
  · rw [e] at hc
    exact (List.mem_append.mp hc).elim (h c) (h c)
  · rw [len_list, e, List.length_append, len_list]
    omega
theorem glue_list (rest : List Str) : ∀ a : Array Nat, (rest.foldl (fun acc (p : Str) => acc ++ (Str.empty).cps ++ p.cps) a).toList = a.toList ++ (rest.map fun p => p.cps.toList).flatten := by
  induction rest with
  | nil => intro a; simp
  | cons p r ih =>
    intro a
    rw [List.foldl_cons, ih]
    simp [Str.empty]
theorem join_list (ys : List Str) : (Txt.join ("" : Str) ys).cps.toList = (ys.map fun p => p.cps.toList).flatten := by
  cases ys with
  | nil => rfl
  | cons y r =>
    show (r.foldl (fun acc (p : Str) => acc ++ (Str.empty).cps ++ p.cps) y.cps).toList = _
    rw [glue_list]
    rfl
theorem join_word {ys : List Str} (h : ∀ y ∈ ys, LowS y ∧ y.length = 1) : LowS (Txt.join ("" : Str) ys) ∧ (Txt.join ("" : Str) ys).length = ys.length := by
  rw [len_list]
  unfold LowS
  rw [join_list]
  induction ys with
  | nil => exact ⟨fun c hc => absurd hc (by simp), rfl⟩
  | cons y r ih =>
    obtain ⟨i1, i2⟩ := ih fun z hz => h z (List.mem_cons_of_mem _ hz)
    obtain ⟨y1, y2⟩ := h y List.mem_cons_self
    rw [List.map_cons, List.flatten_cons]
    refine ⟨fun c hc => (List.mem_append.mp hc).elim (y1 c) (i1 c), ?_⟩
    rw [List.length_append, i2, ← len_list, y2, List.length_cons]
    omega
theorem ones_sum {ys : List Str} (h : ∀ y ∈ ys, LowS y ∧ y.length = 1) : (ys.map fun y => y.length).sum = ys.length := by
  induction ys with
  | nil => rfl
  | cons y r ih =>
    rw [List.map_cons, List.sum_cons, ih fun z hz => h z (List.mem_cons_of_mem _ hz), (h y List.mem_cons_self).2, List.length_cons]
    omega
end RK


set_option Elab.async false
set_option linter.all false
set_option maxRecDepth 100000
/-! texts of rooms: lines, words, joined rooms -/
namespace RK
open PySem PySem.Spec PyProof.Rows L2 TL
/-! ### a list of signs, cut at one sign -/
theorem pre_hit {c : Nat} {b : List Nat} : pre [c] (c :: b) = true := by
  show ([c] == [c]) = true
  exact beq_self_eq_true _
theorem pre_miss {c x : Nat} {b : List Nat} (h : ¬ x = c) : pre [c] (x :: b) = false := by
  show ([x] == [c]) = false
  exact beq_eq_false_iff_ne.mpr fun z => h (List.cons.inj z).1
theorem spl_app {c : Nat} {b : List Nat} : ∀ (a acc : List Nat), spl [c] 0 acc (a ++ c :: b) = spl [c] 0 acc a ++ spl [c] 0 [] b
  | [], acc => by
    rw [List.nil_append, spl_hit pre_hit, spl_nil]
    rfl
  | x :: a, acc => by
    by_cases h : x = c
    · subst h
      rw [List.cons_append, spl_hit pre_hit, spl_hit pre_hit, List.cons_append]
      exact congrArg (acc :: ·) (spl_app a [])
    · rw [List.cons_append, spl_miss (pre_miss h), spl_miss (pre_miss h)]
      exact spl_app a (acc ++ [x])
/-- the words between blanks -/
def wl (l : List Nat) : List (List Nat) := (spl [32] 0 [] l).filter fun p => !p.isEmpty
theorem wl_app (a b : List Nat) : wl (a ++ 32 :: b) = wl a ++ wl b := by
  unfold wl
  rw [spl_app, List.filter_append]
theorem wl_nil : wl [] = [] := rfl
theorem wl_cons (b : List Nat) : wl (32 :: b) = wl b := wl_app [] b
theorem wl_word {w : List Nat} (h : w ≠ []) (n : 32 ∉ w) : wl w = [w] := by
  unfold wl
  rw [spl_last1 n, List.nil_append]
  cases w with
  | nil => exact absurd rfl h
  | cons x w => rfl
theorem wl_last (a : List Nat) : wl (a ++ [32]) = wl a := by rw [wl_app, wl_nil, List.append_nil]
/-- what stands behind it is words of its own -/
def Closed (a : List Nat) : Prop := ∀ b, wl (a ++ b) = wl a ++ wl b
theorem closed_nil : Closed [] := fun b => rfl
theorem closed_bl (a : List Nat) : Closed (a ++ [32]) := fun b => by
  rw [List.append_assoc, wl_last]
  exact wl_app a b
theorem wl_rep (b : List Nat) : ∀ k : Nat, wl (List.replicate k 32 ++ b) = wl b
  | 0 => rfl
  | k + 1 => by
    rw [List.replicate_succ, List.cons_append, wl_cons]
    exact wl_rep b k
theorem closed_rep (k : Nat) : Closed (List.replicate k 32) := fun b => by
  have := wl_rep [] k
  rw [List.append_nil] at this
  rw [wl_rep, this]
  rfl
/-- a word and one blank or more behind what is closed -/
theorem closed_add {a w : List Nat} {m : Nat} (ha : Closed a) (h : w ≠ []) (n : 32 ∉ w) (hm : 1 ≤ m) : Closed (a ++ w ++ List.replicate m 32) ∧ wl (a ++ w ++ List.replicate m 32) = wl a ++ [w] ∧ ∃ l, a ++ w ++ List.replicate m 32 = l ++ [32] := by
  obtain ⟨m, rfl⟩ : ∃ k, m = k + 1 := ⟨m - 1, by omega⟩
  have e : a ++ w ++ List.replicate (m + 1) 32 = (a ++ w ++ List.replicate m 32) ++ [32] := by rw [List.replicate_succ', List.append_assoc, List.append_assoc, List.append_assoc]
  refine ⟨by rw [e]; exact closed_bl _, ?_, _, e⟩
  rw [List.append_assoc, ha, List.replicate_succ, wl_app, wl_word h n]
  have := wl_rep [] m
  rw [List.append_nil] at this
  rw [this, wl_nil]
  rfl
/-! ### the same of texts -/
def blS : Str := Str.ofString " "
def nlS : Str := Str.ofString "\n"
theorem tl_bl : tl blS = [32] := by decide +kernel
theorem tl_nl : tl nlS = [10] := by decide +kernel
theorem k_bl : blS.cps.all (· < 256) = true := by decide +kernel
theorem k_nl : nlS.cps.all (· < 256) = true := by decide +kernel
def wdsOf (x : Str) : List Str := (Txt.split x blS).filter fun y => ((y.length : Int) != 0)
theorem words_tl (x : Str) : (wdsOf x).map tl = wl (tl x) := by
  unfold wdsOf wl
  have e := split_spl x blS (by rw [tl_bl]; simp) (kind_ok k_bl)
  rw [tl_bl] at e
  rw [← e, List.filter_map]
  congr 1
  refine List.filter_congr fun y _ => ?_
  have hl := len_tl y
  rw [Bool.eq_iff_iff]
  constructor
  · intro h
    show (!(tl y).isEmpty) = true
    rw [Bool.not_eq_true', List.isEmpty_eq_false_iff]
    intro z
    rw [z] at hl
    rw [hl] at h
    exact absurd h (by decide)
  · intro h
    have h : (!(tl y).isEmpty) = true := h
    rw [Bool.not_eq_true', List.isEmpty_eq_false_iff] at h
    rw [bne_iff_ne]
    intro z
    have : (tl y).length = 0 := by omega
    exact h (List.length_eq_zero_iff.mp this)
theorem spl_len {c : Nat} {p : List Nat} : ∀ (l acc : List Nat), p ∈ spl [c] 0 acc l → p.length ≤ acc.length + l.length
  | [], acc, h => by
    rw [spl_nil, List.mem_singleton] at h
    rw [h]
    omega
  | x :: l, acc, h => by
    by_cases e : x = c
    · subst e
      rw [spl_hit pre_hit] at h
      rcases List.mem_cons.mp h with h | h
      · rw [h]; omega
      · have := spl_len l [] h
        simp only [List.length_nil, List.length_cons] at this ⊢
        omega
    · rw [spl_miss (pre_miss e)] at h
      have := spl_len l (acc ++ [x]) h
      simp only [List.length_append, List.length_cons, List.length_nil] at this ⊢
      omega
theorem part_len {x y : Str} (h : y ∈ Txt.split x blS) : y.length ≤ x.length := by
  have e := split_spl x blS (by rw [tl_bl]; simp) (kind_ok k_bl)
  rw [tl_bl] at e
  have := spl_len (c := 32) (p := tl y) (tl x) [] (by rw [← e]; exact List.mem_map_of_mem h)
  rw [len_tl, len_tl]
  simpa using this
/-- a line of a room -/
structure LineOf (x : Str) (r : Rm) : Prop where
  perm : (wdsOf x).Perm r
  one : 10 ∉ tl x
  len : x.length ≤ 100
theorem name_facts {x : Str} (h : NameOk x) : tl x ≠ [] ∧ 32 ∉ tl x ∧ 10 ∉ tl x := by
  have hl := len_tl x
  refine ⟨fun z => ?_, fun z => ?_, fun z => ?_⟩
  · rw [z] at hl
    have := h.1
    rw [hl] at this
    exact absurd this (by decide)
  · exact absurd (h.2.2 32 z) (by decide)
  · exact absurd (h.2.2 10 z) (by decide)
/-! ### joined rooms -/
theorem join_flat {c : Nat} : ∀ {L : List (List Nat)}, L ≠ [] → L.flatMap (fun p => p ++ [c]) = joinL [c] L ++ [c]
  | [], h => absurd rfl h
  | [p], _ => by
    rw [List.flatMap_cons, List.flatMap_nil, List.append_nil]
    rfl
  | p :: q :: r, _ => by
    rw [List.flatMap_cons, join_flat (L := q :: r) (by simp)]
    show p ++ [c] ++ (joinL [c] (q :: r) ++ [c]) = p ++ ([c] ++ joinL [c] (q :: r)) ++ [c]
    simp
def roomS (r : Rm) : Str := Txt.join blS r
def shownS (rms : List Rm) : Str := Txt.join nlS (rms.map roomS)
theorem tl_roomS (r : Rm) : tl (roomS r) = joinL [32] (r.map tl) := by
  unfold roomS
  rw [join_eq, tl_join, tl_bl]
theorem tl_shownS (rms : List Rm) : tl (shownS rms) = joinL [10] (rms.map fun r => joinL [32] (r.map tl)) := by
  unfold shownS
  rw [join_eq, tl_join, tl_nl, List.map_map]
  congr 1
  exact List.map_congr_left fun r _ => tl_roomS r
theorem mem_joinL {c x : Nat} : ∀ {L : List (List Nat)}, x ∈ joinL [c] L → x = c ∨ ∃ p ∈ L, x ∈ p
  | [], h => absurd h List.not_mem_nil
  | [p], h => .inr ⟨p, List.mem_cons_self, h⟩
  | p :: q :: r, h => by
    have h : x ∈ p ++ ([c] ++ joinL [c] (q :: r)) := h
    rcases List.mem_append.mp h with h | h
    · exact .inr ⟨p, List.mem_cons_self, h⟩
    rcases List.mem_append.mp h with h | h
    · exact .inl (List.mem_singleton.mp h)
    · rcases mem_joinL h with h | ⟨z, hz, hx⟩
      · exact .inl h
      · exact .inr ⟨z, List.mem_cons_of_mem _ hz, hx⟩
theorem wl_join : ∀ {L : List (List Nat)}, (∀ p ∈ L, p ≠ [] ∧ 32 ∉ p) → wl (joinL [32] L) = L
  | [], _ => rfl
  | [p], h => wl_word (h p List.mem_cons_self).1 (h p List.mem_cons_self).2
  | p :: q :: r, h => by
    have e : joinL [32] (p :: q :: r) = p ++ 32 :: joinL [32] (q :: r) := rfl
    rw [e, wl_app, wl_join fun z hz => h z (List.mem_cons_of_mem _ hz), wl_word (h p List.mem_cons_self).1 (h p List.mem_cons_self).2]
    rfl
theorem len_joinL {c m : Nat} : ∀ {L : List (List Nat)}, (∀ p ∈ L, p.length ≤ m) → (joinL [c] L).length ≤ L.length * (m + 1)
  | [], _ => Nat.zero_le _
  | [p], h => by
    have := h p List.mem_cons_self
    show p.length ≤ 1 * (m + 1)
    omega
  | p :: q :: r, h => by
    have h1 := h p List.mem_cons_self
    have ih := len_joinL (c := c) (L := q :: r) fun z hz => h z (List.mem_cons_of_mem _ hz)
    show (p ++ ([c] ++ joinL [c] (q :: r))).length ≤ (r.length + 1 + 1) * (m + 1)
    rw [List.length_append, List.length_append, List.length_singleton]
    have e : (q :: r).length = r.length + 1 := rfl
    rw [e] at ih
    have : (r.length + 1 + 1) * (m + 1) = (r.length + 1) * (m + 1) + (m + 1) := Nat.succ_mul _ _
    omega
theorem roomS_len {r : Rm} (h : RoomOk r) : (roomS r).length ≤ 30 := by
  rw [len_tl, tl_roomS]
  have := len_joinL (c := 32) (m := 5) (L := r.map tl) fun p hp => by
    obtain ⟨x, hx, rfl⟩ := List.mem_map.mp hp
    rw [← len_tl]
    exact (h.2.2.1 x hx).2.1
  rw [List.length_map] at this
  have h5 := h.2.1
  omega
theorem line_roomS {r : Rm} (h : RoomOk r) : LineOf (roomS r) r := by
  have hf : ∀ p ∈ r.map tl, p ≠ [] ∧ 32 ∉ p := fun p hp => by
    obtain ⟨x, hx, rfl⟩ := List.mem_map.mp hp
    exact ⟨(name_facts (h.2.2.1 x hx)).1, (name_facts (h.2.2.1 x hx)).2.1⟩
  have e : wdsOf (roomS r) = r := map_tl_inj (by rw [words_tl, tl_roomS, wl_join hf])
  refine ⟨by rw [e], fun z => ?_, ?_⟩
  · rw [tl_roomS] at z
    rcases mem_joinL z with z | ⟨p, hp, z⟩
    · exact absurd z (by decide)
    · obtain ⟨x, hx, rfl⟩ := List.mem_map.mp hp
      exact (name_facts (h.2.2.1 x hx)).2.2 z
  · have := roomS_len h
    omega
/-- a text of lines -/
def TextOf (x : Str) (rms : List Rm) : Prop := ∃ ls : List Str, Txt.split x nlS = ls ∧ ls.length = rms.length ∧ (∀ (i : Nat) (y : Str) (r : Rm), ls[i]? = some y → rms[i]? = some r → LineOf y r) ∧ x.length ≤ 100000
theorem text_join {ls : List Str} {rms : List Rm} (h0 : ls ≠ []) (hl : ls.length = rms.length) (h10 : ls.length ≤ 10) (h : ∀ (i : Nat) (y : Str) (r : Rm), ls[i]? = some y → rms[i]? = some r → LineOf y r) : TextOf (Txt.join nlS ls) rms := by
  have lo : ∀ y ∈ ls, ∃ r, LineOf y r := fun y hy => by
    obtain ⟨i, hi, e⟩ := List.getElem_of_mem hy
    exact ⟨rms[i]'(by omega), h i y _ (by rw [List.getElem?_eq_getElem hi, e]) (List.getElem?_eq_getElem (by omega))⟩
  refine ⟨ls, split_join tl_nl k_nl h0 fun p hp => ?_, hl, h, ?_⟩
  · obtain ⟨r, hr⟩ := lo p hp
    exact hr.one
  · rw [len_tl, join_eq, tl_join, tl_nl]
    have := len_joinL (c := 10) (m := 100) (L := ls.map tl) fun p hp => by
      obtain ⟨x, hx, rfl⟩ := List.mem_map.mp hp
      obtain ⟨r, hr⟩ := lo x hx
      rw [← len_tl]
      exact hr.len
    rw [List.length_map] at this
    omega
theorem text_shown {rms : List Rm} (h0 : rms ≠ []) (h10 : rms.length ≤ 10) (h : ∀ r ∈ rms, RoomOk r) : TextOf (shownS rms) rms := by
  refine text_join (fun z => h0 (List.map_eq_nil_iff.mp z)) (by rw [List.length_map]) (by rw [List.length_map]; exact h10) fun i y r hy hr => ?_
  rw [List.getElem?_map, hr] at hy
  obtain rfl := Option.some.inj hy
  exact line_roomS (h r (List.mem_of_getElem? hr))
/-! ### a text so many times, none and once too -/
theorem repS_list (z : Str) (k : Nat) : tl (repS z (k : Int)) = (List.replicate k (tl z)).flatten := by
  show ((List.replicate ((k : Int)).toNat z.cps).foldl (fun x1 x2 => x1 ++ x2) #[]).toList = _
  rw [rep_list]
  rfl
theorem repS_bl (k : Nat) : tl (repS blS (k : Int)) = List.replicate k 32 := by
  rw [repS_list, tl_bl]
  induction k with
  | zero => rfl
  | succ k ih => rw [List.replicate_succ, List.flatten_cons, ih]; rfl
theorem op_rep0 {X : Cx} : OpR X (binaryOp .Mult) (fun x y H Q => ∃ (z : Str) (k : Nat), x = .str z ∧ y = .int (k : Int) ∧ k ≤ 100 ∧ 1 ≤ z.length ∧ z.length ≤ 1000 ∧ Q (.str (repS z (k : Int))) H) := by
  intro pins s σ H x y v u Q I rx ry h
  obtain ⟨z, k, rfl, rfl, k9, z1, z9, q⟩ := h
  by_cases k2 : 2 ≤ k
  · exact op_repS pins s σ H _ _ v u Q I rx ry ⟨z, k, rfl, rfl, by omega, by omega, z1, z9, q⟩
  · obtain ⟨t, rfl⟩ : ∃ t, v = .str z t := rx
    obtain ⟨tu, rfl⟩ : ∃ t, u = .int (k : Int) t := ry
    refine wpAny_binaryOp_repeat (T := "str") (U := "int") (id := "str.__mul__") (idr := "int.__rmul__") (by decide) ?_ ?_ noFill_str_mul F.fills_int_mul F.slot_int_rmul repeat_str int_index ?_
    · exact fun s' => rfl
    · exact fun s' => rfl
    · refine call_gives F.slot_int_rmul rfl F.entry_int_rmul (F.args_int_rmul_2 _ _) (AutoIntG1.int___rmul___int_str_0 (k : Int) tu z t) ⟨rfl, ?_⟩
      have g := gives_str_mul z (k : Int) t tu (by rw [Bool.or_eq_false_iff]; exact ⟨decide_eq_false (by omega), decide_eq_false (by omega)⟩)
        (fun h1 h2 => by
          rw [Bool.or_eq_false_iff, beq_eq_false_iff_ne] at h2
          omega) (fun h1 h2 => by
          rw [Bool.or_eq_false_iff, beq_eq_false_iff_ne] at h2
          omega)
      by_cases k0 : k = 0
      · subst k0
        rw [if_pos (by decide)] at g
        have e : repS z ((0 : Nat) : Int) = Str.empty := rfl
        rw [e] at q
        refine call_gives F.slot_str_mul rfl F.entry_str_mul (F.args_str_mul_2 _ _) g ?_
        exact ⟨by decide, .str Str.empty, H, I.kept fun _ _ z => z, ⟨_, rfl⟩, q⟩
      · have k1 : k = 1 := by omega
        subst k1
        rw [if_neg (by decide), if_pos (by rfl)] at g
        have e : repS z ((1 : Nat) : Int) = z := ext_tl (by rw [repS_list, List.replicate_one, List.flatten_singleton])
        rw [e] at q
        refine call_gives F.slot_str_mul rfl F.entry_str_mul (F.args_str_mul_2 _ _) g ?_
        exact ⟨.str z, H, I.kept fun _ _ z => z, ⟨_, rfl⟩, q⟩
/-! ### rules whose K is told -/
theorem pe_joinK {X : Cx} (K : PySem.W.Frag) {o e : Expr} {to te : TE} {apos pos : Pos} (ho : PE X o to) (he : PE X e te) (hs : starEach [e] X.env = [(false, eval e X.env)] := by rfl) (hbase : attributeBase o "join" X.env (eval o X.env) = eval o X.env := by rfl) (hline : (apos.endLine == pos.line) = true := by rfl)
    (hK : X.K = K := by rfl) : PE X (.Call (.Attribute o "join" apos) [e] [] pos) (tM1 (fun x xs H Q => ∃ a p, ∃ ys : List Str, x = .str a ∧ xs = [.ref p] ∧ (SqL K H p (ys.map V.str) ∨ SqT K H p (ys.map V.str)) ∧
      (ys.map (·.length)).sum + ys.length * a.length ≤ 16777216 ∧ Q (.str (Txt.join a ys)) H) to te) := by
  subst hK
  exact pe_join ho he hs hbase hline
def rTupOf (K : PySem.W.Frag) : List V → Hp → VK → Prop := fun xs H Q => ∃ p ys, xs = [.ref p] ∧ ((SqL K H p ys ∧ ∀ l, H l = none → Q (.ref l) (upd H l (.tup ys))) ∨ (SqT K H p ys ∧ Q (.ref p) H))
theorem call_tupK {X : Cx} : CallR X (.type "tuple") (rTupOf X.K) := call_tuple_of
def tTruK (K : PySem.W.Frag) (ta : TE) : TT := fun σ H Q => ta σ H fun x H' => ∃ k, TruV K x H' k ∧ Q k H'
theorem pt_truthK {X : Cx} (K : PySem.W.Frag) {a : Expr} {ta : TE} (ha : PE X a ta) (he : ∀ whole, isTrue a X.env whole = (do let v ← whole; standAt a.pos; holding [v] (truthy v)) := by intro _; rfl) (hK : X.K = K := by rfl) :
    PT X a (tTruK K ta) := by
  subst hK
  exact pt_truth ha he
end RK


set_option Elab.async false
set_option linter.all false
set_option maxRecDepth 100000
set_option maxHeartbeats 1000000
/-! PD2: what an expression tells: readings by data, rules for expressions and tests. -/
namespace PD
open PySem PySem.Spec PyProof.Rows L2 RK
/-- an expression's value: data, or the object that a slot owns -/
inductive RV where
  | d (x : D) | at (i : Nat)
inductive EC where
  | own (c : Str) | blt (n : String)
inductive Res (α : Type) where
  | ok (a : α) (e : Ev) | err (c : EC) (x : Option D) (e : Ev) | bad
def Res.bind {α β : Type} (r : Res α) (g : α → Ev → Res β) : Res β :=
  match r with
  | .ok a e => g a e
  | .err c x e => .err c x e
  | .bad => .bad
@[simp] theorem Res.bind_ok {α β : Type} (a : α) (e : Ev) (g : α → Ev → Res β) : (Res.ok a e).bind g = g a e := rfl
@[simp] theorem Res.bind_err {α β : Type} (c : EC) (x : Option D) (e : Ev) (g : α → Ev → Res β) : (Res.err c x e).bind g = .err c x e := rfl
@[simp] theorem Res.bind_bad {α β : Type} (g : α → Ev → Res β) : (Res.bad).bind g = .bad := rfl
def slD : Option Sl → Option D
  | some (.own d) => some d
  | _ => none
def de (e : Ev) : RV → Option D
  | .d x => some x
  | .at i => match slD e[i]? with
    | some d => if isTup d = true then none else some d
    | none => none
def des (e : Ev) : List RV → Option (List D)
  | [] => some []
  | x :: xs => match de e x, des e xs with
    | some d, some ds => some (d :: ds)
    | _, _ => none
def pures : List RV → Option (List D)
  | [] => some []
  | .d x :: xs => match pures xs with
    | some ds => some (x :: ds)
    | none => none
  | .at _ :: _ => none
def ofOpt {α : Type} (o : Option α) (e : Ev) : Res α := match o with
  | some z => .ok z e
  | none => .bad
@[simp] theorem ofOpt_some {α : Type} (z : α) (e : Ev) : ofOpt (some z) e = .ok z e := rfl
@[simp] theorem ofOpt_none {α : Type} (e : Ev) : (ofOpt none e : Res α) = .bad := rfl
def VR (k : Kn) (G : Hp) (σ : L2.St) : RV → V → Prop
  | .d x, v => Rep k G x v
  | .at i, v => σ[i]? = some (some v)
def VRs (k : Kn) (G : Hp) (σ : L2.St) : List RV → List V → Prop
  | [], vs => vs = []
  | x :: xs, vs => ∃ v ws, vs = v :: ws ∧ VR k G σ x v ∧ VRs k G σ xs ws
def ExcAt (k : Kn) (B G H : Hp) (c : EC) (x : Option D) (cls : Value) (dd : Option Addr) : Prop :=
  (match c with | .own n => ∃ C, k.en n = some C ∧ cls = .ref C | .blt n => cls = .type n) ∧
  (match x with | none => True | some y => ∃ n a f v, c = .own n ∧ k.fd n = some f ∧ dd = some a ∧ H a = some (.xd [(f, v)]) ∧ Rep k G y v ∧ B a = none)
theorem ExcAt.base {k : Kn} {B B' G H : Hp} {c : EC} {x : Option D} {cls : Value} {dd : Option Addr} (S : L2.Same B' B) (h : ExcAt k B G H c x cls dd) : ExcAt k B' G H c x cls dd := by
  refine ⟨h.1, ?_⟩
  cases x with
  | none => trivial
  | some y =>
    obtain ⟨n, a, f, v, h1, h2, h3, h4, h5, h6⟩ := h.2
    refine ⟨n, a, f, v, h1, h2, h3, h4, h5, ?_⟩
    cases q : B' a with
    | none => rfl
    | some u => rw [S _ _ q] at h6; cases h6
/-- what is seen grows, by nothing that stands in B -/
structure Gr (B G G' : Hp) : Prop where
  s : L2.Same G G'
  n : ∀ b o, G' b = some o → G b = some o ∨ B b = none
theorem Gr.refl (B G : Hp) : Gr B G G := ⟨L2.Same.refl G, fun _ _ e => .inl e⟩
theorem Gr.trans {B G G1 G2 : Hp} (a : Gr B G G1) (b : Gr B G1 G2) : Gr B G G2 := ⟨a.s.trans b.s, fun c o e => (b.n c o e).elim (fun z => a.n c o z) .inr⟩
theorem Gr.ext {k : Kn} {B G G' H H' : Hp} {e : Ev} {σ : L2.St} (r : ER k B G e σ H) (x : Ext G H G' H') : Gr B G G' := ⟨x.gg, fun b o q => (x.nw b o q).elim .inl fun h => .inr (by
  cases z : B b with
  | none => rfl
  | some u => rw [r.bs _ _ z] at h; cases h)⟩
theorem Gr.base {B B' G G' : Hp} (S : L2.Same B' B) (a : Gr B G G') : Gr B' G G' := ⟨a.s, fun b o e => (a.n b o e).elim .inl fun h => .inr (by
  cases z : B' b with
  | none => rfl
  | some u => rw [S _ _ z] at h; cases h)⟩
/-- what is to hold behind a result -/
def PostR {α : Type} (k : Kn) (B : Hp) (σ : L2.St) (W : WX) (P : Hp → Hp → Ev → α → Prop) (G : Hp) : Res α → Prop
  | .ok x e' => ∀ G' H', ER k B G' e' σ H' → Gr B G G' → P G' H' e' x
  | .err c x e' => ∀ G' H' cls dd, ER k B G' e' σ H' → ExcAt k B G' H' c x cls dd → Gr B G G' → W cls dd σ H'
  | .bad => False
/-- .. of a new object that nobody else knows -/
def PostN (k : Kn) (B : Hp) (σ : L2.St) (W : WX) (Q : VK) (G : Hp) : Res D → Prop
  | .ok z e' => ∀ G' H' a o, ER k (upd B a o) G' e' σ H' → Gr B G G' → B a = none → G' a = none → NodeO k G' z o → Q (.ref a) H'
  | .err c x e' => ∀ G' H' cls dd, ER k B G' e' σ H' → ExcAt k B G' H' c x cls dd → Gr B G G' → W cls dd σ H'
  | .bad => False
def tD (k : Kn) (W : WX) (f : Ev → Res RV) : TE := fun σ H Q => ∃ B G e, ER k B G e σ H ∧ PostR k B σ W (fun G' H' _ x => ∀ v, VR k G' σ x v → Q v H') G (f e)
def tQ (k : Kn) (W : WX) (f : Ev → Res Bool) : TT := fun σ H Q => ∃ B G e, ER k B G e σ H ∧ PostR k B σ W (fun _ H' _ b => Q b H') G (f e)
def tL (k : Kn) (W : WX) (f : Ev → Res (List RV)) : TA := fun σ H Q => ∃ B G e, ER k B G e σ H ∧ PostR k B σ W (fun G' H' _ xs => ∀ vs, VRs k G' σ xs vs → Q vs H') G (f e)
def tN (k : Kn) (W : WX) (f : Ev → Res D) : TE := fun σ H Q => ∃ B G e, ER k B G e σ H ∧ PostN k B σ W Q G (f e)
theorem _root_.L2.PE.weak {X : Cx} {e : Expr} {t t' : TE} (h : PE X e t) (w : ∀ σ H Q, t' σ H Q → t σ H Q) : PE X e t' := ⟨fun pins s σ H Q I q => h.run pins s σ H Q I (w _ _ _ q)⟩
theorem _root_.L2.PT.weak {X : Cx} {e : Expr} {t t' : TT} (h : PT X e t) (w : ∀ σ H Q, t' σ H Q → t σ H Q) : PT X e t' := ⟨fun pins s σ H Q I q => h.run pins s σ H Q I (w _ _ _ q)⟩
theorem _root_.L2.PW.weak {X : Cx} {e : Expr} {t t' : TT} (h : PW X e t) (w : ∀ σ H Q, t' σ H Q → t σ H Q) : PW X e t' := ⟨fun wh pins s σ H Q I q => h.run wh pins s σ H Q I (w _ _ _ q)⟩
theorem _root_.L2.PA.weak {X : Cx} {e : List Expr} {t t' : TA} (h : PA X e t) (w : ∀ σ H Q, t' σ H Q → t σ H Q) : PA X e t' := ⟨fun p pins s σ H Q I q => h.run p pins s σ H Q I (w _ _ _ q)⟩
section
variable {k : Kn} {B G G' H : Hp} {e : Ev} {σ : L2.St} {W : WX} {α β : Type}
theorem PostR.imp {P P' : Hp → Hp → Ev → α → Prop} {r : Res α} (h : PostR k B σ W P G r) (w : ∀ G' H' e' x, ER k B G' e' σ H' → Gr B G G' → P G' H' e' x → P' G' H' e' x) : PostR k B σ W P' G r := by
  cases r with
  | ok x e' => exact fun G' H' r S => w G' H' e' x r S (h G' H' r S)
  | err c x e' => exact h
  | bad => exact h
theorem PostR.mono {P : Hp → Hp → Ev → α → Prop} {r : Res α} (S : Gr B G G') (h : PostR k B σ W P G r) : PostR k B σ W P G' r := by
  cases r with
  | ok x e' => exact fun G2 H2 r S2 => h G2 H2 r (S.trans S2)
  | err c x e' => exact fun G2 H2 cls dd r q S2 => h G2 H2 cls dd r q (S.trans S2)
  | bad => exact h
theorem PostN.mono {Q : VK} {r : Res D} (S : Gr B G G') (h : PostN k B σ W Q G r) : PostN k B σ W Q G' r := by
  cases r with
  | ok x e' => exact fun G2 H2 a o r S2 => h G2 H2 a o r (S.trans S2)
  | err c x e' => exact fun G2 H2 cls dd r q S2 => h G2 H2 cls dd r q (S.trans S2)
  | bad => exact h
theorem PostR.bind {P : Hp → Hp → Ev → β → Prop} {r : Res α} {g : α → Ev → Res β} (h : PostR k B σ W P G (r.bind g)) : PostR k B σ W (fun G1 _ e1 x => PostR k B σ W P G1 (g x e1)) G r := by
  cases r with
  | ok x e' => exact fun G1 H1 r S => h.mono S
  | err c x e' => exact h
  | bad => exact h
theorem PostN.bind {Q : VK} {r : Res α} {g : α → Ev → Res D} (h : PostN k B σ W Q G (r.bind g)) : PostR k B σ W (fun G1 _ e1 x => PostN k B σ W Q G1 (g x e1)) G r := by
  cases r with
  | ok x e' => exact fun G1 H1 r S => h.mono S
  | err c x e' => exact h
  | bad => exact h
theorem VR.mono (S : L2.Same G G') {x : RV} {v : V} (h : VR k G σ x v) : VR k G' σ x v := by
  cases x with
  | d x => exact Rep.mono S h
  | «at» i => exact h
theorem VRs.mono (S : L2.Same G G') : ∀ {xs : List RV} {vs : List V}, VRs k G σ xs vs → VRs k G' σ xs vs
  | [], _, h => h
  | _ :: _, _, ⟨v, ws, e, p, q⟩ => ⟨v, ws, e, p.mono S, q.mono S⟩
theorem VR.de (r : ER k B G e σ H) {x : RV} {v : V} {d : D} (h : VR k G σ x v) (q : de e x = some d) : Node k G H d v := by
  cases x with
  | d x =>
    cases q
    exact Rep.node r.vis h
  | «at» i =>
    have h : σ[i]? = some (some v) := h
    have q : (match slD e[i]? with
      | some d => if isTup d = true then none else some d
      | none => none) = some d := q
    cases q2 : e[i]? with
    | none => rw [q2] at q; cases q
    | some s =>
      rw [q2] at q
      cases s with
      | own d' =>
        have q : (if isTup d' = true then none else some d') = some d := q
        cases ht : isTup d' with
        | true => rw [ht, if_pos rfl] at q; cases q
        | false =>
        rw [ht, if_neg Bool.false_ne_true] at q
        cases q
        obtain ⟨a, o, h1, h2, h3, _⟩ := r.own q2
        rw [h] at h1
        cases h1
        exact h3.node h2 ht
      | no => cases q
      | val d => cases q
      | heap zs s => cases q
def Nodes (k : Kn) (G H : Hp) : List D → List V → Prop
  | [], vs => vs = []
  | d :: ds, vs => ∃ v ws, vs = v :: ws ∧ Node k G H d v ∧ Nodes k G H ds ws
theorem VRs.des (r : ER k B G e σ H) : ∀ {xs : List RV} {vs : List V} {ds : List D}, VRs k G σ xs vs → des e xs = some ds → Nodes k G H ds vs
  | [], _, _, h, q => by
    cases q
    exact h
  | x :: xs, _, ds, ⟨v, ws, rfl, p, t⟩, q => by
    unfold PD.des at q
    split at q
    · rename_i d ds' q1 q2
      cases q
      exact ⟨v, ws, rfl, p.de r q1, VRs.des r t q2⟩
    · cases q
theorem VRs.pures : ∀ {xs : List RV} {vs : List V} {ds : List D}, VRs k G σ xs vs → pures xs = some ds → RepAll k G ds vs
  | [], _, _, h, q => by
    cases q
    cases h
    exact .nil
  | .d x :: xs, _, ds, ⟨v, ws, rfl, p, t⟩, q => by
    unfold PD.pures at q
    split at q
    · rename_i ds' q2
      cases q
      exact .cons p (VRs.pures t q2)
    · cases q
  | .at i :: xs, _, _, _, q => by cases q
theorem VRs.len : ∀ {xs : List RV} {vs : List V}, VRs k G σ xs vs → vs.length = xs.length
  | [], _, h => by cases h; rfl
  | x :: xs, _, ⟨v, ws, rfl, _, t⟩ => congrArg (· + 1) (VRs.len t)
end
/-! ### semantics -/
def eVar (i : Nat) : Ev → Res RV := fun e => match e[i]? with
  | some (.val d) => .ok (.d d) e
  | some (.own _) => .ok (.at i) e
  | some (.heap _ _) => .ok (.at i) e
  | _ => .bad
def eC (d : D) : Ev → Res RV := fun e => .ok (.d d) e
def eUn (op : D → Option D) (f : Ev → Res RV) : Ev → Res RV := fun e => (f e).bind fun x e1 => ofOpt ((de e1 x).bind fun d => (op d).map RV.d) e1
def eOp (op : D → D → Option D) (f g : Ev → Res RV) : Ev → Res RV := fun e => (f e).bind fun x e1 => (g e1).bind fun y e2 => ofOpt ((de e2 x).bind fun a => (de e2 y).bind fun b => (op a b).map RV.d) e2
def eOpN (op : D → D → Option D) (f g : Ev → Res RV) : Ev → Res D := fun e => (f e).bind fun x e1 => (g e1).bind fun y e2 => ofOpt ((de e2 x).bind fun a => (de e2 y).bind fun b => op a b) e2
def eChain (op op' : D → D → Option D) (f g h : Ev → Res RV) : Ev → Res RV := fun e => (f e).bind fun x e1 => (g e1).bind fun y e2 => match (de e2 x).bind fun a => (de e2 y).bind fun b => op a b with
  | some (.bl true) => (h e2).bind fun z e3 => ofOpt ((de e3 y).bind fun a => (de e3 z).bind fun b => (op' a b).map RV.d) e3
  | some (.bl false) => .ok (.d (.bl false)) e2
  | _ => .bad
def truthy : D → Option Bool
  | .non => some false
  | .bl b => some b
  | .int i => some (i != 0)
  | .str s => if s.length ≤ sizeLine then some ((s.length : Int) != 0) else none
  | .tup ds => some (!ds.isEmpty)
  | .lst ds => some (!ds.isEmpty)
  | _ => none
def eOr (f g : Ev → Res RV) : Ev → Res RV := fun e => (f e).bind fun x e1 => match (de e1 x).bind truthy with
  | some true => .ok x e1
  | some false => g e1
  | none => .bad
def eAnd (f g : Ev → Res RV) : Ev → Res RV := fun e => (f e).bind fun x e1 => match (de e1 x).bind truthy with
  | some true => g e1
  | some false => .ok x e1
  | none => .bad
def eNot (f : Ev → Res RV) : Ev → Res RV := fun e => (f e).bind fun x e1 => ofOpt (((de e1 x).bind truthy).map fun b => RV.d (.bl !b)) e1
def qTru (f : Ev → Res RV) : Ev → Res Bool := fun e => (f e).bind fun x e1 => ofOpt ((de e1 x).bind truthy) e1
def asB : RV → Option Bool
  | .d (.bl b) => some b
  | _ => none
def qB (f : Ev → Res RV) : Ev → Res Bool := fun e => (f e).bind fun x e1 => ofOpt (asB x) e1
def qNot (f : Ev → Res Bool) : Ev → Res Bool := fun e => (f e).bind fun b e1 => .ok (!b) e1
def qAnd (f g : Ev → Res Bool) : Ev → Res Bool := fun e => (f e).bind fun b e1 => if b = true then g e1 else .ok false e1
def qOr (f g : Ev → Res Bool) : Ev → Res Bool := fun e => (f e).bind fun b e1 => if b = true then .ok true e1 else g e1
def eIf (c : Ev → Res Bool) (f g : Ev → Res RV) : Ev → Res RV := fun e => (c e).bind fun b e1 => if b = true then f e1 else g e1
def lNil : Ev → Res (List RV) := fun e => .ok [] e
def lCons (f : Ev → Res RV) (g : Ev → Res (List RV)) : Ev → Res (List RV) := fun e => (f e).bind fun x e1 => (g e1).bind fun xs e2 => .ok (x :: xs) e2
def eLst (fs : Ev → Res (List RV)) : Ev → Res D := fun e => (fs e).bind fun xs e1 => ofOpt ((pures xs).bind fun ds => if ds.length ≤ 1000 then some (.lst ds) else none) e1
def eTup (fs : Ev → Res (List RV)) : Ev → Res RV := fun e => (fs e).bind fun xs e1 => ofOpt ((pures xs).bind fun ds => if ds.length ≤ 1000 then some (.d (.tup ds)) else none) e1
def eVis (f : Ev → Res D) : Ev → Res RV := fun e => (f e).bind fun x e1 => .ok (.d x) e1
def eCB (op : List D → Option D) (fs : Ev → Res (List RV)) : Ev → Res RV := fun e => (fs e).bind fun xs e1 => ofOpt ((des e1 xs).bind fun ds => (op ds).map RV.d) e1
def eCBN (op : List D → Option D) (fs : Ev → Res (List RV)) : Ev → Res D := fun e => (fs e).bind fun xs e1 => ofOpt ((des e1 xs).bind fun ds => op ds) e1
/-! ### what a rule by values takes and gives -/
def Gives (k : Kn) (G H : Hp) (z : D) (Q : VK) : Prop := ∀ v G' H', Ext G H G' H' → Rep k G' z v → Q v H'
/-- .. a new object -/
def GivesN (k : Kn) (G H : Hp) (z : D) (Q : VK) : Prop := ∀ a o, H a = none → NodeO k G z o → Q (.ref a) (upd H a o)
theorem GivesN.of {k : Kn} {G H : Hp} {z : D} {Q : VK} (S : L2.Same G H) (h : Gives k G H z Q) : GivesN k G H z Q := fun a o ha n => by
  have ga : G a = none := by
    cases q : G a with
    | none => rfl
    | some u => rw [S _ _ q] at ha; cases ha
  exact h _ _ _ (Ext.new S ha) ((n.mono (RK.Same.upd ga)).rep upd_same)
def Cons1 (k : Kn) (r : V → Hp → VK → Prop) (op : D → Option D) : Prop := ∀ G H d z v Q, L2.Same G H → Node k G H d v → op d = some z → Gives k G H z Q → r v H Q
def Cons2 (k : Kn) (r : R2) (op : D → D → Option D) : Prop := ∀ G H d1 d2 z v w Q, L2.Same G H → Node k G H d1 v → Node k G H d2 w → op d1 d2 = some z → Gives k G H z Q → r v w H Q
def Cons2N (k : Kn) (r : R2) (op : D → D → Option D) : Prop := ∀ G H d1 d2 z v w Q, L2.Same G H → Node k G H d1 v → Node k G H d2 w → op d1 d2 = some z → GivesN k G H z Q → r v w H Q
def ConsL (k : Kn) (r : List V → Hp → VK → Prop) (op : List D → Option D) : Prop := ∀ G H ds z vs Q, L2.Same G H → Nodes k G H ds vs → op ds = some z → Gives k G H z Q → r vs H Q
def ConsLN (k : Kn) (r : List V → Hp → VK → Prop) (op : List D → Option D) : Prop := ∀ G H ds z vs Q, L2.Same G H → Nodes k G H ds vs → op ds = some z → GivesN k G H z Q → r vs H Q
section
variable {k : Kn} {X : Cx} {W : WX} {f g h : Ev → Res RV} {a b c : Expr} {es rest : List Expr} {pos : Pos} {fs : Ev → Res (List RV)}
/-- behind a result: the wish -/
theorem post_gives {B G H : Hp} {e : Ev} {σ : L2.St} {Q : VK} {z : D} (r : ER k B G e σ H) (p : PostR k B σ W (fun G' H' _ x => ∀ v, VR k G' σ x v → Q v H') G (.ok (.d z) e)) : Gives k G H z Q :=
  fun v G' H' x rp => p G' H' (r.ext x) (Gr.ext r x) v rp
theorem post_givesN {B G H : Hp} {e : Ev} {σ : L2.St} {Q : VK} {z : D} (r : ER k B G e σ H) (p : PostN k B σ W Q G (.ok z e)) : GivesN k G H z Q := fun a o ha n => by
  have ga : G a = none := by
    cases q : G a with
    | none => rfl
    | some u => rw [r.vis _ _ q] at ha; cases ha
  have ba : B a = none := by
    cases q : B a with
    | none => rfl
    | some u => rw [r.bs _ _ q] at ha; cases ha
  refine p G (upd H a o) a o ?_ (Gr.refl B G) ba ga n
  obtain ⟨fp, rr⟩ := r.ext (Ext.hid (p := a) (o := o) r.vis ha)
  obtain ⟨fp0, r0⟩ := r
  refine ⟨fp0, r0.len, fun c u q => ?_, r0.vis.trans (RK.Same.upd ha), fun i d h => r0.val i d h, fun i s h ho => ?_, fun i s c h ho hc => ?_, r0.sep, r0.pin, fun dd f v d q => ⟨RK.Same.upd ha _ _ (r0.kept dd f v d q).1, (r0.kept dd f v d q).2⟩⟩
  · by_cases hc : c = a
    · subst hc; rw [upd_same] at q ⊢; exact q
    · rw [upd_ne hc] at q ⊢; exact r0.base _ _ q
  · obtain ⟨a', h1, h2⟩ := r0.own i s h ho
    exact ⟨a', h1, h2.keep (L2.Same.refl G) fun c hc o' eo => RK.Same.upd ha _ _ eo⟩
  · obtain ⟨f1, f2⟩ := r0.free i s c h ho hc
    refine ⟨?_, f2⟩
    obtain ⟨a', _, h2⟩ := r0.own i s h ho
    obtain ⟨u, hu⟩ := h2.there hc
    rw [upd_ne (ne_of_none hu ha)]
    exact f1
theorem ofOpt_post {α : Type} {B G : Hp} {σ : L2.St} {P : Hp → Hp → Ev → α → Prop} {o : Option α} {e : Ev} (h : PostR k B σ W P G (ofOpt o e)) : ∃ z, o = some z ∧ PostR k B σ W P G (.ok z e) := by
  cases o with
  | none => exact h.elim
  | some z => exact ⟨z, rfl, h⟩
theorem ofOpt_postN {B G : Hp} {σ : L2.St} {Q : VK} {o : Option D} {e : Ev} (h : PostN k B σ W Q G (ofOpt o e)) : ∃ z, o = some z ∧ PostN k B σ W Q G (.ok z e) := by
  cases o with
  | none => exact h.elim
  | some z => exact ⟨z, rfl, h⟩
theorem pd_var {i : Nat} {x : Str} (hN : X.N[i]? = some x) (hv : Vis X.env.scope x) (hd : (x == ("__debug__" : Str)) = false := by decide) (hcd : (x == ("__classdict__" : Str)) = false := by decide) : PE X (.Name x pos) (tD k W (eVar i)) :=
  (pe_var hN hv hd hcd).weak fun σ H Q ⟨B, G, e, r, p⟩ => by
    unfold eVar at p
    split at p
    · rename_i d q
      obtain ⟨v, h1, h2⟩ := r.val q
      exact ⟨v, h1, p G H r (Gr.refl B G) v h2⟩
    · rename_i d q
      obtain ⟨a, o, h1, _⟩ := r.own q
      exact ⟨_, h1, p G H r (Gr.refl B G) _ h1⟩
    · rename_i zs s q
      obtain ⟨fp, r1⟩ := r
      obtain ⟨a, h1, _⟩ := r1.own i _ q rfl
      exact ⟨_, h1, p G H ⟨fp, r1⟩ (Gr.refl B G) _ h1⟩
    · exact p.elim
theorem pd_c {d : D} {v : V} {t : Expr} (h : PE X t (tC v)) (hr : ∀ G, Rep k G d v) : PE X t (tD k W (eC d)) :=
  h.weak fun σ H Q ⟨B, G, e, r, p⟩ => p G H r (Gr.refl B G) v (hr G)
theorem pd_un {o : UnaryOp} {r : V → Hp → VK → Prop} {op : D → Option D} (ho : UnR X (unaryOp o) r) (hc : Cons1 k r op) (ha : PE X a (tD k W f)) : PE X (.UnaryOp o a pos) (tD k W (eUn op f)) :=
  (pe_un ho ha).weak fun σ H Q ⟨B, G, e, r0, p⟩ => ⟨B, G, e, r0, p.bind.imp fun G1 H1 e1 x r1 S1 p1 v hv => by
    obtain ⟨z, q, p2⟩ := ofOpt_post p1
    rw [Option.bind_eq_some_iff] at q
    obtain ⟨d, q1, q2⟩ := q
    rw [Option.map_eq_some_iff] at q2
    obtain ⟨w, q2, rfl⟩ := q2
    exact hc G1 H1 d w v Q r1.vis (hv.de r1 q1) q2 (post_gives r1 p2)⟩
/-- two operands -/
theorem two_sem {r : R2} {op : D → D → Option D} (hc : Cons2 k r op) {σ : L2.St} {H : Hp} {Q : VK} (p : tD k W (eOp op f g) σ H Q) : tOp r (tD k W f) (tD k W g) σ H Q := by
  obtain ⟨B, G, e, r0, p⟩ := p
  refine ⟨B, G, e, r0, p.bind.imp fun G1 H1 e1 x r1 S1 p1 v hv => ⟨B, G1, e1, r1, p1.bind.imp fun G2 H2 e2 y r2 S2 p2 w hw => ?_⟩⟩
  obtain ⟨z, q, p3⟩ := ofOpt_post p2
  rw [Option.bind_eq_some_iff] at q
  obtain ⟨d1, q1, q⟩ := q
  rw [Option.bind_eq_some_iff] at q
  obtain ⟨d2, q2, q⟩ := q
  rw [Option.map_eq_some_iff] at q
  obtain ⟨z, q, rfl⟩ := q
  exact hc G2 H2 d1 d2 z v w Q r2.vis ((hv.mono S2.s).de r2 q1) (hw.de r2 q2) q (post_gives r2 p3)
theorem two_semN {r : R2} {op : D → D → Option D} (hc : Cons2N k r op) {σ : L2.St} {H : Hp} {Q : VK} (p : tN k W (eOpN op f g) σ H Q) : tOp r (tD k W f) (tD k W g) σ H Q := by
  obtain ⟨B, G, e, r0, p⟩ := p
  refine ⟨B, G, e, r0, p.bind.imp fun G1 H1 e1 x r1 S1 p1 v hv => ⟨B, G1, e1, r1, p1.bind.imp fun G2 H2 e2 y r2 S2 p2 w hw => ?_⟩⟩
  obtain ⟨z, q, p3⟩ := ofOpt_postN p2
  rw [Option.bind_eq_some_iff] at q
  obtain ⟨d1, q1, q⟩ := q
  rw [Option.bind_eq_some_iff] at q
  obtain ⟨d2, q2, q⟩ := q
  exact hc G2 H2 d1 d2 z v w Q r2.vis ((hv.mono S2.s).de r2 q1) (hw.de r2 q2) q (post_givesN r2 p3)
theorem pd_op {o : Operator} {r : R2} {op : D → D → Option D} (ho : OpR X (binaryOp o) r) (hc : Cons2 k r op) (ha : PE X a (tD k W f)) (hb : PE X b (tD k W g)) : PE X (.BinOp a o b pos) (tD k W (eOp op f g)) :=
  (pe_op ho ha hb).weak fun _ _ _ p => two_sem hc p
theorem pd_opN {o : Operator} {r : R2} {op : D → D → Option D} (ho : OpR X (binaryOp o) r) (hc : Cons2N k r op) (ha : PE X a (tD k W f)) (hb : PE X b (tD k W g)) : PE X (.BinOp a o b pos) (tN k W (eOpN op f g)) :=
  (pe_op ho ha hb).weak fun _ _ _ p => two_semN hc p
theorem pd_cmp {o : CmpOp} {r : R2} {op : D → D → Option D} (ho : OpR X (compareOp o) r) (hc : Cons2 k r op) (ha : PE X a (tD k W f)) (hb : PE X b (tD k W g)) (hm : behindInMarks o b = false) : PE X (.Compare a [o] [b] pos) (tD k W (eOp op f g)) :=
  (pe_cmpR ho ha hb hm).weak fun _ _ _ p => two_sem hc p
theorem q_of_d {σ : L2.St} {H : Hp} {Q : Bool → Hp → Prop} (p : tQ k W (qB f) σ H Q) : tD k W f σ H fun x H' => ∃ b, x = .bl b ∧ Q b H' := by
  obtain ⟨B, G, e, r0, p⟩ := p
  refine ⟨B, G, e, r0, p.bind.imp fun G1 H1 e1 x r1 S1 p1 v hv => ?_⟩
  obtain ⟨z, q, p2⟩ := ofOpt_post p1
  unfold asB at q
  split at q
  · rename_i b
    cases q
    have hv : Rep k G1 (.bl z) v := hv
    cases hv
    exact ⟨z, rfl, p2 G1 H1 r1 (Gr.refl B G1)⟩
  · cases q
theorem pdt_cmp {o : CmpOp} {r : R2} {op : D → D → Option D} (ho : OpR X (compareOp o) r) (hc : Cons2 k r op) (ha : PE X a (tD k W f)) (hb : PE X b (tD k W g)) (hm : behindInMarks o b = false) : PT X (.Compare a [o] [b] pos) (tQ k W (qB (eOp op f g))) :=
  (pt_cmpR ho ha hb hm).weak fun _ _ _ p => two_sem hc (q_of_d p)
theorem chain_sem {r r' : R2} {op op' : D → D → Option D} (hc : Cons2 k r op) (hc' : Cons2 k r' op') {σ : L2.St} {H : Hp} {Q : VK} (p : tD k W (eChain op op' f g h) σ H Q) : tChain r r' (tD k W f) (tD k W g) (tD k W h) σ H Q := by
  obtain ⟨B, G, e, r0, p⟩ := p
  refine ⟨B, G, e, r0, p.bind.imp fun G1 H1 e1 x r1 S1 p1 v hv => ⟨B, G1, e1, r1, p1.bind.imp fun G2 H2 e2 y r2 S2 p2 w hw => ?_⟩⟩
  have p2 : PostR k B σ W _ G2 (match (de e2 x).bind fun a => (de e2 y).bind fun b => op a b with
    | some (.bl true) => (h e2).bind fun z e3 => ofOpt ((de e3 y).bind fun a => (de e3 z).bind fun b => (op' a b).map RV.d) e3
    | some (.bl false) => .ok (.d (.bl false)) e2
    | _ => .bad) := p2
  have key : ∀ q : Bool, ((de e2 x).bind fun a => (de e2 y).bind fun b => op a b) = some (.bl q) → (∀ H3 G3, ER k B G3 e2 σ H3 → Gr B G2 G3 → if q = true then tD k W h σ H3 (fun z H4 => r' w z H4 Q) else Q (.bl false) H3) → r v w H2 fun z H3 => ∃ b, z = .bl b ∧ if b = true then tD k W h σ H3 (fun z H4 => r' w z H4 Q) else Q (.bl false) H3 := fun q eq kk => by
    rw [Option.bind_eq_some_iff] at eq
    obtain ⟨d1, q1, eq⟩ := eq
    rw [Option.bind_eq_some_iff] at eq
    obtain ⟨d2, q2, eq⟩ := eq
    refine hc G2 H2 d1 d2 _ v w _ r2.vis ((hv.mono S2.s).de r2 q1) (hw.de r2 q2) eq fun v' G' H' xt rp => ?_
    cases rp
    exact ⟨q, rfl, kk H' G' (r2.ext xt) (Gr.ext r2 xt)⟩
  split at p2
  · rename_i eq
    refine key true eq fun H3 G3 r3 S3 => ?_
    rw [if_pos rfl]
    refine ⟨B, G3, e2, r3, (p2.mono S3).bind.imp fun G4 H4 e4 z r4 S4 p4 u hu => ?_⟩
    obtain ⟨zz, q, p5⟩ := ofOpt_post p4
    rw [Option.bind_eq_some_iff] at q
    obtain ⟨d1, q1, q⟩ := q
    rw [Option.bind_eq_some_iff] at q
    obtain ⟨d2, q2, q⟩ := q
    rw [Option.map_eq_some_iff] at q
    obtain ⟨zz, q, rfl⟩ := q
    exact hc' G4 H4 d1 d2 zz w u Q r4.vis ((hw.mono (S3.trans S4).s).de r4 q1) (hu.de r4 q2) q (post_gives r4 p5)
  · rename_i eq
    refine key false eq fun H3 G3 r3 S3 => ?_
    rw [if_neg Bool.false_ne_true]
    exact p2 G3 H3 r3 S3 _ (.bl false)
  · exact p2.elim
theorem pd_chain {o o' : CmpOp} {r r' : R2} {op op' : D → D → Option D} (ho : OpR X (compareOp o) r) (ho' : OpR X (compareOp o') r') (hc : Cons2 k r op) (hc' : Cons2 k r' op') (ha : PE X a (tD k W f)) (hb : PE X b (tD k W g)) (hh : PE X c (tD k W h))
    (hm : lastMarks [o, o'] [b, c] = false := by with_unfolding_all rfl) : PE X (.Compare a [o, o'] [b, c] pos) (tD k W (eChain op op' f g h)) :=
  (pe_chain ho ho' ha hb hh hm).weak fun _ _ _ p => chain_sem hc hc' p
theorem pdt_chain {o o' : CmpOp} {r r' : R2} {op op' : D → D → Option D} (ho : OpR X (compareOp o) r) (ho' : OpR X (compareOp o') r') (hc : Cons2 k r op) (hc' : Cons2 k r' op') (ha : PE X a (tD k W f)) (hb : PE X b (tD k W g)) (hh : PE X c (tD k W h))
    (hm : lastMarks [o, o'] [b, c] = false := by with_unfolding_all rfl) : PT X (.Compare a [o, o'] [b, c] pos) (tQ k W (qB (eChain op op' f g h))) :=
  (pt_chain ho ho' ha hb hh hm).weak fun _ _ _ p => chain_sem hc hc' (q_of_d p)
theorem tru_node {G H : Hp} {d : D} {v : V} {q : Bool} (S : L2.Same G H) (n : Node k G H d v) (h : truthy d = some q) : TruV k.K v H q := by
  cases d with
  | non => cases n; cases h; rfl
  | bl b => cases n; cases h; rfl
  | int i => cases n; cases h; rfl
  | str s =>
    cases n
    have h : (if s.length ≤ sizeLine then some ((s.length : Int) != 0) else none) = some q := h
    split at h
    · rename_i hl
      cases h
      exact ⟨hl, rfl⟩
    · cases h
  | tup ds =>
    cases n with
    | tup hs _ ha =>
      cases h
      refine .inr (.inl ⟨_, SqT.of (S _ _ hs), ?_⟩)
      cases ha <;> rfl
  | lst ds =>
    obtain ⟨a, vs, rfl, hs, _, ha⟩ := n
    cases h
    refine .inl ⟨vs, SqL.of hs, ?_⟩
    cases ha <;> rfl
  | dic t ks => cases h
  | obj c fs => cases h
  | scr ns => cases h
theorem pd_or (hK : X.K = k.K) (ha : PE X a (tD k W f)) (hb : PE X (.BoolOp .Or (b :: rest) pos) (tD k W g)) : PE X (.BoolOp .Or (a :: b :: rest) pos) (tD k W (eOr f g)) :=
  (pe_orT ha hb).weak fun σ H Q ⟨B, G, e, r0, p⟩ => ⟨B, G, e, r0, p.bind.imp fun G1 H1 e1 x r1 S1 p1 v hv => by
    rw [hK]
    have p1 : PostR k B σ W _ G1 (match (de e1 x).bind truthy with
      | some true => .ok x e1
      | some false => g e1
      | none => .bad) := p1
    split at p1
    · rename_i eq
      rw [Option.bind_eq_some_iff] at eq
      obtain ⟨d, q1, q2⟩ := eq
      exact ⟨true, tru_node r1.vis (hv.de r1 q1) q2, by rw [if_pos rfl]; exact p1 G1 H1 r1 (Gr.refl B G1) v hv⟩
    · rename_i eq
      rw [Option.bind_eq_some_iff] at eq
      obtain ⟨d, q1, q2⟩ := eq
      exact ⟨false, tru_node r1.vis (hv.de r1 q1) q2, by rw [if_neg Bool.false_ne_true]; exact ⟨B, G1, e1, r1, p1⟩⟩
    · exact p1.elim⟩
theorem pd_and (hK : X.K = k.K) (ha : PE X a (tD k W f)) (hb : PE X (.BoolOp .And (b :: rest) pos) (tD k W g)) : PE X (.BoolOp .And (a :: b :: rest) pos) (tD k W (eAnd f g)) :=
  (pe_andT ha hb).weak fun σ H Q ⟨B, G, e, r0, p⟩ => ⟨B, G, e, r0, p.bind.imp fun G1 H1 e1 x r1 S1 p1 v hv => by
    rw [hK]
    have p1 : PostR k B σ W _ G1 (match (de e1 x).bind truthy with
      | some true => g e1
      | some false => .ok x e1
      | none => .bad) := p1
    split at p1
    · rename_i eq
      rw [Option.bind_eq_some_iff] at eq
      obtain ⟨d, q1, q2⟩ := eq
      exact ⟨true, tru_node r1.vis (hv.de r1 q1) q2, by rw [if_pos rfl]; exact ⟨B, G1, e1, r1, p1⟩⟩
    · rename_i eq
      rw [Option.bind_eq_some_iff] at eq
      obtain ⟨d, q1, q2⟩ := eq
      exact ⟨false, tru_node r1.vis (hv.de r1 q1) q2, by rw [if_neg Bool.false_ne_true]; exact p1 G1 H1 r1 (Gr.refl B G1) v hv⟩
    · exact p1.elim⟩
theorem pd_not (hK : X.K = k.K) (ha : PE X a (tD k W f)) : PE X (.UnaryOp .Not a pos) (tD k W (eNot f)) :=
  (pe_notT ha).weak fun σ H Q ⟨B, G, e, r0, p⟩ => ⟨B, G, e, r0, p.bind.imp fun G1 H1 e1 x r1 S1 p1 v hv => by
    rw [hK]
    obtain ⟨z, q, p2⟩ := ofOpt_post p1
    rw [Option.map_eq_some_iff] at q
    obtain ⟨b, q, rfl⟩ := q
    rw [Option.bind_eq_some_iff] at q
    obtain ⟨d, q1, q2⟩ := q
    exact ⟨b, tru_node r1.vis (hv.de r1 q1) q2, p2 G1 H1 r1 (Gr.refl B G1) _ (.bl _)⟩⟩
theorem pdt_tru (hK : X.K = k.K) (ha : PE X a (tD k W f)) (he : ∀ whole, isTrue a X.env whole = (do let v ← whole; standAt a.pos; holding [v] (PySem.truthy v)) := by intro _; rfl) : PT X a (tQ k W (qTru f)) :=
  (pt_truth ha he).weak fun σ H Q ⟨B, G, e, r0, p⟩ => ⟨B, G, e, r0, p.bind.imp fun G1 H1 e1 x r1 S1 p1 v hv => by
    rw [hK]
    obtain ⟨z, q, p2⟩ := ofOpt_post p1
    rw [Option.bind_eq_some_iff] at q
    obtain ⟨d, q1, q2⟩ := q
    exact ⟨z, tru_node r1.vis (hv.de r1 q1) q2, p2 G1 H1 r1 (Gr.refl B G1)⟩⟩
theorem pdt_not {f : Ev → Res Bool} (ha : PT X a (tQ k W f)) : PT X (.UnaryOp .Not a pos) (tQ k W (qNot f)) :=
  (pt_not ha).weak fun σ H Q ⟨B, G, e, r0, p⟩ => ⟨B, G, e, r0, p.bind.imp fun G1 H1 e1 x r1 S1 p1 => p1 G1 H1 r1 (Gr.refl B G1)⟩
theorem pdw_and1 {f : Ev → Res Bool} (ha : PT X a (tQ k W f)) : PW X (.BoolOp .And [a] pos) (tQ k W f) := pw_and1 ha
theorem pdw_or1 {f : Ev → Res Bool} (ha : PT X a (tQ k W f)) : PW X (.BoolOp .Or [a] pos) (tQ k W f) := pw_or1 ha
theorem pdw_and {f g : Ev → Res Bool} (ha : PT X a (tQ k W f)) (hb : PW X (.BoolOp .And (b :: rest) pos) (tQ k W g)) : PW X (.BoolOp .And (a :: b :: rest) pos) (tQ k W (qAnd f g)) :=
  (pw_and ha hb).weak fun σ H Q ⟨B, G, e, r0, p⟩ => ⟨B, G, e, r0, p.bind.imp fun G1 H1 e1 x r1 S1 p1 => by
    cases x with
    | true => exact iteT ⟨B, G1, e1, r1, p1⟩
    | false => exact iteF (p1 G1 H1 r1 (Gr.refl B G1))⟩
theorem pdw_or {f g : Ev → Res Bool} (ha : PT X a (tQ k W f)) (hb : PW X (.BoolOp .Or (b :: rest) pos) (tQ k W g)) : PW X (.BoolOp .Or (a :: b :: rest) pos) (tQ k W (qOr f g)) :=
  (pw_or ha hb).weak fun σ H Q ⟨B, G, e, r0, p⟩ => ⟨B, G, e, r0, p.bind.imp fun G1 H1 e1 x r1 S1 p1 => by
    cases x with
    | true => exact iteT (p1 G1 H1 r1 (Gr.refl B G1))
    | false => exact iteF ⟨B, G1, e1, r1, p1⟩⟩
theorem pd_if {q : Ev → Res Bool} (hc : PT X c (tQ k W q)) (ha : PE X a (tD k W f)) (hb : PE X b (tD k W g)) : PE X (.IfExp c a b pos) (tD k W (eIf q f g)) :=
  (pe_ifExp hc ha hb).weak fun σ H Q ⟨B, G, e, r0, p⟩ => ⟨B, G, e, r0, p.bind.imp fun G1 H1 e1 x r1 S1 p1 => by
    cases x with
    | true => exact iteT ⟨B, G1, e1, r1, p1⟩
    | false => exact iteF ⟨B, G1, e1, r1, p1⟩⟩
theorem pdl_nil : PA X [] (tL k W lNil) := pa_nil.weak fun σ H Q ⟨B, G, e, r0, p⟩ => p G H r0 (Gr.refl B G) [] rfl
theorem pdl_cons (ha : PE X a (tD k W f)) (hr : PA X es (tL k W fs)) (hs : starEach (a :: es) X.env = (false, eval a X.env) :: starEach es X.env := by rfl) : PA X (a :: es) (tL k W (lCons f fs)) :=
  (pa_cons ha hr (hs := hs)).weak fun σ H Q ⟨B, G, e, r0, p⟩ => ⟨B, G, e, r0, p.bind.imp fun G1 H1 e1 x r1 S1 p1 v hv => ⟨B, G1, e1, r1, p1.bind.imp fun G2 H2 e2 xs r2 S2 p2 vs hvs =>
    p2 G2 H2 r2 (Gr.refl B G2) _ ⟨v, vs, rfl, hv.mono S2.s, hvs⟩⟩⟩
theorem len1000 {n : Nat} (h : n ≤ 1000) : n ≤ sizeLine := Nat.le_trans h (by rw [sizeLine_eq]; decide)
theorem pd_lst (h : PA X es (tL k W fs)) : PE X (.List es pos) (tN k W (eLst fs)) :=
  (pe_lst h).weak fun σ H Q ⟨B, G, e, r0, p⟩ => ⟨B, G, e, r0, p.bind.imp fun G1 H1 e1 xs r1 S1 p1 vs hvs => by
    obtain ⟨z, q, p2⟩ := ofOpt_postN p1
    rw [Option.bind_eq_some_iff] at q
    obtain ⟨ds, q1, q2⟩ := q
    split at q2
    · rename_i hl
      cases q2
      have ra := hvs.pures q1
      have hl' : vs.length ≤ sizeLine := by rw [← ra.len]; exact len1000 hl
      exact ⟨hl', fun a ha => post_givesN r1 p2 a _ ha (.lst hl' ra)⟩
    · cases q2⟩
theorem pd_tup {x1 : Nat} (h : PA X es (tL k W fs)) : PE X (.Tuple es x1 pos) (tD k W (eTup fs)) :=
  (pe_tup h).weak fun σ H Q ⟨B, G, e, r0, p⟩ => ⟨B, G, e, r0, p.bind.imp fun G1 H1 e1 xs r1 S1 p1 vs hvs => by
    obtain ⟨z, q, p2⟩ := ofOpt_post p1
    rw [Option.bind_eq_some_iff] at q
    obtain ⟨ds, q1, q2⟩ := q
    split at q2
    · rename_i hl
      cases q2
      have ra := hvs.pures q1
      have hl' : vs.length ≤ sizeLine := by rw [← ra.len]; exact len1000 hl
      exact ⟨hl', fun a ha => GivesN.of r1.vis (post_gives r1 p2) a _ ha (.tup hl' ra)⟩
    · cases q2⟩
theorem pd_vis {t : Expr} {f : Ev → Res D} (h : PE X t (tN k W f)) : PE X t (tD k W (eVis f)) :=
  h.weak fun σ H Q ⟨B, G, e, r0, p⟩ => ⟨B, G, e, r0, by
    unfold eVis at p
    cases q : f e with
    | ok z e' =>
      rw [q] at p
      intro G' H' a o r S ba ga n
      have SG : L2.Same G' (upd G' a o) := RK.Same.upd ga
      have SR : Gr B G' (upd G' a o) := ⟨SG, fun c u q => by
        by_cases hc : c = a
        · subst hc; exact .inr ba
        · rw [upd_ne hc] at q; exact .inl q⟩
      exact p _ _ (r.seen ba ga) (S.trans SR) _ ((n.mono SG).rep upd_same)
    | err c x e' => rw [q] at p; exact p
    | bad => rw [q] at p; exact p⟩
theorem cb_sem {r : List V → Hp → VK → Prop} {op : List D → Option D} (hc : ConsL k r op) {σ : L2.St} {H : Hp} {Q : VK} (p : tD k W (eCB op fs) σ H Q) : tCB r (tL k W fs) σ H Q := by
  obtain ⟨B, G, e, r0, p⟩ := p
  refine ⟨B, G, e, r0, p.bind.imp fun G1 H1 e1 xs r1 S1 p1 vs hvs => ?_⟩
  obtain ⟨z, q, p2⟩ := ofOpt_post p1
  rw [Option.bind_eq_some_iff] at q
  obtain ⟨ds, q1, q2⟩ := q
  rw [Option.map_eq_some_iff] at q2
  obtain ⟨w, q2, rfl⟩ := q2
  exact hc G1 H1 ds w vs Q r1.vis (hvs.des r1 q1) q2 (post_gives r1 p2)
theorem cb_semN {r : List V → Hp → VK → Prop} {op : List D → Option D} (hc : ConsLN k r op) {σ : L2.St} {H : Hp} {Q : VK} (p : tN k W (eCBN op fs) σ H Q) : tCB r (tL k W fs) σ H Q := by
  obtain ⟨B, G, e, r0, p⟩ := p
  refine ⟨B, G, e, r0, p.bind.imp fun G1 H1 e1 xs r1 S1 p1 vs hvs => ?_⟩
  obtain ⟨z, q, p2⟩ := ofOpt_postN p1
  rw [Option.bind_eq_some_iff] at q
  obtain ⟨ds, q1, q2⟩ := q
  exact hc G1 H1 ds z vs Q r1.vis (hvs.des r1 q1) q2 (post_givesN r1 p2)
variable {x : Str} {p0 : Pos} {r : List V → Hp → VK → Prop} {op : List D → Option D} {id T : String}
theorem pd_cb (hc : CallR X (.builtin id) r) (cs : ConsL k r op) (hg : Gl X x) (hm : X.mg x = none) (hv : bootBuiltins x = some (.builtin id)) (ha : PA X (a :: es) (tL k W fs)) (hn : x ≠ "__name__" := by decide) (hdb : (x == ("__debug__" : Str)) = false := by decide)
    (he : starEach (a :: es) X.env = (false, eval a X.env) :: starEach es X.env := by rfl) (hpl : (backTo pos (starEach es X.env)).any (·.1) = false := by rfl) : PE X (.Call (.Name x p0) (a :: es) [] pos) (tD k W (eCB op fs)) :=
  (pe_callB hc hg hm hv ha hn hdb he hpl).weak fun _ _ _ p => cb_sem cs p
theorem pd_cbN (hc : CallR X (.builtin id) r) (cs : ConsLN k r op) (hg : Gl X x) (hm : X.mg x = none) (hv : bootBuiltins x = some (.builtin id)) (ha : PA X (a :: es) (tL k W fs)) (hn : x ≠ "__name__" := by decide) (hdb : (x == ("__debug__" : Str)) = false := by decide)
    (he : starEach (a :: es) X.env = (false, eval a X.env) :: starEach es X.env := by rfl) (hpl : (backTo pos (starEach es X.env)).any (·.1) = false := by rfl) : PE X (.Call (.Name x p0) (a :: es) [] pos) (tN k W (eCBN op fs)) :=
  (pe_callB hc hg hm hv ha hn hdb he hpl).weak fun _ _ _ p => cb_semN cs p
theorem pd_cty (hc : CallR X (.type T) r) (cs : ConsL k r op) (hg : Gl X x) (hm : X.mg x = none) (hv : bootBuiltins x = some (.type T)) (ha : PA X (a :: es) (tL k W fs)) (hn : x ≠ "__name__" := by decide) (hdb : (x == ("__debug__" : Str)) = false := by decide)
    (he : starEach (a :: es) X.env = (false, eval a X.env) :: starEach es X.env := by rfl) (hpl : (backTo pos (starEach es X.env)).any (·.1) = false := by rfl) : PE X (.Call (.Name x p0) (a :: es) [] pos) (tD k W (eCB op fs)) :=
  (pe_callTy hc hg hm hv ha hn hdb he hpl).weak fun _ _ _ p => cb_sem cs p
theorem pd_ctyN (hc : CallR X (.type T) r) (cs : ConsLN k r op) (hg : Gl X x) (hm : X.mg x = none) (hv : bootBuiltins x = some (.type T)) (ha : PA X (a :: es) (tL k W fs)) (hn : x ≠ "__name__" := by decide) (hdb : (x == ("__debug__" : Str)) = false := by decide)
    (he : starEach (a :: es) X.env = (false, eval a X.env) :: starEach es X.env := by rfl) (hpl : (backTo pos (starEach es X.env)).any (·.1) = false := by rfl) : PE X (.Call (.Name x p0) (a :: es) [] pos) (tN k W (eCBN op fs)) :=
  (pe_callTy hc hg hm hv ha hn hdb he hpl).weak fun _ _ _ p => cb_semN cs p
theorem pd_ix {r : R2} {op : D → D → Option D} (hr : IxR X r) (hc : Cons2 k r op) (ha : PE X a (tD k W f)) (hb : PE X b (tD k W g)) (hs : PlainIx b) : PE X (.Subscript a b pos) (tD k W (eOp op f g)) :=
  (pe_ix hr ha hb hs).weak fun _ _ _ p => two_sem hc p
end
end PD


set_option Elab.async false
set_option linter.all false
set_option maxRecDepth 100000
set_option maxHeartbeats 1000000
/-! PD3: what a statement does with data. -/
namespace PD
open PySem PySem.Spec PyProof.Rows L2 RK
inductive SR where
  | nx (e : Ev) | rt (z : D) (e : Ev) | bk (e : Ev) | ct (e : Ev) | err (c : EC) (x : Option D) (e : Ev) | bad
def Res.andS {α : Type} (r : Res α) (g : α → Ev → SR) : SR :=
  match r with
  | .ok a e => g a e
  | .err c x e => .err c x e
  | .bad => .bad
@[simp] theorem Res.andS_ok {α : Type} (a : α) (e : Ev) (g : α → Ev → SR) : (Res.ok a e).andS g = g a e := rfl
@[simp] theorem Res.andS_err {α : Type} (c : EC) (x : Option D) (e : Ev) (g : α → Ev → SR) : (Res.err c x e : Res α).andS g = .err c x e := rfl
@[simp] theorem Res.andS_bad {α : Type} (g : α → Ev → SR) : (Res.bad : Res α).andS g = .bad := rfl
def SR.seq (r : SR) (g : Ev → SR) : SR :=
  match r with
  | .nx e => g e
  | r => r
@[simp] theorem SR.seq_nx (e : Ev) (g : Ev → SR) : (SR.nx e).seq g = g e := rfl
@[simp] theorem SR.seq_rt (z : D) (e : Ev) (g : Ev → SR) : (SR.rt z e).seq g = .rt z e := rfl
@[simp] theorem SR.seq_bk (e : Ev) (g : Ev → SR) : (SR.bk e).seq g = .bk e := rfl
@[simp] theorem SR.seq_ct (e : Ev) (g : Ev → SR) : (SR.ct e).seq g = .ct e := rfl
@[simp] theorem SR.seq_err (c : EC) (x : Option D) (e : Ev) (g : Ev → SR) : (SR.err c x e).seq g = .err c x e := rfl
@[simp] theorem SR.seq_bad (g : Ev → SR) : (SR.bad).seq g = .bad := rfl
def PostS (k : Kn) (B : Hp) (W : WX) (fr : Bool) (D : Ends) (G : Hp) : SR → Prop
  | .nx e' => ∀ σ' G' H', ER k B G' e' σ' H' → Gr B G G' → D.nx σ' H'
  | .bk e' => ∀ σ' G' H', ER k B G' e' σ' H' → Gr B G G' → D.bk σ' H'
  | .ct e' => ∀ σ' G' H', ER k B G' e' σ' H' → Gr B G G' → D.ct σ' H'
  | .rt z e' => (fr = false → ∀ σ' G' H' v, ER k B G' e' σ' H' → Gr B G G' → Rep k G' z v → D.rt v H') ∧
      (fr = true → ∀ σ' G' H' a o, ER k (upd B a o) G' e' σ' H' → Gr B G G' → B a = none → G' a = none → NodeO k G' z o → D.rt (.ref a) H')
  | .err c x e' => ∀ σ' G' H' cls dd, ER k B G' e' σ' H' → ExcAt k B G' H' c x cls dd → Gr B G G' → W cls dd σ' H'
  | .bad => False
def tS (k : Kn) (W : WX) (fr : Bool) (g : Ev → SR) : TS := fun D σ H => ∃ B G e, ER k B G e σ H ∧ PostS k B W fr D G (g e)
theorem _root_.L2.PS.weak {X : Cx} {s : Stmt} {t t' : TS} (h : PS X s t) (w : ∀ D σ H, t' D σ H → t D σ H) : PS X s t' := ⟨fun pins s σ H D I q => h.run pins s σ H D I (w _ _ _ q)⟩
theorem _root_.L2.PSs.weak {X : Cx} {s : List Stmt} {t t' : TS} (h : PSs X s t) (w : ∀ D σ H, t' D σ H → t D σ H) : PSs X s t' := ⟨fun pins s σ H D I q => h.run pins s σ H D I (w _ _ _ q)⟩
section
variable {k : Kn} {B G G' H : Hp} {e : Ev} {σ : L2.St} {W : WX} {fr : Bool} {D : Ends} {α β : Type}
theorem PostS.mono {r : SR} (S : Gr B G G') (h : PostS k B W fr D G r) : PostS k B W fr D G' r := by
  cases r with
  | nx e' => exact fun σ' G2 H2 r S2 => h σ' G2 H2 r (S.trans S2)
  | bk e' => exact fun σ' G2 H2 r S2 => h σ' G2 H2 r (S.trans S2)
  | ct e' => exact fun σ' G2 H2 r S2 => h σ' G2 H2 r (S.trans S2)
  | rt z e' => exact ⟨fun q σ' G2 H2 v r S2 => h.1 q σ' G2 H2 v r (S.trans S2), fun q σ' G2 H2 a o r S2 => h.2 q σ' G2 H2 a o r (S.trans S2)⟩
  | err c x e' => exact fun σ' G2 H2 cls dd r q S2 => h σ' G2 H2 cls dd r q (S.trans S2)
  | bad => exact h
theorem PostS.bind {r : Res α} {g : α → Ev → SR} (h : PostS k B W fr D G (r.andS g)) : PostR k B σ W (fun G1 _ e1 x => PostS k B W fr D G1 (g x e1)) G r := by
  cases r with
  | ok x e' => exact fun G1 H1 r S => h.mono S
  | err c x e' => exact fun G' H' cls dd r q => h σ G' H' cls dd r q
  | bad => exact h
theorem PostS.seq {r : SR} {g : Ev → SR} (h : PostS k B W fr D G (r.seq g)) : PostS k B W fr { D with nx := tS k W fr g D } G r := by
  cases r with
  | nx e' => exact fun σ' G' H' r S => ⟨B, G', e', r, h.mono S⟩
  | bk e' => exact h
  | ct e' => exact h
  | rt z e' => exact h
  | err c x e' => exact h
  | bad => exact h
theorem PostS.imp {D' : Ends} {r : SR} (h : PostS k B W fr D G r) (n : ∀ σ H, D.nx σ H → D'.nx σ H) (r' : ∀ v H, D.rt v H → D'.rt v H) (b : ∀ σ H, D.bk σ H → D'.bk σ H) (c : ∀ σ H, D.ct σ H → D'.ct σ H) : PostS k B W fr D' G r := by
  cases r with
  | nx e' => exact fun σ' G2 H2 r S2 => n _ _ (h σ' G2 H2 r S2)
  | bk e' => exact fun σ' G2 H2 r S2 => b _ _ (h σ' G2 H2 r S2)
  | ct e' => exact fun σ' G2 H2 r S2 => c _ _ (h σ' G2 H2 r S2)
  | rt z e' => exact ⟨fun q σ' G2 H2 v r S2 rp => r' _ _ (h.1 q σ' G2 H2 v r S2 rp), fun q σ' G2 H2 a o r S2 g1 g2 g3 => r' _ _ (h.2 q σ' G2 H2 a o r S2 g1 g2 g3)⟩
  | err c x e' => exact h
  | bad => exact h
end
/-! ### semantics -/
def sSet (i : Nat) (f : Ev → Res RV) : Ev → SR := fun e => (f e).andS fun x e1 => match x with
  | .d d => .nx (e1.set i (Sl.val d))
  | .at _ => .bad
def sNew (i : Nat) (f : Ev → Res D) : Ev → SR := fun e => (f e).andS fun d e1 => .nx (e1.set i (Sl.own d))
def sSeq (g h : Ev → SR) : Ev → SR := fun e => (g e).seq h
def sNext : Ev → SR := fun e => .nx e
def sBreak : Ev → SR := fun e => .bk e
def sCont : Ev → SR := fun e => .ct e
def sDrop (f : Ev → Res RV) : Ev → SR := fun e => (f e).andS fun _ e1 => .nx e1
def sIf (q : Ev → Res Bool) (g h : Ev → SR) : Ev → SR := fun e => (q e).andS fun b e1 => if b = true then g e1 else h e1
/-- return; of an object that a slot owns: it is seen from then on -/
def sRet (f : Ev → Res RV) : Ev → SR := fun e => (f e).andS fun x e1 => match x with
  | .d d => .rt d e1
  | .at i => match slD e1[i]? with
    | some d => .rt d (e1.set i (Sl.val d))
    | none => .bad
/-- return of a new object -/
def sRetN (f : Ev → Res D) : Ev → SR := fun e => (f e).andS fun d e1 => .rt d e1
/-- return of a slot's own object, as a new one -/
def sRetO (i : Nat) : Ev → SR := fun e => match slD e[i]? with
  | some d => .rt d (e.set i Sl.no)
  | none => .bad
/-- a slot's own object is only read from here on -/
def sFreeze (i : Nat) : Ev → SR := fun e => match slD e[i]? with
  | some d => .nx (e.set i (Sl.val d))
  | none => .bad
inductive CD where
  | vis (d : D) | new (d : D)
inductive Cp where
  | v (f : Ev → Res RV) | n (f : Ev → Res D)
def CD.sl : CD → Sl
  | .vis d => .val d
  | .new d => .own d
def Cp.run : Cp → Ev → Res CD
  | .v f, e => (f e).bind fun x e1 => match x with
    | .d d => .ok (.vis d) e1
    | .at _ => .bad
  | .n f, e => (f e).bind fun d e1 => .ok (.new d) e1
def sPar (i j : Nat) (a b : Cp) : Ev → SR := fun e => (a.run e).andS fun x e1 => (b.run e1).andS fun y e2 => .nx ((e2.set j y.sl).set i x.sl)
def sPar3 (i j l : Nat) (a b c : Cp) : Ev → SR := fun e => (a.run e).andS fun x e1 => (b.run e1).andS fun y e2 => (c.run e2).andS fun z e3 => .nx (((e3.set l z.sl).set j y.sl).set i x.sl)
/-- targets -/
def gN (i : Nat) : D → Ev → Option Ev := fun d e => some (e.set i (Sl.val d))
def gsNil : List D → Ev → Option Ev
  | [], e => some e
  | _ :: _, _ => none
def gsCons (s : D → Ev → Option Ev) (t : List D → Ev → Option Ev) : List D → Ev → Option Ev
  | d :: ds, e => (s d e).bind fun e1 => t ds e1
  | [], _ => none
def gT (t : List D → Ev → Option Ev) : D → Ev → Option Ev
  | .tup ds, e => t ds e
  | _, _ => none
def sAsg (s : D → Ev → Option Ev) (f : Ev → Res RV) : Ev → SR := fun e => (f e).andS fun x e1 => match x with
  | .d d => match s d e1 with
    | some e2 => .nx e2
    | none => .bad
  | .at _ => .bad
section
variable {k : Kn} {X : Cx} {W : WX} {fr : Bool} {f : Ev → Res RV} {g h : Ev → SR} {a b c : Expr} {st : Stmt} {rest : List Stmt} {pos : Pos}
theorem pds_nil : PSs X [] (tS k W fr sNext) := pss_nil.weak fun D σ H ⟨B, G, e, r, p⟩ => p σ G H r (Gr.refl B G)
theorem pds_one (h1 : PS X st (tS k W fr g)) : PSs X [st] (tS k W fr g) := pss_one h1
theorem pds_cons (h1 : PS X st (tS k W fr g)) (h2 : PSs X rest (tS k W fr h)) : PSs X (st :: rest) (tS k W fr (sSeq g h)) :=
  (pss_cons h1 h2).weak fun D σ H ⟨B, G, e, r, p⟩ => ⟨B, G, e, r, p.seq⟩
/-- ahead of a block a slot's object is let go -/
theorem pds_freeze {i : Nat} (h2 : PSs X rest (tS k W fr h)) : PSs X rest (tS k W fr (sSeq (sFreeze i) h)) :=
  h2.weak fun D σ H ⟨B, G, e, r, p⟩ => by
    have p : PostS k B W fr D G ((match slD e[i]? with
      | some d => SR.nx (e.set i (Sl.val d))
      | none => .bad).seq h) := p
    cases q : e[i]? with
    | none => rw [q] at p; exact p.elim
    | some s =>
      rw [q] at p
      cases s with
      | own d =>
        obtain ⟨G', S, n, r'⟩ := r.freeze q
        exact ⟨B, G', _, r', PostS.mono ⟨S, n⟩ p⟩
      | no => exact p.elim
      | val d => exact p.elim
      | heap zs s => exact p.elim
theorem pds_pass : PS X (.Pass pos) (tS k W fr sNext) := ps_pass.weak fun D σ H ⟨B, G, e, r, p⟩ => p σ G H r (Gr.refl B G)
theorem pds_break : PS X (.Break pos) (tS k W fr sBreak) := ps_break.weak fun D σ H ⟨B, G, e, r, p⟩ => p σ G H r (Gr.refl B G)
theorem pds_cont : PS X (.Continue pos) (tS k W fr sCont) := ps_continue.weak fun D σ H ⟨B, G, e, r, p⟩ => p σ G H r (Gr.refl B G)
theorem pds_expr (he : PE X a (tD k W f)) (hs : swapsWith a none pos.line X.env = pure false := by rfl) : PS X (.Expr a pos) (tS k W fr (sDrop f)) :=
  (ps_expr he hs).weak fun D σ H ⟨B, G, e, r, p⟩ => ⟨B, G, e, r, p.bind.imp fun G1 H1 e1 x r1 S1 p1 v hv => p1 σ G1 H1 r1 (Gr.refl B G1)⟩
theorem pds_if {c : Expr} {as bs : List Stmt} {q : Ev → Res Bool} (hc : PT X c (tQ k W q)) (ha : PSs X as (tS k W fr g)) (hb : PSs X bs (tS k W fr h)) : PS X (.If c as bs pos) (tS k W fr (sIf q g h)) :=
  (ps_if hc ha hb).weak fun D σ H ⟨B, G, e, r, p⟩ => ⟨B, G, e, r, p.bind.imp fun G1 H1 e1 x r1 S1 p1 => by
    cases x with
    | true => exact iteT ⟨B, G1, e1, r1, p1⟩
    | false => exact iteF ⟨B, G1, e1, r1, p1⟩⟩
theorem pds_ret (he : PE X a (tD k W f)) : PS X (.Return (some a) pos) (tS k W false (sRet f)) :=
  (ps_ret he).weak fun D σ H ⟨B, G, e, r, p⟩ => ⟨B, G, e, r, p.bind.imp fun G1 H1 e1 x r1 S1 p1 v hv => by
    cases x with
    | d d => exact p1.1 rfl σ G1 H1 v r1 (Gr.refl B G1) hv
    | «at» i =>
      have hv : σ[i]? = some (some v) := hv
      have p1 : PostS k B W false D G1 (match slD e1[i]? with
        | some d => .rt d (e1.set i (Sl.val d))
        | none => .bad) := p1
      cases q : e1[i]? with
      | none => rw [q] at p1; exact p1.elim
      | some s =>
        rw [q] at p1
        cases s with
        | own d =>
          obtain ⟨G', S, n, r'⟩ := r1.freeze q
          have hl : i < e1.length := (List.getElem?_eq_some_iff.mp q).1
          obtain ⟨v', h1, h2⟩ := r'.val (i := i) (d := d) (List.getElem?_set_self hl)
          rw [hv] at h1
          cases h1
          exact p1.1 rfl σ G' H1 v r' ⟨S, n⟩ h2
        | no => exact p1.elim
        | val d => exact p1.elim
        | heap zs s => exact p1.elim⟩
theorem pds_retC {d : PD.D} (he : PE X a (tD k W (eC d))) : PS X (.Return (some a) pos) (tS k W false (sRet (eC d))) := pds_ret he
theorem pds_retNone : PS X (.Return none pos) (tS k W false (sRet (eC .non))) := ps_retN.weak fun D σ H ⟨B, G, e, r, p⟩ => p.1 rfl σ G H .non r (Gr.refl B G) .non
theorem pds_retN {f : Ev → Res PD.D} (he : PE X a (tN k W f)) : PS X (.Return (some a) pos) (tS k W true (sRetN f)) :=
  (ps_ret he).weak fun D σ H ⟨B, G, e, r, p⟩ => ⟨B, G, e, r, by
    unfold sRetN at p
    cases q : f e with
    | ok z e' =>
      rw [q] at p
      exact fun G' H' a o r' S ba ga n => p.2 rfl σ G' H' a o r' S ba ga n
    | err c x e' => rw [q] at p; exact fun G' H' cls dd r q => p σ G' H' cls dd r q
    | bad => rw [q] at p; exact p⟩
theorem pds_retO {i : Nat} {x : Str} {p0 : Pos} (hN : X.N[i]? = some x) (hv : Vis X.env.scope x) (hd : (x == ("__debug__" : Str)) = false := by decide) (hcd : (x == ("__classdict__" : Str)) = false := by decide) :
    PS X (.Return (some (.Name x p0)) pos) (tS k W true (sRetO i)) :=
  (ps_ret (pe_var hN hv hd hcd)).weak fun D σ H ⟨B, G, e, r, p⟩ => by
    have p : PostS k B W true D G (match slD e[i]? with
      | some d => .rt d (e.set i Sl.no)
      | none => .bad) := p
    cases q : e[i]? with
    | none => rw [q] at p; exact p.elim
    | some s =>
      rw [q] at p
      cases s with
      | own d =>
        obtain ⟨a, o, h1, h2, h3, h4, h5⟩ := r.own q
        refine ⟨.ref a, h1, p.2 rfl σ G H a o ?_ (Gr.refl B G) h4 h5 h3⟩
        obtain ⟨fp, r0⟩ := r.drop i
        obtain ⟨fp1, r1⟩ := r
        refine ⟨fp1, ?_⟩
        have at_ : ∀ (j : Nat) (s : Sl), s ≠ .no → (e.set i Sl.no)[j]? = some s → j ≠ i ∧ e[j]? = some s := fun j s ho h => by
          by_cases hj : i = j
          · subst hj
            rw [List.getElem?_set_self (List.getElem?_eq_some_iff.mp q).1] at h; cases h; exact absurd rfl ho
          · rw [List.getElem?_set_ne hj] at h
            exact ⟨fun z => hj z.symm, h⟩
        have no : ∀ s : Sl, s.isOwn = true → s ≠ .no := fun s h z => by subst z; cases h
        have am : a ∈ fp1 i := by
          obtain ⟨a', g1, g2, _⟩ := r1.own i _ q rfl
          rw [h1] at g1
          cases g1
          rw [g2]
          exact List.mem_cons_self
        refine ⟨r0.len, fun b u qb => ?_, r1.vis, fun j d h => r1.val j d (at_ j _ (fun z => by cases z) h).2, fun j s h ho => r1.own j s (at_ j s (no s ho) h).2 ho, fun j s b h ho hb => ?_, fun j l s t b ne g1 ho1 g2 ho2 => r1.sep j l s t b ne (at_ j s (no s ho1) g1).2 ho1 (at_ l t (no t ho2) g2).2 ho2, r1.pin, r1.kept⟩
        · by_cases hb : b = a
          · subst hb; rw [upd_same] at qb; cases qb; exact h2
          · rw [upd_ne hb] at qb; exact r1.base _ _ qb
        · obtain ⟨hj, g2⟩ := at_ j s (no s ho) h
          have hba : b ≠ a := fun z => r1.sep j i s _ b hj g2 ho q rfl hb (z ▸ am)
          rw [upd_ne hba]
          exact r1.free j s b g2 ho hb
      | no => exact p.elim
      | val d => exact p.elim
      | heap zs s => exact p.elim
theorem set_sem {i : Nat} (hp : k.pin i = none) {D : Ends} {σ : L2.St} {H : Hp} (p : tS k W fr (sSet i f) D σ H) : tAsg (tD k W f) (gName i) D σ H := by
  obtain ⟨B, G, e, r, p⟩ := p
  refine ⟨B, G, e, r, p.bind.imp fun G1 H1 e1 x r1 S1 p1 v hv => ?_⟩
  cases x with
  | d d => exact p1 _ G1 H1 (r1.setVal hv hp) (Gr.refl B G1)
  | «at» j => exact p1.elim
theorem new_sem {i : Nat} (hp : k.pin i = none) {f : Ev → Res PD.D} {D : Ends} {σ : L2.St} {H : Hp} (p : tS k W fr (sNew i f) D σ H) : tAsg (tN k W f) (gName i) D σ H := by
  obtain ⟨B, G, e, r, p⟩ := p
  refine ⟨B, G, e, r, ?_⟩
  unfold sNew at p
  cases q : f e with
  | ok z e' =>
    rw [q] at p
    exact fun G' H' a o r' S ba ga n => p _ G' H' (r'.setOwn ba ga n i hp) S
  | err c x e' => rw [q] at p; exact fun G' H' cls dd r q => p σ G' H' cls dd r q
  | bad => rw [q] at p; exact p
theorem pds_set {i : Nat} {x : Str} {pos' : Pos} (hN : X.N.Nodup) (hi : X.N[i]? = some x) (hx : Loc X.env.scope x) (he : PE X a (tD k W f)) (hs : swapsWith a (some (.Name x pos')) pos.line X.env = pure false := by rfl) (hf : X.fn x = true ∨ X.env.scope.names.lookup x = some .local := by first | exact .inl rfl | exact .inr rfl | assumption) (hp : k.pin i = none := by rfl) :
    PS X (.Assign [.Name x pos'] a pos) (tS k W fr (sSet i f)) := (ps_set hN hi hx he hs hf).weak fun _ _ _ p => set_sem hp p
theorem pds_new {i : Nat} {x : Str} {pos' : Pos} {f : Ev → Res PD.D} (hN : X.N.Nodup) (hi : X.N[i]? = some x) (hx : Loc X.env.scope x) (he : PE X a (tN k W f)) (hs : swapsWith a (some (.Name x pos')) pos.line X.env = pure false := by rfl) (hf : X.fn x = true ∨ X.env.scope.names.lookup x = some .local := by first | exact .inl rfl | exact .inr rfl | assumption) (hp : k.pin i = none := by rfl) :
    PS X (.Assign [.Name x pos'] a pos) (tS k W fr (sNew i f)) := (ps_set hN hi hx he hs hf).weak fun _ _ _ p => new_sem hp p
/-- a value that is to be stored -/
def Held (k : Kn) (B G : Hp) (e : Ev) (σ : L2.St) (H : Hp) (c : CD) (v : V) (B1 : Hp) : Prop := ER k B1 G e σ H ∧ (match c with
  | .vis d => B1 = B ∧ Rep k G d v
  | .new d => ∃ a o, v = .ref a ∧ B1 = upd B a o ∧ B a = none ∧ G a = none ∧ NodeO k G d o)
theorem Held.set {B G : Hp} {e : Ev} {σ : L2.St} {H : Hp} {c : CD} {v : V} {B1 : Hp} (h : Held k B G e σ H c v B1) (i : Nat) (hp : k.pin i = none) : ER k B G (e.set i c.sl) (σ.set i (some v)) H := by
  obtain ⟨r, h⟩ := h
  cases c with
  | vis d =>
    obtain ⟨rfl, hr⟩ := h
    exact r.setVal hr hp
  | new d =>
    obtain ⟨a, o, rfl, rfl, h1, h2, h3⟩ := h
    exact r.setOwn h1 h2 h3 i hp
theorem Held.base {B G : Hp} {e : Ev} {σ : L2.St} {H : Hp} {c : CD} {v : V} {B1 : Hp} (h : Held k B G e σ H c v B1) : L2.Same B B1 := by
  obtain ⟨r, h⟩ := h
  cases c with
  | vis d =>
    obtain ⟨rfl, hr⟩ := h
    exact L2.Same.refl _
  | new d =>
    obtain ⟨a, o, rfl, rfl, h1, h2, h3⟩ := h
    exact RK.Same.upd h1
theorem Held.step {B G G2 : Hp} {e e2 : Ev} {σ σ2 : L2.St} {H H2 : Hp} {c : CD} {v : V} {B1 : Hp} (h : Held k B G e σ H c v B1) (S : Gr B1 G G2) (r2 : ER k B1 G2 e2 σ2 H2) : Held k B G2 e2 σ2 H2 c v B1 := by
  obtain ⟨r, h⟩ := h
  refine ⟨r2, ?_⟩
  cases c with
  | vis d =>
    obtain ⟨rfl, hr⟩ := h
    exact ⟨rfl, hr.mono S.s⟩
  | new d =>
    obtain ⟨a, o, rfl, rfl, h1, h2, h3⟩ := h
    refine ⟨a, o, rfl, rfl, h1, ?_, h3.mono S.s⟩
    cases q : G2 a with
    | none => rfl
    | some u =>
      rcases S.n a u q with z | z
      · rw [h2] at z; cases z
      · rw [upd_same] at z; cases z
def PostC (k : Kn) (B : Hp) (σ : L2.St) (W : WX) (P : Hp → Hp → Hp → Ev → CD → V → Prop) (G : Hp) : Res CD → Prop
  | .ok c e' => ∀ B1 G' H' v, Held k B G' e' σ H' c v B1 → Gr B G G' → P B1 G' H' e' c v
  | .err c x e' => ∀ G' H' cls dd, ER k B G' e' σ H' → ExcAt k B G' H' c x cls dd → Gr B G G' → W cls dd σ H'
  | .bad => False
def tCp (k : Kn) (W : WX) : Cp → TE
  | .v f => tD k W f
  | .n f => tN k W f
theorem cp_sem {c : Cp} {B G : Hp} {e : Ev} {σ : L2.St} {H : Hp} {P : Hp → Hp → Hp → Ev → CD → V → Prop} (r : ER k B G e σ H) (p : PostC k B σ W P G (c.run e)) : tCp k W c σ H fun v H' => ∃ B1 G' e' z, Held k B G' e' σ H' z v B1 ∧ Gr B G G' ∧ P B1 G' H' e' z v := by
  cases c with
  | v f =>
    refine ⟨B, G, e, r, ?_⟩
    have p : PostC k B σ W P G ((f e).bind fun x e1 => match x with
      | .d d => .ok (.vis d) e1
      | .at _ => .bad) := p
    cases q : f e with
    | ok x e1 =>
      rw [q] at p
      cases x with
      | d d => exact fun G' H' r' S v hv => ⟨B, G', e1, .vis d, ⟨r', rfl, hv⟩, S, p B G' H' v ⟨r', rfl, hv⟩ S⟩
      | «at» i => exact p.elim
    | err c x e' => rw [q] at p; exact p
    | bad => rw [q] at p; exact p
  | n f =>
    refine ⟨B, G, e, r, ?_⟩
    have p : PostC k B σ W P G ((f e).bind fun d e1 => .ok (.new d) e1) := p
    cases q : f e with
    | ok x e1 =>
      rw [q] at p
      exact fun G' H' a o r' S ba ga n => ⟨upd B a o, G', e1, .new x, ⟨r', a, o, rfl, rfl, ba, ga, n⟩, S, p _ G' H' _ ⟨r', a, o, rfl, rfl, ba, ga, n⟩ S⟩
    | err c x e' => rw [q] at p; exact p
    | bad => rw [q] at p; exact p
theorem PostS.bindC {B G : Hp} {D : Ends} {σ : L2.St} {r : Res CD} {g : CD → Ev → SR} (h : PostS k B W fr D G (r.andS g)) : PostC k B σ W (fun _ G1 _ e1 c _ => PostS k B W fr D G1 (g c e1)) G r := by
  cases r with
  | ok x e' => exact fun B1 G1 H1 v r S => h.mono S
  | err c x e' => exact fun G' H' cls dd r q => h σ G' H' cls dd r q
  | bad => exact h
theorem PostC.base {B B1 G : Hp} {σ : L2.St} {P : Hp → Hp → Hp → Ev → CD → V → Prop} {r : Res CD} (S : L2.Same B B1) (h : PostC k B σ W (fun _ G' H' e' c v => ∀ B2, P B2 G' H' e' c v) G r) (hh : ∀ c e' G' H' v B2, Held k B1 G' e' σ H' c v B2 → Gr B1 G G' → ∃ B3, Held k B G' e' σ H' c v B3) : PostC k B1 σ W P G r := by
  cases r with
  | ok c e' => exact fun B2 G' H' v hd S' => let ⟨B3, h3⟩ := hh c e' G' H' v B2 hd S'; h B3 G' H' v h3 (Gr.base S S') B2
  | err c x e' => exact fun G' H' cls dd r q S2 => h G' H' cls dd (r.base S) (q.base S) (Gr.base S S2)
  | bad => exact h
theorem Held.lower {B B1 B2 G : Hp} {e : Ev} {σ : L2.St} {H : Hp} {c : CD} {v : V} (S : L2.Same B B1) (h : Held k B1 G e σ H c v B2) : ∃ B3, Held k B G e σ H c v B3 := by
  obtain ⟨r, h⟩ := h
  cases c with
  | vis d =>
    obtain ⟨rfl, hr⟩ := h
    exact ⟨B, r.base S, rfl, hr⟩
  | new d =>
    obtain ⟨a, o, rfl, rfl, h1, h2, h3⟩ := h
    have hb : B a = none := by
      cases q : B a with
      | none => rfl
      | some u => rw [S _ _ q] at h1; cases h1
    refine ⟨upd B a o, r.base fun b u q => ?_, a, o, rfl, rfl, hb, h2, h3⟩
    by_cases hba : b = a
    · subst hba; rw [upd_same] at q ⊢; exact q
    · rw [upd_ne hba] at q ⊢; exact S _ _ q
theorem tCp_mono {c : Cp} {σ : L2.St} {H : Hp} {Q Q' : VK} (h : tCp k W c σ H Q) (w : ∀ v H', Q v H' → Q' v H') : tCp k W c σ H Q' := by
  cases c with
  | v f =>
    obtain ⟨B, G, e, r, p⟩ := h
    exact ⟨B, G, e, r, p.imp fun G' H' e' x r' S q v hv => w _ _ (q v hv)⟩
  | n f =>
    obtain ⟨B, G, e, r, p⟩ := h
    refine ⟨B, G, e, r, ?_⟩
    revert p
    cases f e with
    | ok z e' => exact fun t G' H' a o r S b g n => w _ _ (t G' H' a o r S b g n)
    | err c x e' => exact fun t => t
    | bad => exact fun t => t
theorem par_sem {i j : Nat} (hij : i ≠ j) (hpi : k.pin i = none) (hpj : k.pin j = none) {c1 c2 : Cp} {D : Ends} {σ : L2.St} {H : Hp} (p : tS k W fr (sPar i j c1 c2) D σ H) : tPar i j (tCons (tCp k W c1) (tCons (tCp k W c2) tNil)) D σ H := by
  obtain ⟨B, G, e, r, p⟩ := p
  refine tCp_mono (cp_sem r (PostS.bindC (σ := σ) p)) fun v H1 ⟨B1, G1, e1, z, hd, S1, p1⟩ => ?_
  have p2 : PostC k B1 σ W (fun _ G2 _ e2 y _ => PostS k B W fr D G2 (.nx ((e2.set j y.sl).set i z.sl))) G1 (c2.run e1) :=
    PostC.base hd.base (by
      have := PostS.bindC (σ := σ) p1
      revert this
      cases c2.run e1 with
      | ok c e' => exact fun t B2 G' H' v h S _ => t B2 G' H' v h S
      | err c x e' => exact fun t => t
      | bad => exact fun t => t) fun c e' G' H' v B2 h _ => h.lower hd.base
  refine tCp_mono (cp_sem hd.1 p2) fun w H2 ⟨B2, G2, e2, y, hd2, S2, p3⟩ => ⟨v, w, rfl, ?_⟩
  have r3 := hd2.set j hpj
  have r4 := (hd.step S2 r3).set i hpi
  rw [List.set_comm (some w) (some v) (Ne.symm hij)] at r4
  exact p3 _ G2 H2 r4 (Gr.refl B G2)
theorem par3_sem {i j l : Nat} (hij : i ≠ j) (hil : i ≠ l) (hjl : j ≠ l) (hpi : k.pin i = none) (hpj : k.pin j = none) (hpl : k.pin l = none) {c1 c2 c3 : Cp} {D : Ends} {σ : L2.St} {H : Hp} (p : tS k W fr (sPar3 i j l c1 c2 c3) D σ H) : (tCp k W c1) σ H fun v H1 => (tCp k W c2) σ H1 fun w H2 => (tCp k W c3) σ H2 fun u H3 => D.nx (((σ.set i (some v)).set j (some w)).set l (some u)) H3 := by
  obtain ⟨B, G, e, r, p⟩ := p
  refine tCp_mono (cp_sem r (PostS.bindC (σ := σ) p)) fun v H1 ⟨B1, G1, e1, z, hd, S1, p1⟩ => ?_
  have p2 : PostC k B1 σ W (fun _ G2 _ e2 y _ => PostS k B W fr D G2 ((c3.run e2).andS fun x e3 => .nx (((e3.set l x.sl).set j y.sl).set i z.sl))) G1 (c2.run e1) :=
    PostC.base hd.base (by
      have := PostS.bindC (σ := σ) p1
      revert this
      cases c2.run e1 with
      | ok c e' => exact fun t B2 G' H' v h S _ => t B2 G' H' v h S
      | err c x e' => exact fun t => t
      | bad => exact fun t => t) fun c e' G' H' v B2 h _ => h.lower hd.base
  refine tCp_mono (cp_sem hd.1 p2) fun w H2 ⟨B2, G2, e2, y, hd2, S2, p3⟩ => ?_
  have SB := hd.base.trans hd2.base
  have p4 : PostC k B2 σ W (fun _ G3 _ e3 x _ => PostS k B W fr D G3 (.nx (((e3.set l x.sl).set j y.sl).set i z.sl))) G2 (c3.run e2) :=
    PostC.base SB (by
      have := PostS.bindC (σ := σ) p3
      revert this
      cases c3.run e2 with
      | ok c e' => exact fun t B2 G' H' v h S _ => t B2 G' H' v h S
      | err c x e' => exact fun t => t
      | bad => exact fun t => t) fun c e' G' H' v B2 h _ => h.lower SB
  refine tCp_mono (cp_sem hd2.1 p4) fun u H3 ⟨B3, G3, e3, x, hd3, S3, p5⟩ => ?_
  have r3 := hd3.set l hpl
  have r4 := (hd2.step S3 r3).set j hpj
  have r5 := ((hd.step S2 (hd2.1.base hd2.base)).step (Gr.base hd2.base S3) r4).set i hpi
  have e0 : ((σ.set l (some u)).set j (some w)).set i (some v) = ((σ.set i (some v)).set j (some w)).set l (some u) := by
    rw [List.set_comm (some u) (some w) (Ne.symm hjl), List.set_comm (some u) (some v) (Ne.symm hil), List.set_comm (some w) (some v) (Ne.symm hij)]
  rw [e0] at r5
  exact p5 _ G3 H3 r5 (Gr.refl B G3)
/-- targets -/
def Agr (ws : List Nat) (σ σ' : L2.St) : Prop := σ'.length = σ.length ∧ ∀ i : Nat, i ∉ ws → σ'[i]? = σ[i]?
theorem Agr.refl {ws : List Nat} {σ : L2.St} : Agr ws σ σ := ⟨rfl, fun _ _ => rfl⟩
theorem Agr.app {ws us : List Nat} {σ σ1 σ2 : L2.St} (a : Agr ws σ σ1) (b : Agr us σ1 σ2) : Agr (ws ++ us) σ σ2 := ⟨b.1.trans a.1, fun i hi => (b.2 i fun z => hi (List.mem_append_right _ z)).trans (a.2 i fun z => hi (List.mem_append_left _ z))⟩
def gD (k : Kn) (s : PD.D → Ev → Option Ev) (ws : List Nat) : TG := fun v σ H Q => ∃ B G e d e', ER k B G e σ H ∧ Rep k G d v ∧ s d e = some e' ∧ ∀ σ', ER k B G e' σ' H → Agr ws σ σ' → Q σ' H
def gDs (k : Kn) (s : List PD.D → Ev → Option Ev) (ws : List Nat) : TGs := fun vs σ H Q => ∃ B G e ds e', ER k B G e σ H ∧ RepAll k G ds vs ∧ s ds e = some e' ∧ ∀ σ', ER k B G e' σ' H → Agr ws σ σ' → Q σ' H
theorem _root_.L2.PG.weak {X : Cx} {s : Expr} {t t' : TG} (h : PG X s t) (w : ∀ v σ H Q, t' v σ H Q → t v σ H Q) : PG X s t' := ⟨fun pins s σ H v u Q I r q => h.run pins s σ H v u Q I r (w _ _ _ _ q)⟩
theorem _root_.L2.PGs.weak {X : Cx} {s : List Expr} {t t' : TGs} (h : PGs X s t) (w : ∀ v σ H Q, t' v σ H Q → t v σ H Q) : PGs X s t' := ⟨fun pins s σ H v u Q I r q => h.run pins s σ H v u Q I r (w _ _ _ _ q)⟩
theorem pgd_name {i : Nat} {x : Str} (hN : X.N.Nodup) (hi : X.N[i]? = some x) (hx : Loc X.env.scope x) (hf : X.fn x = true ∨ X.env.scope.names.lookup x = some .local := by first | exact .inl rfl | exact .inr rfl | assumption) (hp : k.pin i = none := by rfl) : PG X (.Name x pos) (gD k (gN i) [i]) :=
  (pg_name hN hi hx hf).weak fun v σ H Q ⟨B, G, e, d, e', r, hr, q, w⟩ => by
    cases q
    exact w _ (r.setVal hr hp) ⟨List.length_set, fun j hj => List.getElem?_set_ne fun z => hj (by rw [← z]; exact List.mem_cons_self)⟩
theorem pgds_nil : PGs X [] (gDs k gsNil []) := pgs_nil.weak fun vs σ H Q ⟨B, G, e, ds, e', r, hr, q, w⟩ => by
  cases hr with
  | nil => cases q; exact ⟨rfl, w _ r Agr.refl⟩
  | cons _ _ => cases q
theorem pgds_cons {t : Expr} {ts : List Expr} {s : PD.D → Ev → Option Ev} {ss : List PD.D → Ev → Option Ev} {ws us : List Nat} (h1 : PG X t (gD k s ws)) (h2 : PGs X ts (gDs k ss us))
    (hs : (assignEach (t :: ts) X.env).map (·.2) = assign t X.env :: (assignEach ts X.env).map (·.2) := by rfl) : PGs X (t :: ts) (gDs k (gsCons s ss) (ws ++ us)) :=
  (pgs_cons h1 h2 hs).weak fun vs σ H Q ⟨B, G, e, ds, e', r, hr, q, w⟩ => by
    cases hr with
    | nil => cases q
    | cons p pr =>
      have q := Option.bind_eq_some_iff.mp q
      obtain ⟨e1, q1, q2⟩ := q
      exact ⟨_, _, rfl, B, G, e, _, e1, r, p, q1, fun σ' r' a => ⟨B, G, e1, _, e', r', pr, q2, fun σ2 r2 a2 => w σ2 r2 (a.app a2)⟩⟩
theorem pgd_tup {ts : List Expr} {n kk : Nat} {ss : List PD.D → Ev → Option Ev} {ws : List Nat} (hK : X.K = k.K) (hc : X.calm = true) (h : PGs X ts (gDs k ss ws)) (hl : ∀ ds e e', ss ds e = some e' → ds.length = n)
    (hn : (assignEach ts X.env).length = n := by rfl) (hst : (assignEach ts X.env).findIdx? (·.1) = none := by rfl) : PG X (.Tuple ts kk pos) (gD k (gT ss) ws) :=
  (pg_tup hc h hn hst).weak fun v σ H Q ⟨B, G, e, d, e', r, hr, q, w⟩ => by
    rw [hK]
    cases d with
    | tup ds =>
      cases hr with
      | tup a b ra => exact ⟨_, _, rfl, SqT.of (r.vis _ _ a), by rw [← ra.len]; exact hl _ _ _ q, B, G, e, ds, e', r, ra, q, w⟩
    | _ => cases q
theorem gs_nil_len : ∀ ds e e', gsNil ds e = some e' → ds.length = 0
  | [], _, _, _ => rfl
  | _ :: _, _, _, h => by cases h
theorem gs_cons_len {s : PD.D → Ev → Option Ev} {ss : List PD.D → Ev → Option Ev} {n : Nat} (h : ∀ ds e e', ss ds e = some e' → ds.length = n) : ∀ ds e e', gsCons s ss ds e = some e' → ds.length = n + 1
  | [], _, _, q => by cases q
  | _ :: ds, _, _, q => by
    obtain ⟨e1, _, q2⟩ := Option.bind_eq_some_iff.mp q
    exact congrArg (· + 1) (h _ _ _ q2)
theorem pds_asg {tg : Expr} {s : PD.D → Ev → Option Ev} {ws : List Nat} (he : PE X a (tD k W f)) (hg : PG X tg (gD k s ws)) (hs : swapsWithSole [tg] a pos.line X.env = pure false := by rfl) (hw : swappedStores [tg] a X.env = pure none := by rfl)
    (h1 : (assignEach [tg] X.env).map (·.2) = [assign tg X.env] := by rfl) : PS X (.Assign [tg] a pos) (tS k W fr (sAsg s f)) :=
  (ps_asg he hg hs hw h1).weak fun D σ H ⟨B, G, e, r, p⟩ => ⟨B, G, e, r, p.bind.imp fun G1 H1 e1 x r1 S1 p1 v hv => by
    cases x with
    | d d =>
      have p1 : PostS k B W fr D G1 (match s d e1 with
        | some e2 => .nx e2
        | none => .bad) := p1
      cases q : s d e1 with
      | none => rw [q] at p1; exact p1.elim
      | some e2 =>
        rw [q] at p1
        exact ⟨B, G1, e1, d, e2, r1, hv, q, fun σ' r' _ => p1 σ' G1 H1 r' (Gr.refl B G1)⟩
    | «at» i => exact p1.elim⟩
end
end PD


set_option Elab.async false
set_option linter.all false
set_option maxRecDepth 100000
set_option maxHeartbeats 1000000
/-! PD4: loops and comprehensions over data. -/
namespace PD
open PySem PySem.Spec PyProof.Rows L2 RK
/-- the iterator J yields the data ds, wherever C holds -/
structure ItD (k : Kn) (J : It) (ds : List D) (C : Hp → Ev → L2.St → Prop) : Prop where
  go : ∀ {B G : Hp} {e : Ev} {σ : L2.St} {H : Hp} {i : Nat}, ER k B G e σ H → C G e σ → i < ds.length → J.go i H
  yld : ∀ {B G : Hp} {e : Ev} {σ : L2.St} {H : Hp} {i : Nat} {x : V} {H' : Hp}, ER k B G e σ H → C G e σ → i < ds.length → J.yld i H x H' → ∃ d G', ds[i]? = some d ∧ Ext G H G' H' ∧ Rep k G' d x
  stop : ∀ {B G : Hp} {e : Ev} {σ : L2.St} {H : Hp} {i : Nat}, ER k B G e σ H → C G e σ → i = ds.length → J.stop i H
def strItems (s : Str) : List D := s.cps.toList.map fun c => D.str ⟨#[c]⟩
def items : D → Option (List D)
  | .tup ds => some ds
  | .lst ds => some ds
  | .str s => some (strItems s)
  | _ => none
def rngItems (lo : Int) (n : Nat) : List D := (List.range n).map fun (i : Nat) => D.int (lo + (i : Int))
def enumItems (ds : List D) : List D := (List.range ds.length).zip ds |>.map fun p => D.tup [.int (p.1 : Int), p.2]
def zipItems (ds es : List D) : List D := (ds.zip es).map fun p => D.tup [p.1, p.2]
section
variable {k : Kn}
theorem itd_lst {a : Addr} {ds : List D} : ItD k (Itl k.K a) ds fun G e σ => Rep k G (.lst ds) (.ref a) where
  go := fun r c hi => by
    cases c with
    | lst h _ ra => exact ⟨_, _, SqL.of (r.vis _ _ h), List.getElem?_eq_getElem (by rw [← ra.len]; exact hi)⟩
  yld := fun {B G e σ H i x H'} r c hi y => by
    cases c with
    | lst h _ ra =>
      obtain ⟨rfl, y⟩ := y
      have q := y _ (SqL.of (r.vis _ _ h))
      obtain ⟨d, h1, h2⟩ := ra.getV q
      exact ⟨d, G, h1, Ext.refl r.vis, h2⟩
  stop := fun r c hi => by
    cases c with
    | lst h _ ra => exact ⟨_, SqL.of (r.vis _ _ h), by have := ra.len; omega⟩
theorem itd_tup {a : Addr} {ds : List D} : ItD k (Itt k.K a) ds fun G e σ => Rep k G (.tup ds) (.ref a) where
  go := fun r c hi => by
    cases c with
    | tup h _ ra => exact ⟨_, _, SqT.of (r.vis _ _ h), List.getElem?_eq_getElem (by rw [← ra.len]; exact hi)⟩
  yld := fun {B G e σ H i x H'} r c hi y => by
    cases c with
    | tup h _ ra =>
      obtain ⟨rfl, y⟩ := y
      have q := y _ (SqT.of (r.vis _ _ h))
      obtain ⟨d, h1, h2⟩ := ra.getV q
      exact ⟨d, G, h1, Ext.refl r.vis, h2⟩
  stop := fun r c hi => by
    cases c with
    | tup h _ ra => exact ⟨_, SqT.of (r.vis _ _ h), by have := ra.len; omega⟩
theorem itd_own {a : Addr} {ds : List D} {j : Nat} : ItD k (Itl k.K a) ds fun G e σ => e[j]? = some (Sl.own (.lst ds)) ∧ σ[j]? = some (some (.ref a)) where
  go := fun r c hi => by
    obtain ⟨a', o, h1, h2, h3, _⟩ := r.own c.1
    rw [c.2] at h1
    cases h1
    cases h3 with
    | lst _ ra => exact ⟨_, _, SqL.of h2, List.getElem?_eq_getElem (by rw [← ra.len]; exact hi)⟩
  yld := fun {B G e σ H i x H'} r c hi y => by
    obtain ⟨a', o, h1, h2, h3, _⟩ := r.own c.1
    rw [c.2] at h1
    cases h1
    cases h3 with
    | lst _ ra =>
      obtain ⟨rfl, y⟩ := y
      have q := y _ (SqL.of h2)
      obtain ⟨d, h4, h5⟩ := ra.getV q
      exact ⟨d, G, h4, Ext.refl r.vis, h5⟩
  stop := fun r c hi => by
    obtain ⟨a', o, h1, h2, h3, _⟩ := r.own c.1
    rw [c.2] at h1
    cases h1
    cases h3 with
    | lst _ ra => exact ⟨_, SqL.of h2, by have := ra.len; omega⟩
theorem itd_scr {a : Addr} {ns : List Int} : ItD k (Itl k.K a) (ns.map D.int) fun G e σ => Rep k G (.scr ns) (.ref a) where
  go := fun r c hi => by
    cases c with
    | scr h _ => exact ⟨_, _, sqL_mono r.vis h, List.getElem?_eq_getElem (by rw [List.length_map] at hi ⊢; exact hi)⟩
  yld := fun {B G e σ H i x H'} r c hi y => by
    cases c with
    | scr h _ =>
      obtain ⟨rfl, y⟩ := y
      have q := y _ (sqL_mono r.vis h)
      rw [List.getElem?_map, Option.map_eq_some_iff] at q
      obtain ⟨n, q1, rfl⟩ := q
      exact ⟨.int n, G, by rw [List.getElem?_map, q1]; rfl, Ext.refl r.vis, .int n⟩
  stop := fun r c hi => by
    cases c with
    | scr h _ => exact ⟨_, sqL_mono r.vis h, by rw [List.length_map] at hi ⊢; omega⟩
theorem itd_rng {lo : Int} {n : Nat} : ItD k (Itr lo n) (rngItems lo n) fun _ _ _ => True where
  go := fun r c hi => by
    unfold rngItems at hi
    rw [List.length_map, List.length_range] at hi
    exact hi
  yld := fun {B G e σ H i x H'} r c hi y => by
    obtain ⟨rfl, rfl⟩ := y
    unfold rngItems at hi ⊢
    rw [List.length_map, List.length_range] at hi
    exact ⟨.int (lo + (i : Int)), G, by rw [List.getElem?_map, List.getElem?_range hi]; rfl, Ext.refl r.vis, .int _⟩
  stop := fun r c hi => by
    unfold rngItems at hi
    rw [List.length_map, List.length_range] at hi
    exact Nat.le_of_eq hi.symm
theorem strOk_one {s : Str} (h : PyData.strOk s = true) {i c : Nat} (e : s.cps[i]? = some c) : PyData.strOk ⟨#[c]⟩ = true := by
  unfold PyData.strOk at h ⊢
  rw [Array.all_eq_true] at h
  obtain ⟨hi, e⟩ := Array.getElem?_eq_some_iff.mp e
  have := h i hi
  rw [e] at this
  simpa using this
theorem itd_str {s : Str} (h : PyData.strOk s = true) : ItD k (Its s) (strItems s) fun _ _ _ => True where
  go := fun r c hi => by
    unfold strItems at hi
    rw [List.length_map, Array.length_toList] at hi
    exact hi
  yld := fun {B G e σ H i x H'} r c hi y => by
    obtain ⟨rfl, c, hc, rfl⟩ := y
    refine ⟨.str ⟨#[c]⟩, G, ?_, Ext.refl r.vis, .str _ (strOk_one h hc)⟩
    unfold strItems
    rw [List.getElem?_map, Array.getElem?_toList, hc]
    rfl
  stop := fun r c hi => by
    unfold strItems at hi
    rw [List.length_map, Array.length_toList] at hi
    exact Nat.le_of_eq hi.symm
theorem enum_get {ds : List D} {i : Nat} {d : D} (h : ds[i]? = some d) : (enumItems ds)[i]? = some (.tup [.int (i : Int), d]) := by
  unfold enumItems
  have hi := (List.getElem?_eq_some_iff.mp h).1
  have e : ((List.range ds.length).zip ds)[i]? = some (i, d) := List.getElem?_zip_eq_some.mpr ⟨List.getElem?_range hi, h⟩
  rw [List.getElem?_map, e]
  rfl
theorem enum_len {ds : List D} : (enumItems ds).length = ds.length := by
  unfold enumItems
  rw [List.length_map, List.length_zip, List.length_range, Nat.min_self]
theorem zip_len {ds es : List D} : (zipItems ds es).length = min ds.length es.length := by
  unfold zipItems
  rw [List.length_map, List.length_zip]
theorem pair_new {G H : Hp} {T : Addr} {x y : V} {d1 d2 : D} (S : L2.Same G H) (hT : H T = none) (h1 : Rep k G d1 x) (h2 : Rep k G d2 y) : ∃ G', Ext G H G' (upd H T (.tup [x, y])) ∧ Rep k G' (.tup [d1, d2]) (.ref T) := by
  have e := Ext.new (o := .tup [x, y]) S hT
  refine ⟨_, e, .tup upd_same (by show 2 ≤ sizeLine; rw [sizeLine_eq]; decide) (.cons (h1.mono e.gg) (.cons (h2.mono e.gg) .nil))⟩
theorem itd_enum {a : Addr} {ds : List D} : ItD k (Ite k.K a) (enumItems ds) fun G e σ => Rep k G (.lst ds) (.ref a) where
  go := fun {B G e σ H i} r c hi => by
    rw [enum_len] at hi
    cases c with
    | lst h _ ra => exact ⟨_, _, SqL.of (r.vis _ _ h), List.getElem?_eq_getElem (by rw [← ra.len]; exact hi)⟩
  yld := fun {B G e σ H i x H'} r c hi y => by
    cases c with
    | lst h _ ra =>
      obtain ⟨T, x0, rfl, hT, rfl, y⟩ := y
      have q := y _ (SqL.of (r.vis _ _ h))
      obtain ⟨d, h1, h2⟩ := ra.getV q
      obtain ⟨G', e1, r1⟩ := pair_new (d1 := .int (i : Int)) r.vis hT (.int _) h2
      exact ⟨_, G', enum_get h1, e1, r1⟩
  stop := fun r c hi => by
    rw [enum_len] at hi
    cases c with
    | lst h _ ra => exact ⟨_, SqL.of (r.vis _ _ h), by rw [← ra.len]; omega⟩
theorem itd_enumT {a : Addr} {ds : List D} : ItD k (IteT k.K a) (enumItems ds) fun G e σ => Rep k G (.tup ds) (.ref a) where
  go := fun {B G e σ H i} r c hi => by
    rw [enum_len] at hi
    cases c with
    | tup h _ ra => exact ⟨_, _, SqT.of (r.vis _ _ h), List.getElem?_eq_getElem (by rw [← ra.len]; exact hi)⟩
  yld := fun {B G e σ H i x H'} r c hi y => by
    cases c with
    | tup h _ ra =>
      obtain ⟨T, x0, rfl, hT, rfl, y⟩ := y
      have q := y _ (SqT.of (r.vis _ _ h))
      obtain ⟨d, h1, h2⟩ := ra.getV q
      obtain ⟨G', e1, r1⟩ := pair_new (d1 := .int (i : Int)) r.vis hT (.int _) h2
      exact ⟨_, G', enum_get h1, e1, r1⟩
  stop := fun r c hi => by
    rw [enum_len] at hi
    cases c with
    | tup h _ ra => exact ⟨_, SqT.of (r.vis _ _ h), by have := ra.len; omega⟩
theorem itd_zip {a b : Addr} {ds es : List D} : ItD k (Itz k.K a b) (zipItems ds es) fun G e σ => Rep k G (.lst ds) (.ref a) ∧ Rep k G (.lst es) (.ref b) where
  go := fun r c hi => by
    rw [zip_len] at hi
    obtain ⟨c1, c2⟩ := c
    cases c1 with
    | lst h1 _ ra => cases c2 with
      | lst h2 _ rb => exact ⟨_, _, _, _, SqL.of (r.vis _ _ h1), SqL.of (r.vis _ _ h2), List.getElem?_eq_getElem (by rw [← ra.len]; omega), List.getElem?_eq_getElem (by rw [← rb.len]; omega)⟩
  yld := fun {B G e σ H i x H'} r c hi y => by
    obtain ⟨c1, c2⟩ := c
    cases c1 with
    | lst h1 _ ra => cases c2 with
      | lst h2 _ rb =>
        obtain ⟨T, x1, x2, rfl, hT, rfl, y1, y2⟩ := y
        obtain ⟨d1, g1, g2⟩ := ra.getV (y1 _ (SqL.of (r.vis _ _ h1)))
        obtain ⟨d2, g3, g4⟩ := rb.getV (y2 _ (SqL.of (r.vis _ _ h2)))
        obtain ⟨G', e1, r1⟩ := pair_new r.vis hT g2 g4
        refine ⟨_, G', ?_, e1, r1⟩
        unfold zipItems
        have e : (ds.zip es)[i]? = some (d1, d2) := List.getElem?_zip_eq_some.mpr ⟨g1, g3⟩
        rw [List.getElem?_map, e]
        rfl
  stop := fun r c hi => by
    rw [zip_len] at hi
    obtain ⟨c1, c2⟩ := c
    cases c1 with
    | lst h1 _ ra => cases c2 with
      | lst h2 _ rb => exact ⟨_, _, SqL.of (r.vis _ _ h1), SqL.of (r.vis _ _ h2), by have := ra.len; have := rb.len; omega⟩
end
/-! ### what a loop walks, by data: the items, and the condition under which they stay -/
/-- where the items come from -/
inductive Src where
  | seen | own (j : Nat) (d : D)
/-- the reading of an iterand -/
def tI (k : Kn) (W : WX) (f : Ev → Res (List D × Src)) : TI := fun σ H R => ∃ B G e, ER k B G e σ H ∧ PostR k B σ W (fun G' H' e' x => match x.2 with
  | .seen => x.1.length ≤ sizeLine → ∀ J C, ItD k J x.1 C → C G' e' σ → (∀ G1 G2 e1 e2 σ1 σ2, L2.Same G1 G2 → C G1 e1 σ1 → C G2 e2 σ2) → R J H'
  | .own j d => x.1.length ≤ sizeLine → e'[j]? = some (Sl.own d) → ∀ J a, σ[j]? = some (some (.ref a)) → ItD k J x.1 (fun _ e σ => e[j]? = some (Sl.own d) ∧ σ[j]? = some (some (.ref a))) → ItD k J x.1 (fun G _ _ => Rep k G d (.ref a)) → R J H') G (f e)
theorem _root_.L2.PI.weak {X : Cx} {tg s : Expr} {t t' : TI} (h : PI X tg s t) (w : ∀ σ H R, t' σ H R → t σ H R) : PI X tg s t' := ⟨fun pins s σ H R I q => h.run pins s σ H R I (w _ _ _ q)⟩
/-- over a list -/
def iL (f : Ev → Res RV) : Ev → Res (List D × Src) := fun e => (f e).bind fun x e1 => match x with
  | .d (.lst ds) => .ok (ds, .seen) e1
  | .d (.scr ns) => .ok (ns.map D.int, .seen) e1
  | .at j => match e1[j]? with
    | some (.own (.lst ds)) => .ok (ds, .own j (.lst ds)) e1
    | _ => .bad
  | _ => .bad
/-- over a tuple -/
def iT (f : Ev → Res RV) : Ev → Res (List D × Src) := fun e => (f e).bind fun x e1 => match x with
  | .d (.tup ds) => .ok (ds, .seen) e1
  | _ => .bad
/-- over a text -/
def iS (f : Ev → Res RV) : Ev → Res (List D × Src) := fun e => (f e).bind fun x e1 => match x with
  | .d (.str s) => if s.length ≤ 1000 then .ok (strItems s, .seen) e1 else .bad
  | _ => .bad
def iR1 (fs : Ev → Res (List RV)) : Ev → Res (List D × Src) := fun e => (fs e).bind fun xs e1 => match xs with
  | [.d (.int j)] => if -1000000 ≤ j ∧ j ≤ 1000000 then .ok (rngItems 0 j.toNat, .seen) e1 else .bad
  | _ => .bad
def iR2 (fs : Ev → Res (List RV)) : Ev → Res (List D × Src) := fun e => (fs e).bind fun xs e1 => match xs with
  | [.d (.int i), .d (.int j)] => if -1000000 ≤ i ∧ i ≤ 1000000 ∧ -1000000 ≤ j ∧ j ≤ 1000000 then .ok (rngItems i (j - i).toNat, .seen) e1 else .bad
  | _ => .bad
def iEn (fs : Ev → Res (List RV)) : Ev → Res (List D × Src) := fun e => (fs e).bind fun xs e1 => match xs with
  | [.d (.lst ds)] => .ok (enumItems ds, .seen) e1
  | _ => .bad
def iEnT (fs : Ev → Res (List RV)) : Ev → Res (List D × Src) := fun e => (fs e).bind fun xs e1 => match xs with
  | [.d (.tup ds)] => .ok (enumItems ds, .seen) e1
  | _ => .bad
def iZp (fs : Ev → Res (List RV)) : Ev → Res (List D × Src) := fun e => (fs e).bind fun xs e1 => match xs with
  | [.d (.lst ds), .d (.lst es)] => .ok (zipItems ds es, .seen) e1
  | _ => .bad
section
variable {k : Kn} {X : Cx} {W : WX} {fr : Bool} {f : Ev → Res RV} {fs : Ev → Res (List RV)} {a b c tg : Expr} {es : List Expr} {p pos tpos : Pos} {elts : List Expr} {kk : Nat}
theorem same_rep {d : D} {v : V} : ∀ (G1 G2 : Hp) (e1 e2 : Ev) (σ1 σ2 : L2.St), L2.Same G1 G2 → Rep k G1 d v → Rep k G2 d v := fun _ _ _ _ _ _ S h => h.mono S
theorem pdi_l (hK : X.K = k.K) (ha : PE X a (tD k W f)) : PI X tg a (tI k W (iL f)) :=
  (pi_list ha).weak fun σ H R ⟨B, G, e, r, p⟩ => ⟨B, G, e, r, p.bind.imp fun G1 H1 e1 x r1 S1 p1 v hv => by
    rw [hK]
    cases x with
    | d d =>
      cases d with
      | lst ds =>
        have hv : Rep k G1 (.lst ds) v := hv
        have hv0 := hv
        cases hv with
        | lst h hz ra => exact ⟨_, rfl, ⟨_, SqL.of (r1.vis _ _ h)⟩, p1 G1 H1 r1 (Gr.refl B G1) (by show ds.length ≤ sizeLine; rw [ra.len]; exact hz) _ _ itd_lst hv0 same_rep⟩
      | scr ns =>
        have hv : Rep k G1 (.scr ns) v := hv
        have hv0 := hv
        cases hv with
        | scr h hz => exact ⟨_, rfl, ⟨_, sqL_mono r1.vis h⟩, p1 G1 H1 r1 (Gr.refl B G1) (by show (ns.map D.int).length ≤ sizeLine; rw [List.length_map]; exact len1000 (by omega)) _ _ itd_scr hv0 same_rep⟩
      | _ => exact p1.elim
    | «at» j =>
      have hv : σ[j]? = some (some v) := hv
      dsimp only at p1
      split at p1
      · rename_i ds q
        obtain ⟨a', o, h1, h2, h3, _⟩ := r1.own q
        rw [hv] at h1
        cases h1
        cases h3 with
        | lst hz ra => exact ⟨_, rfl, ⟨_, SqL.of h2⟩, p1 G1 H1 r1 (Gr.refl B G1) (by show ds.length ≤ sizeLine; rw [ra.len]; exact hz) q _ a' hv itd_own itd_lst⟩
      · exact p1.elim⟩
theorem pdi_t (hK : X.K = k.K) (ha : PE X a (tD k W f)) : PI X tg a (tI k W (iT f)) :=
  (pi_tup ha).weak fun σ H R ⟨B, G, e, r, p⟩ => ⟨B, G, e, r, p.bind.imp fun G1 H1 e1 x r1 S1 p1 v hv => by
    rw [hK]
    cases x with
    | d d =>
      cases d with
      | tup ds =>
        have hv : Rep k G1 (.tup ds) v := hv
        have hv0 := hv
        cases hv with
        | tup h hz ra => exact ⟨_, rfl, ⟨_, SqT.of (r1.vis _ _ h)⟩, p1 G1 H1 r1 (Gr.refl B G1) (by show ds.length ≤ sizeLine; rw [ra.len]; exact hz) _ _ itd_tup hv0 same_rep⟩
      | _ => exact p1.elim
    | «at» j => exact p1.elim⟩
theorem pdi_s (ha : PE X a (tD k W f)) : PI X tg a (tI k W (iS f)) :=
  (pi_str ha).weak fun σ H R ⟨B, G, e, r, p⟩ => ⟨B, G, e, r, p.bind.imp fun G1 H1 e1 x r1 S1 p1 v hv => by
    cases x with
    | d d =>
      cases d with
      | str s =>
        have hv : Rep k G1 (.str s) v := hv
        dsimp only at p1
        split at p1
        · rename_i hl
          cases hv with
          | str _ ok => exact ⟨_, rfl, p1 G1 H1 r1 (Gr.refl B G1) (by show (strItems s).length ≤ sizeLine; unfold strItems; rw [List.length_map, Array.length_toList]; exact len1000 hl) _ _ (itd_str ok) trivial fun _ _ _ _ _ _ _ z => z⟩
        · exact p1.elim
      | _ => exact p1.elim
    | «at» j => exact p1.elim⟩
theorem rng_le {lo : Int} {n : Nat} (h : n ≤ 2000000) : (rngItems lo n).length ≤ sizeLine := by
  unfold rngItems
  rw [List.length_map, List.length_range, sizeLine_eq]
  omega
theorem rep_int {G : Hp} {i : Int} {v : V} (h : Rep k G (.int i) v) : v = .int i := by cases h; rfl
theorem pdi_r1 (hg : Gl X "range") (hm : X.mg "range" = none) (ha : PA X [a] (tL k W fs)) (hs : starEach [a] X.env = [(false, eval a X.env)] := by rfl) : PI X tg (.Call (.Name "range" p) [a] [] pos) (tI k W (iR1 fs)) :=
  (pi_range1 hg hm ha hs).weak fun σ H R ⟨B, G, e, r, p⟩ => ⟨B, G, e, r, p.bind.imp fun G1 H1 e1 xs r1 S1 p1 vs hvs => by
    split at p1
    · rename_i j
      split at p1
      · rename_i hj
        obtain ⟨v, ws, rfl, hv, rfl⟩ := hvs
        cases rep_int hv
        exact ⟨j, rfl, by omega, by omega, p1 G1 H1 r1 (Gr.refl B G1) (rng_le (by omega)) _ _ itd_rng trivial fun _ _ _ _ _ _ _ z => z⟩
      · exact p1.elim
    · exact p1.elim⟩
theorem pdi_r2 (hg : Gl X "range") (hm : X.mg "range" = none) (ha : PA X [a, b] (tL k W fs)) (hs : starEach [a, b] X.env = [(false, eval a X.env), (false, eval b X.env)] := by rfl) (hs2 : starEach [b] X.env = [(false, eval b X.env)] := by rfl) : PI X tg (.Call (.Name "range" p) [a, b] [] pos) (tI k W (iR2 fs)) :=
  (pi_range2 hg hm ha hs hs2).weak fun σ H R ⟨B, G, e, r, p⟩ => ⟨B, G, e, r, p.bind.imp fun G1 H1 e1 xs r1 S1 p1 vs hvs => by
    split at p1
    · rename_i i j
      split at p1
      · rename_i hj
        obtain ⟨v, ws, rfl, hv, v2, ws2, rfl, hv2, rfl⟩ := hvs
        cases rep_int hv
        cases rep_int hv2
        exact ⟨i, j, rfl, by omega, p1 G1 H1 r1 (Gr.refl B G1) (rng_le (by omega)) _ _ itd_rng trivial fun _ _ _ _ _ _ _ z => z⟩
      · exact p1.elim
    · exact p1.elim⟩
theorem pdi_en (hK : X.K = k.K) (hg : Gl X "enumerate") (hm : X.mg "enumerate" = none) (ha : PA X [a] (tL k W fs)) (hs : starEach [a] X.env = [(false, eval a X.env)] := by rfl) : PI X (.Tuple elts kk tpos) (.Call (.Name "enumerate" p) [a] [] pos) (tI k W (iEn fs)) :=
  (pi_enum hg hm ha hs).weak fun σ H R ⟨B, G, e, r, p⟩ => ⟨B, G, e, r, p.bind.imp fun G1 H1 e1 xs r1 S1 p1 vs hvs => by
    rw [hK]
    split at p1
    · rename_i ds
      obtain ⟨v, ws, rfl, hv, rfl⟩ := hvs
      have hv : Rep k G1 (.lst ds) v := hv
      have hv0 := hv
      cases hv with
      | lst h hz ra => exact ⟨_, _, rfl, SqL.of (r1.vis _ _ h), p1 G1 H1 r1 (Gr.refl B G1) (by show (enumItems ds).length ≤ sizeLine; rw [enum_len, ra.len]; exact hz) _ _ itd_enum hv0 same_rep⟩
    · exact p1.elim⟩
theorem pdi_enT (hK : X.K = k.K) (hg : Gl X "enumerate") (hm : X.mg "enumerate" = none) (ha : PA X [a] (tL k W fs)) (hs : starEach [a] X.env = [(false, eval a X.env)] := by rfl) : PI X (.Tuple elts kk tpos) (.Call (.Name "enumerate" p) [a] [] pos) (tI k W (iEnT fs)) :=
  (pi_enumT hg hm ha hs).weak fun σ H R ⟨B, G, e, r, p⟩ => ⟨B, G, e, r, p.bind.imp fun G1 H1 e1 xs r1 S1 p1 vs hvs => by
    rw [hK]
    split at p1
    · rename_i ds
      obtain ⟨v, ws, rfl, hv, rfl⟩ := hvs
      have hv : Rep k G1 (.tup ds) v := hv
      have hv0 := hv
      cases hv with
      | tup h hz ra => exact ⟨_, _, rfl, SqT.of (r1.vis _ _ h), p1 G1 H1 r1 (Gr.refl B G1) (by show (enumItems ds).length ≤ sizeLine; rw [enum_len, ra.len]; exact hz) _ _ itd_enumT hv0 same_rep⟩
    · exact p1.elim⟩
theorem pdi_zp (hK : X.K = k.K) (hg : Gl X "zip") (hm : X.mg "zip" = none) (ha : PA X [a, b] (tL k W fs)) (hs : starEach [a, b] X.env = (false, eval a X.env) :: starEach [b] X.env := by rfl) (hs2 : (backTo pos (starEach [b] X.env)).any (·.1) = false := by rfl) : PI X (.Tuple elts kk tpos) (.Call (.Name "zip" p) [a, b] [] pos) (tI k W (iZp fs)) :=
  (pi_zip hg hm ha hs hs2).weak fun σ H R ⟨B, G, e, r, p⟩ => ⟨B, G, e, r, p.bind.imp fun G1 H1 e1 xs r1 S1 p1 vs hvs => by
    rw [hK]
    split at p1
    · rename_i ds es'
      obtain ⟨v, ws, rfl, hv, v2, ws2, rfl, hv2, rfl⟩ := hvs
      have hv : Rep k G1 (.lst ds) v := hv
      have hv0 := hv
      have hv2 : Rep k G1 (.lst es') v2 := hv2
      have hv20 := hv2
      cases hv with
      | lst h hz ra => cases hv2 with
        | lst h2 _ rb => exact ⟨_, _, _, _, rfl, SqL.of (r1.vis _ _ h), SqL.of (r1.vis _ _ h2), p1 G1 H1 r1 (Gr.refl B G1) (by show (zipItems ds es').length ≤ sizeLine; rw [zip_len]; have := ra.len; omega) _ _ itd_zip ⟨hv0, hv20⟩ fun _ _ _ _ _ _ S ⟨z1, z2⟩ => ⟨z1.mono S, z2.mono S⟩⟩
    · exact p1.elim⟩
end
/-! ### for -/
/-- the turns of a loop: an owned list that is walked is let go ahead of it -/
def forL (s : D → Ev → Option Ev) (g : Ev → SR) : List D → Ev → SR
  | [], e => .nx e
  | d :: ds, e => match s d e with
    | none => .bad
    | some e1 => match g e1 with
      | .nx e2 => forL s g ds e2
      | .ct e2 => forL s g ds e2
      | .bk e2 => .nx e2
      | .rt z e2 => .rt z e2
      | .err c x e2 => .err c x e2
      | .bad => .bad
def sFor (f : Ev → Res (List D × Src)) (s : D → Ev → Option Ev) (g : Ev → SR) : Ev → SR := fun e => (f e).andS fun x e1 => match x.2 with
  | .seen => forL s g x.1 e1
  | .own j d => forL s g x.1 (e1.set j (Sl.val d))
section
variable {k : Kn} {X : Cx} {W : WX} {fr : Bool}
theorem for_sem {J : It} {ds : List D} {C : Hp → Ev → L2.St → Prop} (it : ItD k J ds C) (cm : ∀ G1 G2 e1 e2 σ1 σ2, L2.Same G1 G2 → C G1 e1 σ1 → C G2 e2 σ2) {s : D → Ev → Option Ev} {ws : List Nat} {g : Ev → SR} {B G : Hp} {e : Ev} {σ : L2.St} {H : Hp} {Dn : Ends}
    (r : ER k B G e σ H) (hc : C G e σ) (p : PostS k B W fr Dn G (forL s g ds e)) :
    ∃ Wv : Nat → Nat → L2.St → Hp → Prop, (∃ m, Wv 0 m σ H) ∧ ∀ i m σ H, Wv i m σ H →
      (J.stop i H ∧ Dn.nx σ H) ∨ (J.go i H ∧ ∃ N : L2.St → Hp → Prop, (∀ σ' H', N σ' H' → ∃ m', m' < m ∧ Wv (i + 1) m' σ' H') ∧ ∀ x H', J.yld i H x H' → gD k s ws x σ H' fun σ2 H2 => tS k W fr g { Dn with nx := N, ct := N, bk := Dn.nx } σ2 H2) := by
  refine ⟨fun i m σ H => m = ds.length - i ∧ i ≤ ds.length ∧ ∃ G e, ER k B G e σ H ∧ C G e σ ∧ PostS k B W fr Dn G (forL s g (ds.drop i) e), ⟨_, rfl, Nat.zero_le _, G, e, r, hc, p⟩, ?_⟩
  rintro i m σ1 H1 ⟨rfl, hi, G1, e1, r1, c1, p1⟩
  by_cases hlt : i < ds.length
  · refine .inr ⟨it.go r1 c1 hlt, fun σ' H' => ∃ G' e', ER k B G' e' σ' H' ∧ C G' e' σ' ∧ PostS k B W fr Dn G' (forL s g (ds.drop (i + 1)) e'), fun σ' H' ⟨G', e', r', c', p'⟩ => ⟨_, by omega, rfl, hlt, G', e', r', c', p'⟩, fun x H2 y => ?_⟩
    obtain ⟨d, G2, hd, ext, hx⟩ := it.yld r1 c1 hlt y
    obtain ⟨_, hd'⟩ := List.getElem?_eq_some_iff.mp hd
    rw [List.drop_eq_getElem_cons hlt, hd'] at p1
    have p1 : PostS k B W fr Dn G1 (match s d e1 with
      | none => .bad
      | some e1 => match g e1 with
        | .nx e2 => forL s g (ds.drop (i + 1)) e2
        | .ct e2 => forL s g (ds.drop (i + 1)) e2
        | .bk e2 => .nx e2
        | .rt z e2 => .rt z e2
        | .err c x e2 => .err c x e2
        | .bad => .bad) := p1
    cases q : s d e1 with
    | none => rw [q] at p1; exact p1.elim
    | some e2 =>
      rw [q] at p1
      dsimp only at p1
      refine ⟨B, G2, e1, d, e2, r1.ext ext, hx, q, fun σ3 r3 _ => ⟨B, G2, e2, r3, ?_⟩⟩
      have c2 := cm G1 G2 e1 e2 σ1 σ3 ext.gg c1
      have S2 : Gr B G1 G2 := Gr.ext r1 ext
      revert p1
      cases g e2 with
      | nx e4 => exact fun p1 σ4 G4 H4 r4 S4 => ⟨G4, e4, r4, cm _ _ _ e4 _ σ4 S4.s c2, PostS.mono (S2.trans S4) p1⟩
      | ct e4 => exact fun p1 σ4 G4 H4 r4 S4 => ⟨G4, e4, r4, cm _ _ _ e4 _ σ4 S4.s c2, PostS.mono (S2.trans S4) p1⟩
      | bk e4 => exact fun p1 σ4 G4 H4 r4 S4 => p1 σ4 G4 H4 r4 (S2.trans S4)
      | rt z e4 => exact fun p1 => ⟨fun q σ4 G4 H4 v r4 S4 => p1.1 q σ4 G4 H4 v r4 (S2.trans S4), fun q σ4 G4 H4 a o r4 S4 => p1.2 q σ4 G4 H4 a o r4 (S2.trans S4)⟩
      | err c x e4 => exact fun p1 σ4 G4 H4 cls dd r4 q4 S4 => p1 σ4 G4 H4 cls dd r4 q4 (S2.trans S4)
      | bad => exact fun p1 => p1
  · have e0 : i = ds.length := by omega
    subst e0
    rw [List.drop_length] at p1
    exact .inl ⟨it.stop r1 c1 rfl, p1 σ1 G1 H1 r1 (Gr.refl B G1)⟩
theorem pds_for {f : Ev → Res (List D × Src)} {s : D → Ev → Option Ev} {ws : List Nat} {g : Ev → SR} {iter tg : Expr} {body : List Stmt} {pos : Pos} (hp : PassesOwn (model X.prog X.w) X.A X.env X.xe) (hc : X.calm = true) (hi : PI X tg iter (tI k W f)) (hg : PG X tg (gD k s ws)) (hb : PSs X body (tS k W fr g))
    (hs : ∀ x, foldedSetIterable iter X.env x = pure x := by intro _; rfl) : PS X (.For tg iter body [] pos) (tS k W fr (sFor f s g)) :=
  (ps_for hp hc hi hg hb hs).weak fun Dn σ H ⟨B, G, e, r, p⟩ => ⟨B, G, e, r, p.bind.imp fun G1 H1 e1 x r1 S1 p1 => by
    obtain ⟨ds, src⟩ := x
    cases src with
    | seen => exact fun _ J C it c cm => for_sem it cm r1 c p1
    | own j d =>
      intro _ q J a hj _ it
      obtain ⟨G', S, n, r'⟩ := r1.freeze q
      have hl : j < e1.length := (List.getElem?_eq_some_iff.mp q).1
      obtain ⟨v', h1, h2⟩ := r'.val (i := j) (d := d) (List.getElem?_set_self hl)
      rw [hj] at h1
      cases h1
      exact for_sem it same_rep r' h2 (PostS.mono ⟨S, n⟩ p1)⟩
end
end PD


set_option Elab.async false
set_option linter.all false
set_option maxRecDepth 100000
set_option maxHeartbeats 1000000
/-! PD5: comprehensions, while, stores, methods of lists, dicts. -/
namespace PD
open PySem PySem.Spec PyProof.Rows L2 RK
def wipeE (e : Ev) : List Nat → Ev
  | [] => e
  | v :: vs => (wipeE e vs).set v Sl.no
section
variable {k : Kn} {B G H : Hp} {e : Ev} {σ σ' : L2.St}
theorem wipeE_len : ∀ {vs : List Nat}, (wipeE e vs).length = e.length
  | [] => rfl
  | v :: vs => by unfold wipeE; rw [List.length_set, wipeE_len]
theorem wipeE_no : ∀ {vs : List Nat} {i : Nat} {s : Sl}, i ∈ vs → (wipeE e vs)[i]? = some s → s = .no
  | v :: vs, i, s, hi, h => by
    unfold wipeE at h
    by_cases hv : v = i
    · subst hv
      by_cases hl : v < (wipeE e vs).length
      · rw [List.getElem?_set_self hl] at h; cases h; rfl
      · rw [List.getElem?_eq_none (by rw [List.length_set]; omega)] at h; cases h
    · rw [List.getElem?_set_ne hv] at h
      exact wipeE_no (by rcases List.mem_cons.mp hi with z | z; exact absurd z.symm hv; exact z) h
theorem wipeE_get : ∀ {vs : List Nat} {i : Nat}, i ∉ vs → (wipeE e vs)[i]? = e[i]?
  | [], _, _ => rfl
  | v :: vs, i, hi => by
    unfold wipeE
    rw [List.getElem?_set_ne (fun z => hi (by rw [z]; exact List.mem_cons_self)), wipeE_get fun z => hi (List.mem_cons_of_mem _ z)]
theorem wipe_get : ∀ {vs : List Nat} {i : Nat}, i ∉ vs → (wipe σ vs)[i]? = σ[i]?
  | [], _, _ => rfl
  | v :: vs, i, hi => by
    unfold wipe
    rw [List.getElem?_set_ne (fun z => hi (by rw [z]; exact List.mem_cons_self)), wipe_get fun z => hi (List.mem_cons_of_mem _ z)]
theorem wipe_in : ∀ {vs : List Nat} {i : Nat}, i ∈ vs → (wipe σ vs)[i]? = if i < σ.length then some none else none
  | v :: vs, i, hi => by
    unfold wipe
    by_cases hv : v = i
    · subst hv
      by_cases hl : v < σ.length
      · rw [List.getElem?_set_self (by rw [wipe_length]; exact hl), if_pos hl]
      · rw [List.getElem?_eq_none (by rw [List.length_set, wipe_length]; omega), if_neg hl]
    · rw [List.getElem?_set_ne hv]
      exact wipe_in (by rcases List.mem_cons.mp hi with z | z; exact absurd z.symm hv; exact z)
theorem wipe_agr {ws vs : List Nat} (sub : ∀ i ∈ ws, i ∈ vs) (a : Agr ws (wipe σ vs) σ') : wipe σ' vs = wipe σ vs := by
  have hl : σ'.length = σ.length := by rw [a.1, wipe_length]
  refine List.ext_getElem? fun i => ?_
  by_cases hi : i ∈ vs
  · rw [wipe_in hi, wipe_in hi, hl]
  · rw [wipe_get hi, a.2 i fun z => hi (sub i z), wipe_get hi]
theorem wipe_agr0 {vs : List Nat} : Agr vs σ (wipe σ vs) := ⟨wipe_length σ vs, fun i hi => wipe_get hi⟩
/-- slots that tell nothing may hold anything -/
theorem ER.agr {vs : List Nat} (r : ER k B G e σ H) (a_1 : Agr vs σ σ') (n : ∀ i ∈ vs, ∀ s : Sl, e[i]? = some s → s = .no) (hp : ∀ i ∈ vs, k.pin i = none) : ER k B G e σ' H := by
  obtain ⟨fp, r⟩ := r
  refine ⟨fp, a_1.1.trans r.len, r.base, r.vis, fun i d h => ?_, fun i s h ho => ?_, r.free, r.sep, fun i a e => by rw [a_1.2 i fun z => by rw [hp i z] at e; cases e]; exact r.pin i a e, r.kept⟩
  · have hi : i ∉ vs := fun z => by cases n i z _ h
    rw [a_1.2 i hi]
    exact r.val i d h
  · have hi : i ∉ vs := fun z => by rw [n i z _ h] at ho; cases ho
    rw [a_1.2 i hi]
    exact r.own i s h ho
theorem ER.wipe {vs : List Nat} (r : ER k B G e σ H) : ER k B G (wipeE e vs) σ H := by
  induction vs with
  | nil => exact r
  | cons v vs ih => exact ih.drop v
/-- an object that is not ours is written -/
theorem ER.over {a : Addr} {o o' : HO} (r : ER k (upd B a o) G e σ H) (hG : G a = none) (ho : ∀ f v, o ≠ .xd [(f, v)] := by intro _ _ z; cases z) : ER k (upd B a o') G e σ (upd H a o') := by
  obtain ⟨fp, r⟩ := r
  have hoa : H a = some o := r.base a o upd_same
  have nf : ∀ (j : Nat) (s : Sl), e[j]? = some s → s.isOwn = true → a ∉ fp j := fun j s h ho hb => by
    have := (r.free j s a h ho hb).1
    rw [upd_same] at this
    cases this
  refine ⟨fp, r.len, fun b u q => ?_, fun b u q => ?_, r.val, fun i s h ho => ?_, fun i s b h ho hb => ?_, r.sep, r.pin, fun dd f v d q => ⟨by
      rw [upd_ne fun z => ho f v (by rw [← z, (r.kept dd f v d q).1] at hoa; exact (Option.some.inj hoa).symm)]
      exact (r.kept dd f v d q).1, (r.kept dd f v d q).2⟩⟩
  · by_cases hb : b = a
    · subst hb; rw [upd_same] at q ⊢; exact q
    · rw [upd_ne hb] at q ⊢
      exact r.base b u (by rw [upd_ne hb]; exact q)
  · have hb : b ≠ a := fun z => by rw [z, hG] at q; cases q
    rw [upd_ne hb]
    exact r.vis _ _ q
  · obtain ⟨a', h1, h2⟩ := r.own i s h ho
    refine ⟨a', h1, h2.keep (L2.Same.refl G) fun b hb o eo => ?_⟩
    rw [upd_ne fun z => nf i s h ho (by rw [← z]; exact hb)]
    exact eo
  · obtain ⟨f1, f2⟩ := r.free i s b h ho hb
    have hba : b ≠ a := fun z => nf i s h ho (by rw [← z]; exact hb)
    rw [upd_ne hba] at f1 ⊢
    exact ⟨f1, f2⟩
end
/-! ### comprehensions -/
open Classical in
noncomputable def lcL (s : D → Ev → Option Ev) (q : Ev → Res Bool) (h : Ev → Res RV) (ck : Ev → Prop) (vs : List Nat) : List D → List D → Ev → Res D
  | [], acc, e => .ok (.lst acc) e
  | d :: ds, acc, e => match s d e with
    | none => .bad
    | some e1 => match q e1 with
      | .ok b e2 => if b = true then (match h e2 with
          | .ok (.d z) e3 => if ck (wipeE e3 vs) then lcL s q h ck vs ds (acc ++ [z]) (wipeE e3 vs) else .bad
          | _ => .bad)
        else if ck (wipeE e2 vs) then lcL s q h ck vs ds acc (wipeE e2 vs) else .bad
      | _ => .bad
open Classical in
noncomputable def eLc (f : Ev → Res (List D × Src)) (s : D → Ev → Option Ev) (q : Ev → Res Bool) (h : Ev → Res RV) (vs : List Nat) : Ev → Res D := fun e => (f e).bind fun x e1 => match x.2 with
  | .seen => lcL s q h (fun _ => True) vs x.1 [] (wipeE e1 vs)
  | .own j d => if j ∈ vs then .bad else lcL s q h (fun e => e[j]? = some (Sl.own d)) vs x.1 [] (wipeE e1 vs)
def qYes : Ev → Res Bool := fun e => .ok true e
def W0 : WX := fun _ _ _ _ => False
section
variable {k : Kn} {X : Cx} {W : WX} {fr : Bool}
theorem tq_yes {σ : L2.St} {H : Hp} {Q : Bool → Hp → Prop} (p : tQ k W qYes σ H Q) : tYes σ H Q := by
  obtain ⟨B, G, e, r, p⟩ := p
  exact p G H r (Gr.refl B G)
theorem lc_sem {J : It} {ds : List D} {C : Hp → Ev → L2.St → Prop} {ck : Ev → Prop} (it : ItD k J ds C) {s : D → Ev → Option Ev} {ws vs : List Nat} {q : Ev → Res Bool} {h : Ev → Res RV} {B G : Hp} {e : Ev} {σ : L2.St} {H1 : Hp} {Q : VK} {Dl : Addr}
    (cm : ∀ G1 G2 e1 e2, L2.Same G1 G2 → ck e2 → C G1 e1 (wipe σ vs) → C G2 e2 (wipe σ vs)) (sub : ∀ i ∈ ws, i ∈ vs) (pn : ∀ i ∈ vs, k.pin i = none) (hz : ds.length ≤ sizeLine)
    (r : ER k B G (wipeE e vs) σ H1) (hc : C G (wipeE e vs) (wipe σ vs)) (hD : H1 Dl = none) (p : PostN k B σ W Q G (lcL s q h ck vs ds [] (wipeE e vs))) :
    ∃ Wv : Nat → Nat → Hp → Prop, (∃ m, Wv 0 m (upd H1 Dl (.lst []))) ∧ ∀ i m H, Wv i m H →
      (J.stop i H ∧ Q (.ref Dl) H) ∨ (J.go i H ∧ ∃ Nx : Hp → Prop, (∀ H', Nx H' → ∃ m', m' < m ∧ Wv (i + 1) m' H') ∧ ∀ x H', J.yld i H x H' → gD k s ws x (wipe σ vs) H' fun σ2 H2 => wipe σ2 vs = wipe σ vs ∧ tQ k W0 q σ2 H2 fun b H3 =>
        if b = true then tD k W0 h σ2 H3 fun y H4 => ∃ acc, H4 Dl = some (.lst acc) ∧ acc.length < sizeLine ∧ Nx (upd H4 Dl (.lst (acc ++ [y]))) else Nx H3) := by
  have bD : B Dl = none := by
    cases q : B Dl with
    | none => rfl
    | some u => rw [r.bs _ _ q] at hD; cases hD
  have gD0 : G Dl = none := by
    cases q : G Dl with
    | none => rfl
    | some u => rw [r.vis _ _ q] at hD; cases hD
  have SB : ∀ {o : HO}, L2.Same B (upd B Dl o) := RK.Same.upd bD
  let St := fun (i : Nat) (H : Hp) => ∃ G' e' acc ws', ER k (upd B Dl (.lst ws')) G' e' (wipe σ vs) H ∧ G' Dl = none ∧ RepAll k G' acc ws' ∧ acc.length ≤ i ∧ (∀ j ∈ vs, ∀ s : Sl, e'[j]? = some s → s = .no) ∧ C G' e' (wipe σ vs) ∧ PostN k B σ W Q G' (lcL s q h ck vs (ds.drop i) acc e')
  refine ⟨fun i m H => m = ds.length - i ∧ i ≤ ds.length ∧ St i H, ⟨_, rfl, Nat.zero_le _, G, wipeE e vs, [], [], ?_, gD0, .nil, Nat.zero_le _, fun j hj s hs => wipeE_no hj hs, hc, p⟩, ?_⟩
  · have r2 := r.agr (σ' := wipe σ vs) (wipe_agr0 (vs := vs)) (fun j hj s hs => wipeE_no hj hs) pn
    obtain ⟨fp, r0⟩ := r2
    refine ⟨fp, r0.len, fun c u qc => ?_, r0.vis.trans (RK.Same.upd hD), r0.val, fun i s h ho => ?_, fun i s c h ho hc => ?_, r0.sep, r0.pin, fun dd f v d q => ⟨RK.Same.upd hD _ _ (r0.kept dd f v d q).1, (r0.kept dd f v d q).2⟩⟩
    · by_cases hc : c = Dl
      · subst hc; rw [upd_same] at qc ⊢; exact qc
      · rw [upd_ne hc] at qc ⊢; exact r0.base _ _ qc
    · obtain ⟨a', h1, h2⟩ := r0.own i s h ho
      exact ⟨a', h1, h2.keep (L2.Same.refl G) fun c hc o' eo => RK.Same.upd hD _ _ eo⟩
    · obtain ⟨f1, f2⟩ := r0.free i s c h ho hc
      obtain ⟨a', _, h2⟩ := r0.own i s h ho
      obtain ⟨u, hu⟩ := h2.there hc
      rw [upd_ne (ne_of_none hu hD)]
      exact ⟨f1, f2⟩
  rintro i m Hi ⟨rfl, hi, G1, e1, acc, ws', r1, g1, ra, hl, no, c1, p1⟩
  by_cases hlt : i < ds.length
  · refine .inr ⟨it.go r1 c1 hlt, St (i + 1), fun H' st => ⟨_, by omega, rfl, hlt, st⟩, fun x H2 y => ?_⟩
    obtain ⟨d, G2, hd, ext, hx⟩ := it.yld r1 c1 hlt y
    obtain ⟨_, hd'⟩ := List.getElem?_eq_some_iff.mp hd
    rw [List.drop_eq_getElem_cons hlt, hd'] at p1
    unfold lcL at p1
    cases qs : s d e1 with
    | none => rw [qs] at p1; exact p1.elim
    | some e2 =>
      rw [qs] at p1
      dsimp only at p1
      have S2 : Gr (upd B Dl (.lst ws')) G1 G2 := Gr.ext r1 ext
      have nD : ∀ {G3 : Hp}, Gr (upd B Dl (.lst ws')) G1 G3 → G3 Dl = none := fun {G3} S => by
        cases z : G3 Dl with
        | none => rfl
        | some u =>
          rcases S.n _ _ z with z | z
          · rw [g1] at z; cases z
          · rw [upd_same] at z; cases z
      refine ⟨_, G2, e1, d, e2, r1.ext ext, hx, qs, fun σ2 r2 ag => ⟨wipe_agr sub ag, _, G2, e2, r2, ?_⟩⟩
      have ag2 : Agr vs σ2 (wipe σ vs) := ⟨ag.1.symm, fun j hj => (ag.2 j fun z => hj (sub j z)).symm⟩
      cases qq : q e2 with
      | err c x e' => rw [qq] at p1; exact p1.elim
      | bad => rw [qq] at p1; exact p1.elim
      | ok b e3 =>
        rw [qq] at p1
        dsimp only at p1
        intro G3 H3 r3 S3
        have S13 := S2.trans S3
        cases b with
        | false =>
          rw [if_neg Bool.false_ne_true] at p1
          refine iteF ?_
          split at p1
          · rename_i hk
            exact ⟨G3, wipeE e3 vs, acc, ws', r3.wipe.agr ag2 (fun j hj s hs => wipeE_no hj hs) pn, nD S13, ra.mono S13.s, by omega, fun j hj s hs => wipeE_no hj hs, cm _ _ _ _ S13.s hk c1, p1.mono (Gr.base SB S13)⟩
          · exact p1.elim
        | true =>
          rw [if_pos rfl] at p1
          refine iteT ⟨_, G3, e3, r3, ?_⟩
          cases qh : h e3 with
          | err c x e' => rw [qh] at p1; exact p1.elim
          | bad => rw [qh] at p1; exact p1.elim
          | ok z e4 =>
            rw [qh] at p1
            cases z with
            | «at» j => exact p1.elim
            | d z =>
              dsimp only at p1
              intro G4 H4 r4 S4 v hv
              have S14 := S13.trans S4
              have hv : Rep k G4 z v := hv
              split at p1
              · rename_i hk
                refine ⟨ws', r4.bs _ _ upd_same, by rw [← ra.len]; omega, G4, wipeE e4 vs, acc ++ [z], ws' ++ [v], ?_, nD S14, (ra.mono S14.s).app (.cons hv .nil), by rw [List.length_append, List.length_singleton]; omega, fun j hj s hs => wipeE_no hj hs, cm _ _ _ _ S14.s hk c1, p1.mono (Gr.base SB S14)⟩
                exact (r4.over (nD S14)).wipe.agr ag2 (fun j hj s hs => wipeE_no hj hs) pn
              · exact p1.elim
  · have e0 : i = ds.length := by omega
    subst e0
    rw [List.drop_length] at p1
    have r2 := r1.agr (σ' := σ) (vs := vs) ⟨(wipe_length σ vs).symm, fun j hj => (wipe_get hj).symm⟩ no pn
    exact .inl ⟨it.stop r1 c1 rfl, p1 G1 Hi Dl _ r2 (Gr.refl B G1) bD g1 (.lst (by rw [← ra.len]; omega) ra)⟩
theorem tlc_sem {f : Ev → Res (List D × Src)} {s : D → Ev → Option Ev} {ws vs : List Nat} {q : Ev → Res Bool} {h : Ev → Res RV} {σ : L2.St} {H : Hp} {Q : VK} (sub : ∀ i ∈ ws, i ∈ vs) (pn : ∀ i ∈ vs, k.pin i = none) (p : tN k W (eLc f s q h vs) σ H Q) : tLc (tI k W f) (gD k s ws) (tQ k W0 q) (tD k W0 h) vs σ H Q := by
  obtain ⟨B, G, e, r, p⟩ := p
  refine ⟨B, G, e, r, p.bind.imp fun G1 H1 e1 x r1 S1 p1 => ?_⟩
  obtain ⟨ds, src⟩ := x
  cases src with
  | seen => exact fun hz J C it c cm Dl hD => lc_sem it (fun _ _ _ _ S _ c => cm _ _ _ _ _ _ S c) sub pn hz r1.wipe (cm _ _ _ _ _ _ (L2.Same.refl _) c) hD p1
  | own j d =>
    intro hz qj J a hj it _ Dl hD
    dsimp only at p1
    split at p1
    · exact p1.elim
    · rename_i nj
      exact lc_sem it (fun _ _ _ _ S hk c => ⟨hk, c.2⟩) sub pn hz r1.wipe ⟨by rw [wipeE_get nj]; exact qj, by rw [wipe_get nj]; exact hj⟩ hD p1
variable {elt tg iter : Expr} {ifs : List Expr} {scope : Scope} {own : List (Str × Nat)} {pos : Pos} {f : Ev → Res (List D × Src)} {s : D → Ev → Option Ev} {ws : List Nat} {q : Ev → Res Bool} {h : Ev → Res RV}
theorem ptd_nil {X : Cx} : PTs X [] (tQ k W qYes) := ⟨fun pins s σ H Q I p => pts_nil.run pins s σ H Q I (tq_yes p)⟩
theorem ptd_one {X : Cx} {c : Expr} (h : PT X c (tQ k W q)) : PTs X [c] (tQ k W q) := pts_one h
theorem pd_lc (hc : X.calm = true) (hN : X.N.Nodup) (hi : PI X tg iter (tI k W f)) (ok : BlkOk X.N X.env.scope scope own)
    (hg : ∀ (s0 : Shared) (H : Hp) (C : Addr) (cl : List (Str × Addr)) (fp : List Addr), PG (X.blk s0 H scope (compEnvC scope cl C X.env) fp) tg (gD k s ws)) (ht : ∀ (s0 : Shared) (H : Hp) (C : Addr) (cl : List (Str × Addr)) (fp : List Addr), PTs (X.blk s0 H scope (compEnvC scope cl C X.env) fp) ifs (tQ k W0 q))
    (he : ∀ (s0 : Shared) (H : Hp) (C : Addr) (cl : List (Str × Addr)) (fp : List Addr), PE (X.blk s0 H scope (compEnvC scope cl C X.env) fp) elt (tD k W0 h)) (sub : ∀ i ∈ ws, i ∈ own.map (·.2)) (pn : ∀ i ∈ own.map (·.2), k.pin i = none) (hs : ∀ x, foldedSetIterable iter X.env x = pure x := by intro _; rfl) :
    PE X (.ListComp elt [⟨tg, iter, ifs, 0⟩] scope pos) (tN k W (eLc f s q h (own.map (·.2)))) :=
  (pe_lc hc hN hi ok hg ht he hs).weak fun _ _ _ p => tlc_sem sub pn p
theorem asg_weak {te te' : TE} {g : TG} {D : Ends} {σ : L2.St} {H : Hp} (w : ∀ Q, te' σ H Q → te σ H Q) (h : tAsg te' g D σ H) : tAsg te g D σ H := w _ h
theorem pds_newLc {i : Nat} {y : Str} {py : Pos} {spos : Pos} (hc : X.calm = true) (hN : X.N.Nodup) (hy : X.N[i]? = some y) (hyl : X.env.scope.names.lookup y = some .local)
    (hsw : swapsWith (.ListComp elt [⟨tg, iter, ifs, 0⟩] scope pos) (some (.Name y py)) spos.line X.env = pure true) (hi : PI X tg iter (tI k W f)) (ok : BlkOk X.N X.env.scope scope own)
    (hg : ∀ (s0 : Shared) (H : Hp) (C : Addr) (cl : List (Str × Addr)) (fp : List Addr), PG (X.blk s0 H scope (compEnvC scope cl C X.env) fp) tg (gD k s ws)) (ht : ∀ (s0 : Shared) (H : Hp) (C : Addr) (cl : List (Str × Addr)) (fp : List Addr), PTs (X.blk s0 H scope (compEnvC scope cl C X.env) fp) ifs (tQ k W0 q))
    (he : ∀ (s0 : Shared) (H : Hp) (C : Addr) (cl : List (Str × Addr)) (fp : List Addr), PE (X.blk s0 H scope (compEnvC scope cl C X.env) fp) elt (tD k W0 h)) (sub : ∀ i ∈ ws, i ∈ own.map (·.2)) (pn : ∀ i ∈ own.map (·.2), k.pin i = none) (hs : ∀ x, foldedSetIterable iter X.env x = pure x := by intro _; rfl) (hp : k.pin i = none := by rfl) :
    PS X (.Assign [.Name y py] (.ListComp elt [⟨tg, iter, ifs, 0⟩] scope pos) spos) (tS k W fr (sNew i (eLc f s q h (own.map (·.2))))) :=
  (ps_setLc hc hN hy hyl hsw hi ok hg ht he hs).weak fun _ _ _ p => asg_weak (fun _ z => tlc_sem sub pn z) (new_sem hp p)
theorem vis_sem {f : Ev → Res D} {σ : L2.St} {H : Hp} {Q : VK} (p : tD k W (eVis f) σ H Q) : tN k W f σ H Q := by
  obtain ⟨B, G, e, r0, p⟩ := p
  refine ⟨B, G, e, r0, ?_⟩
  unfold eVis at p
  cases q : f e with
  | ok z e' =>
    rw [q] at p
    intro G' H' a o r S ba ga n
    have SG : L2.Same G' (upd G' a o) := RK.Same.upd ga
    have SR : Gr B G' (upd G' a o) := ⟨SG, fun c u q => by
      by_cases hc : c = a
      · subst hc; exact .inr ba
      · rw [upd_ne hc] at q; exact .inl q⟩
    exact p _ _ (r.seen ba ga) (S.trans SR) _ ((n.mono SG).rep upd_same)
  | err c x e' => rw [q] at p; exact p
  | bad => rw [q] at p; exact p
theorem pds_setLc {i : Nat} {y : Str} {py : Pos} {spos : Pos} (hc : X.calm = true) (hN : X.N.Nodup) (hy : X.N[i]? = some y) (hyl : X.env.scope.names.lookup y = some .local)
    (hsw : swapsWith (.ListComp elt [⟨tg, iter, ifs, 0⟩] scope pos) (some (.Name y py)) spos.line X.env = pure true) (hi : PI X tg iter (tI k W f)) (ok : BlkOk X.N X.env.scope scope own)
    (hg : ∀ (s0 : Shared) (H : Hp) (C : Addr) (cl : List (Str × Addr)) (fp : List Addr), PG (X.blk s0 H scope (compEnvC scope cl C X.env) fp) tg (gD k s ws)) (ht : ∀ (s0 : Shared) (H : Hp) (C : Addr) (cl : List (Str × Addr)) (fp : List Addr), PTs (X.blk s0 H scope (compEnvC scope cl C X.env) fp) ifs (tQ k W0 q))
    (he : ∀ (s0 : Shared) (H : Hp) (C : Addr) (cl : List (Str × Addr)) (fp : List Addr), PE (X.blk s0 H scope (compEnvC scope cl C X.env) fp) elt (tD k W0 h)) (sub : ∀ i ∈ ws, i ∈ own.map (·.2)) (pn : ∀ i ∈ own.map (·.2), k.pin i = none) (hs : ∀ x, foldedSetIterable iter X.env x = pure x := by intro _; rfl) (hp : k.pin i = none := by rfl) :
    PS X (.Assign [.Name y py] (.ListComp elt [⟨tg, iter, ifs, 0⟩] scope pos) spos) (tS k W fr (sSet i (eVis (eLc f s q h (own.map (·.2)))))) :=
  (ps_setLc hc hN hy hyl hsw hi ok hg ht he hs).weak fun _ _ _ p => asg_weak (fun _ z => tlc_sem sub pn (vis_sem z)) (set_sem hp p)
end
/-! ### while -/
def whL (q : Ev → Res Bool) (g : Ev → SR) : Nat → Ev → SR
  | 0, _ => .bad
  | n + 1, e => (q e).andS fun b e1 => if b = true then (match g e1 with
      | .nx e2 => whL q g n e2
      | .ct e2 => whL q g n e2
      | .bk e2 => .nx e2
      | .rt z e2 => .rt z e2
      | .err c x e2 => .err c x e2
      | .bad => .bad) else .nx e1
open Classical in
noncomputable def sWh (q : Ev → Res Bool) (g : Ev → SR) : Ev → SR := fun e => if h : ∃ n, whL q g n e ≠ .bad then whL q g (choose h) e else .bad
theorem whL_more {q : Ev → Res Bool} {g : Ev → SR} : ∀ {n m : Nat} {e : Ev}, n ≤ m → whL q g n e ≠ .bad → whL q g m e = whL q g n e
  | 0, _, _, _, h => absurd rfl h
  | n + 1, 0, _, hm, _ => absurd hm (by omega)
  | n + 1, m + 1, e, hm, h => by
    unfold whL at h ⊢
    cases hq : q e with
    | err c x e' => rfl
    | bad => rfl
    | ok b e1 =>
      rw [hq] at h
      dsimp only [Res.andS] at h ⊢
      cases b with
      | false => rfl
      | true =>
        rw [if_pos rfl] at h ⊢
        rw [if_pos rfl]
        cases hg : g e1 with
        | nx e2 => rw [hg] at h; exact whL_more (by omega) h
        | ct e2 => rw [hg] at h; exact whL_more (by omega) h
        | bk e2 => rfl
        | rt z e2 => rfl
        | err c x e2 => rfl
        | bad => rfl
theorem sWh_of {q : Ev → Res Bool} {g : Ev → SR} {n : Nat} {e : Ev} {r : SR} (h : whL q g n e = r) (hb : r ≠ .bad) : sWh q g e = r := by
  have hx : ∃ n, whL q g n e ≠ .bad := ⟨n, by rw [h]; exact hb⟩
  unfold sWh
  rw [dif_pos hx]
  have h2 := Classical.choose_spec hx
  rcases Nat.le_total n (Classical.choose hx) with z | z
  · rw [whL_more z (by rw [h]; exact hb), h]
  · rw [← whL_more z h2, h]
section
variable {k : Kn} {X : Cx} {W : WX} {fr : Bool}
theorem pds_while {q : Ev → Res Bool} {g : Ev → SR} {c : Expr} {body : List Stmt} {pos : Pos} (hp : PassesOwn (model X.prog X.w) X.A X.env X.xe) (hc : PT X c (tQ k W q)) (hb : PSs X body (tS k W fr g)) : PS X (.While c body [] pos) (tS k W fr (sWh q g)) :=
  (ps_while hp hc hb).weak fun Dn σ H ⟨B, G, e, r, p⟩ => by
    unfold sWh at p
    split at p
    · rename_i hx
      generalize Classical.choose hx = n at p
      refine ⟨fun m σ H => ∃ G e, ER k B G e σ H ∧ PostS k B W fr Dn G (whL q g m e), ⟨n, G, e, r, p⟩, ?_⟩
      rintro m σ1 H1 ⟨G1, e1, r1, p1⟩
      cases m with
      | zero => exact p1.elim
      | succ m =>
        refine ⟨B, G1, e1, r1, (PostS.bind (σ := σ1) p1).imp fun G2 H2 e2 b r2 S2 p2 => ?_⟩
        cases b with
        | false =>
          rw [if_neg Bool.false_ne_true] at p2 ⊢
          exact p2 σ1 G2 H2 r2 (Gr.refl B G2)
        | true =>
          rw [if_pos rfl] at p2 ⊢
          refine ⟨fun σ' H' => ∃ G e, ER k B G e σ' H' ∧ PostS k B W fr Dn G (whL q g m e), fun σ' H' ⟨G', e', r', p'⟩ => ⟨m, Nat.lt_succ_self m, G', e', r', p'⟩, B, G2, e2, r2, ?_⟩
          revert p2
          cases g e2 with
          | nx e4 => exact fun p1 σ4 G4 H4 r4 S4 => ⟨G4, e4, r4, PostS.mono S4 p1⟩
          | ct e4 => exact fun p1 σ4 G4 H4 r4 S4 => ⟨G4, e4, r4, PostS.mono S4 p1⟩
          | bk e4 => exact fun p1 => p1
          | rt z e4 => exact fun p1 => p1
          | err c x e4 => exact fun p1 => p1
          | bad => exact fun p1 => p1
    · exact p.elim
end
end PD


set_option Elab.async false
set_option linter.all false
set_option maxRecDepth 100000
set_option maxHeartbeats 1000000
/-! PD6: stores by place, methods of a slot's own list, dicts. -/
namespace PD
open PySem PySem.Spec PyProof.Rows L2 RK
def isOwnAt (e : Ev) (j : Nat) : Bool := match e[j]? with
  | some (.own _) => true
  | _ => false
def ownD (e : Ev) (j : Nat) : Option D := match e[j]? with
  | some (.own d) => some d
  | _ => none
theorem ownD_at {e : Ev} {j : Nat} {d : D} (h : ownD e j = some d) : e[j]? = some (Sl.own d) := by
  unfold ownD at h
  split at h
  · rename_i d' q
    cases h
    exact q
  · cases h
/-- x[i] = v -/
def sPutL (j : Nat) (f g : Ev → Res RV) : Ev → SR := fun e => (g e).andS fun x e1 => match x, ownD e1 j with
  | .d z, some _ => (f e1).andS fun y e2 => match y, ownD e2 j with
    | .d (.int i), some (.lst ds) => (match ixN ds.length i with
      | some m => .nx (e2.set j (Sl.own (.lst (ds.set m z))))
      | none => .bad)
    | _, _ => .bad
  | _, _ => .bad
/-! ### keys -/
def keyK : D → Option Key
  | .int i => some (.inl i)
  | .str s => some (.inr s)
  | _ => none
def keysK : List D → Option (List Key)
  | [] => some []
  | d :: ds => match keyK d, keysK ds with
    | some x, some l => some (x :: l)
    | _, _ => none
def keyT : D → Option (List Key)
  | .tup ds => keysK ds
  | _ => none
def lookA {κ : Type} [DecidableEq κ] (key : D → Option κ) (ks : List (D × D)) (x : κ) : Option D := (ks.find? fun p => decide (key p.1 = some x)).map (·.2)
def putA {κ : Type} [DecidableEq κ] (key : D → Option κ) (ks : List (D × D)) (x : κ) (d z : D) : List (D × D) :=
  if (ks.any fun p => decide (key p.1 = some x)) = true then ks.map (fun p => if key p.1 = some x then (p.1, z) else p) else ks ++ [(d, z)]
/-- a dict's value at a key (outer none: no key of this dict's kind) -/
def dGet (t : Bool) (ks : List (D × D)) (y : D) : Option (Option D) := match t with
  | false => (keyK y).map (lookA keyK ks)
  | true => (keyT y).map (lookA keyT ks)
def dPut (t : Bool) (ks : List (D × D)) (y z : D) : Option (List (D × D)) := match t with
  | false => (keyK y).map fun x => putA keyK ks x y z
  | true => (keyT y).map fun x => putA keyT ks x y z
section
variable {k : Kn} {G H : Hp}
theorem keyK_d : ∀ x : Key, keyK (keyD x) = some x
  | .inl _ => rfl
  | .inr _ => rfl
theorem keysK_d : ∀ l : List Key, keysK (l.map keyD) = some l
  | [] => rfl
  | x :: l => by
    show (match keyK (keyD x), keysK (l.map keyD) with
      | some x, some l => some (x :: l)
      | _, _ => none) = _
    rw [keyK_d, keysK_d]
theorem keyK_eq {d : D} {x : Key} (h : keyK d = some x) : d = keyD x := by
  cases d <;> first | (cases h; rfl) | cases h
theorem keysK_eq : ∀ {ds : List D} {l : List Key}, keysK ds = some l → ds = l.map keyD
  | [], _, h => by cases h; rfl
  | d :: ds, l, h => by
    have h : (match keyK d, keysK ds with
      | some x, some l => some (x :: l)
      | _, _ => none) = some l := h
    cases h1 : keyK d with
    | none => rw [h1] at h; cases h
    | some x =>
      cases h2 : keysK ds with
      | none => rw [h1, h2] at h; cases h
      | some l2 =>
        rw [h1, h2] at h
        cases h
        rw [keyK_eq h1, keysK_eq h2]
        rfl
theorem rep_key {d : D} {x : Key} {v : V} (r : Rep k G d v) (h : keyK d = some x) : v = kV x ∧ KeyOk x := by
  rw [keyK_eq h] at r
  cases x with
  | inl i => cases r; exact ⟨rfl, trivial⟩
  | inr s => cases r with | str _ ok => exact ⟨rfl, ok⟩
theorem rep_keys : ∀ {ds : List D} {l : List Key} {vs : List V}, RepAll k G ds vs → keysK ds = some l → vs = l.map kV ∧ ∀ y ∈ l, KeyOk y
  | _, l, _, .nil, h => by cases h; exact ⟨rfl, fun _ z => absurd z List.not_mem_nil⟩
  | d :: ds, l, _, .cons p q, h => by
    have e := keysK_eq h
    cases l with
    | nil => cases e
    | cons x l =>
      rw [List.map_cons, List.cons.injEq] at e
      obtain ⟨rfl, rfl⟩ := e
      obtain ⟨h1, h2⟩ := rep_key p (keyK_d x)
      obtain ⟨h3, h4⟩ := rep_keys q (keysK_d l)
      rw [h1, h3]
      exact ⟨rfl, fun y hy => (List.mem_cons.mp hy).elim (fun z => z ▸ h2) (h4 y)⟩
theorem repK_look {ks : List (D × D)} {vs : List (Key × V)} (r : RepK k G ks vs) (x : Key) : (lookA keyK ks x = none ∧ valV vs x = none) ∨ ∃ d v, lookA keyK ks x = some d ∧ valV vs x = some v ∧ Rep k G d v := by
  cases r with
  | nil => exact .inl ⟨rfl, rfl⟩
  | @cons y d v ds ws o p q =>
    by_cases hy : y = x
    · refine .inr ⟨d, v, ?_, valV_pos hy, p⟩
      unfold lookA
      rw [List.find?_cons_of_pos (by rw [keyK_d, hy]; simp)]
      rfl
    · have e1 : lookA keyK ((keyD y, d) :: ds) x = lookA keyK ds x := by
        unfold lookA
        rw [List.find?_cons_of_neg (by rw [keyK_d]; simpa using hy)]
      have e2 : valV ((y, v) :: ws) x = valV ws x := valV_neg hy
      rw [e1, e2]
      exact repK_look q x
theorem repT_look {ks : List (D × D)} {vs : List (List Key × V)} (r : RepT k G ks vs) (x : List Key) : (lookA keyT ks x = none ∧ valV vs x = none) ∨ ∃ d v, lookA keyT ks x = some d ∧ valV vs x = some v ∧ Rep k G d v := by
  cases r with
  | nil => exact .inl ⟨rfl, rfl⟩
  | @cons y d v ds ws o p q =>
    have ky : keyT (.tup (y.map keyD)) = some y := keysK_d y
    by_cases hy : y = x
    · refine .inr ⟨d, v, ?_, valV_pos hy, p⟩
      unfold lookA
      rw [List.find?_cons_of_pos (by rw [ky, hy]; simp)]
      rfl
    · have e1 : lookA keyT ((.tup (y.map keyD), d) :: ds) x = lookA keyT ds x := by
        unfold lookA
        rw [List.find?_cons_of_neg (by rw [ky]; simpa using hy)]
      have e2 : valV ((y, v) :: ws) x = valV ws x := valV_neg hy
      rw [e1, e2]
      exact repT_look q x
theorem repK_any {ks : List (D × D)} {vs : List (Key × V)} (r : RepK k G ks vs) (x : Key) : (ks.any fun p => decide (keyK p.1 = some x)) = vs.any fun p => decide (p.1 = x) := by
  cases r with
  | nil => rfl
  | @cons y d v ds ws o p q =>
    rw [List.any_cons, List.any_cons, repK_any q x]
    congr 1
    show decide (keyK (keyD y) = some x) = decide (y = x)
    rw [keyK_d]
    simp
theorem repT_any {ks : List (D × D)} {vs : List (List Key × V)} (r : RepT k G ks vs) (x : List Key) : (ks.any fun p => decide (keyT p.1 = some x)) = vs.any fun p => decide (p.1 = x) := by
  cases r with
  | nil => rfl
  | @cons y d v ds ws o p q =>
    rw [List.any_cons, List.any_cons, repT_any q x]
    congr 1
    show decide (keyT (.tup (y.map keyD)) = some x) = decide (y = x)
    have ky : keyT (.tup (y.map keyD)) = some y := keysK_d y
    rw [ky]
    simp
theorem repK_map {ks : List (D × D)} {vs : List (Key × V)} (r : RepK k G ks vs) (x : Key) {z : D} {u : V} (h : Rep k G z u) : RepK k G (ks.map fun p => if keyK p.1 = some x then (p.1, z) else p) (vs.map fun p => if p.1 = x then (p.1, u) else p) := by
  cases r with
  | nil => exact .nil
  | @cons y d v ds ws o p q =>
    rw [List.map_cons, List.map_cons]
    by_cases hy : y = x
    · rw [if_pos (by show keyK (keyD y) = some x; rw [keyK_d, hy]), if_pos hy]
      exact .cons o h (repK_map q x h)
    · rw [if_neg (by show ¬ keyK (keyD y) = some x; rw [keyK_d]; simpa using hy), if_neg hy]
      exact .cons o p (repK_map q x h)
theorem repT_map {ks : List (D × D)} {vs : List (List Key × V)} (r : RepT k G ks vs) (x : List Key) {z : D} {u : V} (h : Rep k G z u) : RepT k G (ks.map fun p => if keyT p.1 = some x then (p.1, z) else p) (vs.map fun p => if p.1 = x then (p.1, u) else p) := by
  cases r with
  | nil => exact .nil
  | @cons y d v ds ws o p q =>
    rw [List.map_cons, List.map_cons]
    have ky : keyT (.tup (y.map keyD)) = some y := keysK_d y
    by_cases hy : y = x
    · rw [if_pos (by show keyT (.tup (y.map keyD)) = some x; rw [ky, hy]), if_pos hy]
      exact .cons o h (repT_map q x h)
    · rw [if_neg (by show ¬ keyT (.tup (y.map keyD)) = some x; rw [ky]; simpa using hy), if_neg hy]
      exact .cons o p (repT_map q x h)
theorem repK_app : ∀ {ks ls : List (D × D)} {vs ws : List (Key × V)}, RepK k G ks vs → RepK k G ls ws → RepK k G (ks ++ ls) (vs ++ ws)
  | _, _, _, _, .nil, h => h
  | _, _, _, _, .cons o p q, h => .cons o p (repK_app q h)
theorem repT_app : ∀ {ks ls : List (D × D)} {vs ws : List (List Key × V)}, RepT k G ks vs → RepT k G ls ws → RepT k G (ks ++ ls) (vs ++ ws)
  | _, _, _, _, .nil, h => h
  | _, _, _, _, .cons o p q, h => .cons o p (repT_app q h)
theorem repK_len : ∀ {ks : List (D × D)} {vs : List (Key × V)}, RepK k G ks vs → ks.length = vs.length
  | _, _, .nil => rfl
  | _, _, .cons _ _ q => congrArg (· + 1) (repK_len q)
theorem repT_len : ∀ {ks : List (D × D)} {vs : List (List Key × V)}, RepT k G ks vs → ks.length = vs.length
  | _, _, .nil => rfl
  | _, _, .cons _ _ q => congrArg (· + 1) (repT_len q)
theorem repK_put {ks : List (D × D)} {vs : List (Key × V)} (r : RepK k G ks vs) {x : Key} (ok : KeyOk x) {z : D} {u : V} (h : Rep k G z u) : RepK k G (putA keyK ks x (keyD x) z) (putK vs x u) := by
  unfold putA putK
  rw [repK_any r x]
  split
  · exact repK_map r x h
  · exact repK_app r (.cons ok h .nil)
theorem repT_put {ks : List (D × D)} {vs : List (List Key × V)} (r : RepT k G ks vs) {x : List Key} (ok : ∀ y ∈ x, KeyOk y) {z : D} {u : V} (h : Rep k G z u) : RepT k G (putA keyT ks x (.tup (x.map keyD)) z) (putK vs x u) := by
  unfold putA putK
  rw [repT_any r x]
  split
  · exact repT_map r x h
  · exact repT_app r (.cons ok h .nil)
/-- a dict asked by data -/
theorem dget_node {a : Addr} {t : Bool} {ks : List (D × D)} {y : D} {o : Option D} {v : V} (S : L2.Same G H) (n : Node k G H (.dic t ks) (.ref a)) (r : Rep k G y v) (h : dGet t ks y = some o) :
    ∃ u, DGet H a v u ∧ ((o = none ∧ u = none) ∨ ∃ d w, o = some d ∧ u = some w ∧ Rep k G d w) := by
  obtain ⟨a', e, n⟩ := n
  cases e
  rcases n with ⟨rfl, vs, hv, rk⟩ | ⟨rfl, vs, hv, rk⟩
  · obtain ⟨x, q1, q2⟩ := Option.map_eq_some_iff.mp (show (keyK y).map (lookA keyK ks) = some o from h)
    obtain ⟨rfl, _⟩ := rep_key r q1
    refine ⟨valV vs x, DGet.k hv, ?_⟩
    rcases repK_look rk x with ⟨h1, h2⟩ | ⟨d, w, h1, h2, h3⟩
    · exact .inl ⟨by rw [← q2, h1], h2⟩
    · exact .inr ⟨d, w, by rw [← q2, h1], h2, h3⟩
  · obtain ⟨x, q1, q2⟩ := Option.map_eq_some_iff.mp (show (keyT y).map (lookA keyT ks) = some o from h)
    cases y with
    | tup ds =>
      cases r with
      | tup g1 _ ra =>
        obtain ⟨rfl, _⟩ := rep_keys ra q1
        refine ⟨valV vs x, .inr ⟨vs, x, _, .inl hv, rfl, S _ _ g1, rfl⟩, ?_⟩
        rcases repT_look rk x with ⟨h1, h2⟩ | ⟨d, w, h1, h2, h3⟩
        · exact .inl ⟨by rw [← q2, h1], h2⟩
        · exact .inr ⟨d, w, by rw [← q2, h1], h2, h3⟩
    | _ => cases q1
end
/-! ### dicts: semantics -/
def eDGet (f g : Ev → Res RV) : Ev → Res RV := fun e => (f e).bind fun x e1 => (g e1).bind fun y e2 => match de e2 x, y with
  | some (.dic t ks), .d y => (match dGet t ks y with
    | some (some z) => .ok (.d z) e2
    | _ => .bad)
  | _, _ => .bad
def eDIn (g f : Ev → Res RV) : Ev → Res RV := fun e => (g e).bind fun y e1 => (f e1).bind fun x e2 => match de e2 x, y with
  | some (.dic t ks), .d y => (match dGet t ks y with
    | some o => .ok (.d (.bl o.isSome)) e2
    | _ => .bad)
  | _, _ => .bad
def eDNotIn (g f : Ev → Res RV) : Ev → Res RV := fun e => (g e).bind fun y e1 => (f e1).bind fun x e2 => match de e2 x, y with
  | some (.dic t ks), .d y => (match dGet t ks y with
    | some o => .ok (.d (.bl (!o.isSome))) e2
    | _ => .bad)
  | _, _ => .bad
def isDic : Option D → Bool
  | some (.dic _ _) => true
  | _ => false
def eGet2 (f g h : Ev → Res RV) : Ev → Res RV := fun e => (f e).bind fun x e1 => if isDic (de e1 x) = true then (g e1).bind fun y e2 => (h e2).bind fun z e3 => match de e3 x, y, z with
  | some (.dic t ks), .d y, .d z => (match dGet t ks y with
    | some o => .ok (.d (o.getD z)) e3
    | _ => .bad)
  | _, _, _ => .bad
  else .bad
def eGet1 (f g : Ev → Res RV) : Ev → Res RV := fun e => (f e).bind fun x e1 => if isDic (de e1 x) = true then (g e1).bind fun y e2 => match de e2 x, y with
  | some (.dic t ks), .d y => (match dGet t ks y with
    | some o => .ok (.d (o.getD .non)) e2
    | _ => .bad)
  | _, _ => .bad
  else .bad
def sPutD (j : Nat) (f g : Ev → Res RV) : Ev → SR := fun e => (g e).andS fun x e1 => match x, ownD e1 j with
  | .d z, some _ => (f e1).andS fun y e2 => match y, ownD e2 j with
    | .d y, some (.dic t ks) => if ks.length < 1000000 then (match dPut t ks y z with
      | some ks' => .nx (e2.set j (Sl.own (.dic t ks')))
      | none => .bad) else .bad
    | _, _ => .bad
  | _, _ => .bad
/-! ### methods that change a slot's own object -/
def eMt (j : Nat) (m : D → List D → Option (D × D)) (fs : Ev → Res (List RV)) : Ev → Res RV := fun e => match ownD e j with
  | some (.lst _) => (fs e).bind fun xs e1 => match ownD e1 j, pures xs with
    | some c, some ds => (match m c ds with
      | some (z, c') => .ok (.d z) (e1.set j (Sl.own c'))
      | none => .bad)
    | _, _ => .bad
  | _ => .bad
def eMt0 (j : Nat) (m : D → List D → Option (D × D)) : Ev → Res RV := fun e => match ownD e j with
  | some (.lst c) => (match m (.lst c) [] with
      | some (z, c') => .ok (.d z) (e.set j (Sl.own c'))
      | none => .bad)
  | _ => .bad
def mAppend : D → List D → Option (D × D)
  | .lst ds, [d] => if ds.length < 1000000 then some (.non, .lst (ds ++ [d])) else none
  | _, _ => none
def mExtend : D → List D → Option (D × D)
  | .lst ds, [.lst es] => if ds.length + es.length < 1000000 then some (.non, .lst (ds ++ es)) else none
  | _, _ => none
def mInsert : D → List D → Option (D × D)
  | .lst ds, [.int i, d] => if ds.length < 1000000 ∧ 0 ≤ i ∧ i < 1000000 then some (.non, .lst (ds.take i.toNat ++ [d] ++ ds.drop i.toNat)) else none
  | _, _ => none
def mPop : D → List D → Option (D × D)
  | .lst ds, [] => match ds.getLast? with
    | some d => some (d, .lst ds.dropLast)
    | none => none
  | _, _ => none
def ConsM (k : Kn) (r : V → List V → Hp → VK → Prop) (m : D → List D → Option (D × D)) : Prop := ∀ G H a o c c' z ds vs Q, L2.Same G H → H a = some o → NodeO k G c o → RepAll k G ds vs → m c ds = some (z, c') →
  (∀ v o', Rep k G z v → NodeO k G c' o' → Q v (upd H a o')) → r (.ref a) vs H Q
theorem mil {n : Nat} (h : n < 1000000) : n < sizeLine := Nat.lt_of_lt_of_le h (by rw [sizeLine_eq]; decide)
section
variable {k : Kn}
theorem c_append : ConsM k rAppend mAppend := fun G H a o c c' z ds vs Q S ha n r h q => by
  cases c with
  | lst xs =>
    cases n with
    | lst hz ra =>
      cases r with
      | cons p r0 =>
        cases r0 with
        | nil =>
          unfold mAppend at h
          dsimp only at h
          split at h
          · rename_i hl
            cases h
            have hl' := ra.len
            exact ⟨a, _, _, rfl, rfl, ha, mil (by omega), q _ _ .non (.lst (by rw [List.length_append, List.length_singleton]; have := mil hl; omega) (ra.app (.cons p .nil)))⟩
          · cases h
        | cons p2 r1 => cases h
      | nil => cases h
  | _ => cases h
theorem c_extend : ConsM k rExtend mExtend := fun G H a o c c' z ds vs Q S ha n r h q => by
  cases c with
  | lst xs =>
    cases n with
    | lst hz ra =>
      cases r with
      | nil => cases h
      | @cons d v ds2 vs2 p r0 =>
        cases r0 with
        | cons p2 r1 => cases d <;> cases h
        | nil =>
          cases d with
          | lst es =>
            unfold mExtend at h
            dsimp only at h
            split at h
            · rename_i hl
              cases h
              cases p with
              | lst g1 _ rb =>
                have h1 := ra.len
                have h2 := rb.len
                have h3 := mil hl
                exact ⟨a, _, _, _, rfl, rfl, ha, S _ _ g1, by omega, q _ _ .non (.lst (by rw [List.length_append]; omega) (ra.app rb))⟩
            · cases h
          | _ => cases h
  | _ => cases h
def rInsert : V → List V → Hp → VK → Prop := fun x vs H Q => ∃ (l : Addr) (xs : List V) (i : Int) (y : V), x = .ref l ∧ vs = [.int i, y] ∧ H l = some (.lst xs) ∧ xs.length < sizeLine ∧ 0 ≤ i ∧ i < 2 ^ 63 ∧
    Q .non (upd H l (.lst (xs.take i.toNat ++ [y] ++ xs.drop i.toNat)))
theorem c_insert : ConsM k rInsert mInsert := fun G H a o c c' z ds vs Q S ha n r h q => by
  cases c with
  | lst xs =>
    cases n with
    | lst hz ra =>
      cases r with
      | nil => cases h
      | @cons d v ds2 vs2 p r0 =>
        cases r0 with
        | nil => cases d <;> cases h
        | @cons d2 v2 ds3 vs3 p2 r1 =>
          cases r1 with
          | cons p3 r2 => cases d <;> cases h
          | nil =>
            cases d with
            | int i =>
              unfold mInsert at h
              dsimp only at h
              split at h
              · rename_i hl
                obtain ⟨h1, h2, h3⟩ := hl
                cases h
                cases rep_int p
                have h4 := ra.len
                have h5 := mil h1
                refine ⟨a, _, i, _, rfl, rfl, ha, by omega, h2, by omega, q _ _ .non (.lst ?_ (((ra.take _).app (.cons p2 .nil)).app (ra.drop _)))⟩
                rw [List.length_append, List.length_append, List.length_take, List.length_drop, List.length_singleton]
                omega
              · cases h
            | _ => cases h
  | _ => cases h
theorem c_pop : ConsM k rPop mPop := fun G H a o c c' z ds vs Q S ha n r h q => by
  cases c with
  | lst xs =>
    cases n with
    | lst hz ra =>
      cases r with
      | cons p r0 => cases h
      | nil =>
        have h : (match xs.getLast? with
          | some d => some (d, D.lst xs.dropLast)
          | none => none) = some (z, c') := h
        split at h
        · rename_i d hd
          cases h
          rw [List.getLast?_eq_getElem?, ra.len] at hd
          obtain ⟨v, h1, h2⟩ := ra.get hd
          exact ⟨a, _, v, rfl, rfl, ha, h1, q _ _ h2 (.lst (by rw [List.length_dropLast]; omega) ra.dropLast)⟩
        · cases h
  | _ => cases h
end
section
variable {k : Kn} {X : Cx} {W : WX} {fr : Bool} {f g h : Ev → Res RV} {fs : Ev → Res (List RV)} {a b c : Expr} {es : List Expr} {pos apos cpos p0 : Pos} {x : Str} {j : Nat}
theorem pds_putL (hK : X.K = k.K) (hN : X.N[j]? = some x) (hv : Vis X.env.scope x) (hi : PE X b (tD k W f)) (he : PE X a (tD k W g))
    (ha : ∀ v, assign (.Subscript (.Name x p0) b cpos) X.env v = (do
      let ov ← holding [v] (eval (.Name x p0) X.env)
      let iv ← holding [v, ov] (eval b X.env)
      standAt cpos
      holding [v, ov, iv] (setItem ov iv v)
      release [v, ov, iv] []) := by intro _; rfl)
    (hs : swapsWithSole [.Subscript (.Name x p0) b cpos] a pos.line X.env = pure false := by rfl) (hw : swappedStores [.Subscript (.Name x p0) b cpos] a X.env = pure none := by rfl)
    (h1 : (assignEach [.Subscript (.Name x p0) b cpos] X.env).map (·.2) = [assign (.Subscript (.Name x p0) b cpos) X.env] := by rfl) (hd : (x == ("__debug__" : Str)) = false := by decide) (hcd : (x == ("__classdict__" : Str)) = false := by decide) :
    PS X (.Assign [.Subscript (.Name x p0) b cpos] a pos) (tS k W fr (sPutL j f g)) :=
  (ps_asg he (pg_sub (pe_var hN hv hd hcd) hi set_list ha) hs hw h1).weak fun D σ H ⟨B, G, e, r, p⟩ => ⟨B, G, e, r, p.bind.imp fun G1 H1 e1 x r1 S1 p1 v hv => by
    cases x with
    | «at» i => exact p1.elim
    | d z =>
      cases q : ownD e1 j with
      | none => rw [q] at p1; exact p1.elim
      | some d0 =>
        rw [q] at p1
        obtain ⟨l, o, h1, _⟩ := r1.own (ownD_at q)
        refine ⟨.ref l, h1, B, G1, e1, r1, (PostS.bind (σ := σ) p1).imp fun G2 H2 e2 y r2 S2 p2 w hw => ?_⟩
        split at p2
        · rename_i i ds q2
          split at p2
          · rename_i m hm
            obtain ⟨l', o', h2, h3, h4, _⟩ := r2.own (ownD_at q2)
            rw [h1] at h2
            cases h2
            cases rep_int hw
            cases h4 with
            | lst hz ra =>
              refine ⟨l, _, i, m, rfl, rfl, h3, by rw [← ra.len]; exact hm, ?_⟩
              exact p2 σ G2 _ (r2.write (ownD_at q2) h1 (.lst (by rw [List.length_set]; exact hz) (RepAll.set (Rep.mono S2.s hv) m ra))) (Gr.refl B G2)
          · exact p2.elim
        · exact p2.elim⟩
theorem pds_putD (hu : X.A.units + 1 < cLine) (hN : X.N[j]? = some x) (hv : Vis X.env.scope x) (hi : PE X b (tD k W f)) (he : PE X a (tD k W g)) (hs : swapsWith a (some (.Subscript (.Name x p0) b cpos)) pos.line X.env = pure false)
    (hd : (x == ("__debug__" : Str)) = false := by decide) (hcd : (x == ("__classdict__" : Str)) = false := by decide) : PS X (.Assign [.Subscript (.Name x p0) b cpos] a pos) (tS k W fr (sPutD j f g)) :=
  (ps_dput hu (pe_var hN hv hd hcd) hi he hs).weak fun D σ H ⟨B, G, e, r, p⟩ => ⟨B, G, e, r, p.bind.imp fun G1 H1 e1 x r1 S1 p1 v hv => by
    cases x with
    | «at» i => exact p1.elim
    | d z =>
      cases q : ownD e1 j with
      | none => rw [q] at p1; exact p1.elim
      | some d0 =>
        rw [q] at p1
        obtain ⟨l, o, h1, _⟩ := r1.own (ownD_at q)
        refine ⟨.ref l, h1, B, G1, e1, r1, (PostS.bind (σ := σ) p1).imp fun G2 H2 e2 y r2 S2 p2 w hw => ?_⟩
        split at p2
        · rename_i y t ks q2
          split at p2
          · rename_i hz
            obtain ⟨l', o', h2, h3, h4, _⟩ := r2.own (ownD_at q2)
            rw [h1] at h2
            cases h2
            have hv2 := Rep.mono S2.s hv
            have hw : Rep k G2 y w := hw
            cases h4 with
            | dK rk =>
              cases q3 : keyK y with
              | none =>
                have p2 : PostS k B W fr D G2 (match (keyK y).map fun x => putA keyK ks x y z with
                  | some ks' => .nx (e2.set j (Sl.own (.dic false ks')))
                  | none => .bad) := p2
                rw [q3] at p2
                exact p2.elim
              | some xk =>
                have p2 : PostS k B W fr D G2 (match (keyK y).map fun x => putA keyK ks x y z with
                  | some ks' => .nx (e2.set j (Sl.own (.dic false ks')))
                  | none => .bad) := p2
                rw [q3] at p2
                obtain ⟨rfl, ok⟩ := rep_key hw q3
                rw [keyK_eq q3] at p2
                exact ⟨l, _, rfl, .inl ⟨_, xk, h3, rfl, by have := mil hz; rw [← repK_len rk]; exact this, rfl⟩, p2 σ G2 _ (r2.write (ownD_at q2) h1 (.dK (repK_put rk ok hv2))) (Gr.refl B G2)⟩
            | dT rk =>
              cases y with
              | tup ds =>
                have p2 : PostS k B W fr D G2 (match (keysK ds).map fun x => putA keyT ks x (.tup ds) z with
                  | some ks' => .nx (e2.set j (Sl.own (.dic true ks')))
                  | none => .bad) := p2
                cases q3 : keysK ds with
                | none => rw [q3] at p2; exact p2.elim
                | some xk =>
                  rw [q3] at p2
                  cases hw with
                  | tup g1 _ ra =>
                    obtain ⟨rfl, ok⟩ := rep_keys ra q3
                    rw [keysK_eq q3] at p2
                    exact ⟨l, _, rfl, .inr ⟨_, xk, _, h3, rfl, r2.vis _ _ g1, by have := mil hz; rw [← repT_len rk]; exact this, rfl⟩, p2 σ G2 _ (r2.write (ownD_at q2) h1 (.dT (repT_put rk ok hv2))) (Gr.refl B G2)⟩
              | _ => exact p2.elim
          · exact p2.elim
        · exact p2.elim⟩
theorem dic_ref {G H : Hp} {t : Bool} {ks : List (D × D)} {v : V} (n : Node k G H (.dic t ks) v) : ∃ a, v = .ref a ∧ IsD H a := by
  obtain ⟨a, rfl, ⟨_, vs, h, _⟩ | ⟨_, vs, h, _⟩⟩ := n
  · exact ⟨a, rfl, .inl ⟨vs, .inl h⟩⟩
  · exact ⟨a, rfl, .inr ⟨vs, .inl h⟩⟩
theorem pd_dget (hu : X.A.units + 1 < cLine) (ho : PE X a (tD k W f)) (hi : PE X b (tD k W g)) (hs : NoSl b) : PE X (.Subscript a b pos) (tD k W (eDGet f g)) :=
  (pe_dget hu ho hi hs).weak fun σ H Q ⟨B, G, e, r, p⟩ => ⟨B, G, e, r, p.bind.imp fun G1 H1 e1 x r1 S1 p1 v hv => ⟨B, G1, e1, r1, p1.bind.imp fun G2 H2 e2 y r2 S2 p2 w hw => by
    split at p2
    · rename_i t ks y q
      split at p2
      · rename_i z qz
        have n := (hv.mono S2.s).de r2 q
        obtain ⟨l, rfl, _⟩ := dic_ref n
        obtain ⟨u, h1, h2⟩ := dget_node r2.vis n hw qz
        rcases h2 with ⟨h2, _⟩ | ⟨d, w', h2, rfl, h3⟩
        · cases h2
        · cases h2
          exact ⟨l, w', rfl, h1, p2 G2 H2 r2 (Gr.refl B G2) w' h3⟩
      · exact p2.elim
    · exact p2.elim⟩⟩
theorem din_sem {σ : L2.St} {H : Hp} {Q : VK} (p : tD k W (eDIn g f) σ H Q) : tDIn (tD k W g) (tD k W f) σ H Q := by
  obtain ⟨B, G, e, r, p⟩ := p
  refine ⟨B, G, e, r, p.bind.imp fun G1 H1 e1 y r1 S1 p1 v hv => ⟨B, G1, e1, r1, p1.bind.imp fun G2 H2 e2 x r2 S2 p2 w hw => ?_⟩⟩
  split at p2
  · rename_i t ks y q
    split at p2
    · rename_i o qo
      have n := hw.de r2 q
      obtain ⟨l, rfl, _⟩ := dic_ref n
      obtain ⟨u, h1, h2⟩ := dget_node r2.vis n (Rep.mono S2.s hv) qo
      refine ⟨l, u, rfl, h1, ?_⟩
      have e0 : u.isSome = o.isSome := by
        rcases h2 with ⟨rfl, rfl⟩ | ⟨d, w', rfl, rfl, _⟩ <;> rfl
      rw [e0]
      exact p2 G2 H2 r2 (Gr.refl B G2) _ (.bl _)
    · exact p2.elim
  · exact p2.elim
theorem dnotin_sem {σ : L2.St} {H : Hp} {Q : VK} (p : tD k W (eDNotIn g f) σ H Q) : tDNotIn (tD k W g) (tD k W f) σ H Q := by
  obtain ⟨B, G, e, r, p⟩ := p
  refine ⟨B, G, e, r, p.bind.imp fun G1 H1 e1 y r1 S1 p1 v hv => ⟨B, G1, e1, r1, p1.bind.imp fun G2 H2 e2 x r2 S2 p2 w hw => ?_⟩⟩
  split at p2
  · rename_i t ks y q
    split at p2
    · rename_i o qo
      have n := hw.de r2 q
      obtain ⟨l, rfl, _⟩ := dic_ref n
      obtain ⟨u, h1, h2⟩ := dget_node r2.vis n (Rep.mono S2.s hv) qo
      refine ⟨l, u, rfl, h1, ?_⟩
      have e0 : u.isSome = o.isSome := by
        rcases h2 with ⟨rfl, rfl⟩ | ⟨d, w', rfl, rfl, _⟩ <;> rfl
      rw [e0]
      exact p2 G2 H2 r2 (Gr.refl B G2) _ (.bl _)
    · exact p2.elim
  · exact p2.elim
theorem pd_din (hu : X.A.units + 1 < cLine) (hi : PE X a (tD k W g)) (ho : PE X b (tD k W f)) (h1 : behindInMarks .In b = false := by rfl) : PE X (.Compare a [.In] [b] pos) (tD k W (eDIn g f)) := (pe_cmp (pc_din hu hi ho) h1).weak fun _ _ _ p => din_sem p
theorem pd_dnotin (hu : X.A.units + 1 < cLine) (hi : PE X a (tD k W g)) (ho : PE X b (tD k W f)) (h1 : behindInMarks .NotIn b = false := by rfl) : PE X (.Compare a [.NotIn] [b] pos) (tD k W (eDNotIn g f)) := (pe_cmp (pc_dnotin hu hi ho) h1).weak fun _ _ _ p => dnotin_sem p
theorem pdt_din (hu : X.A.units + 1 < cLine) (hi : PE X a (tD k W g)) (ho : PE X b (tD k W f)) (h1 : behindInMarks .In b = false := by rfl) : PT X (.Compare a [.In] [b] pos) (tQ k W (qB (eDIn g f))) := (pt_cmp (pc_din hu hi ho) h1).weak fun _ _ _ p => din_sem (q_of_d p)
theorem pdt_dnotin (hu : X.A.units + 1 < cLine) (hi : PE X a (tD k W g)) (ho : PE X b (tD k W f)) (h1 : behindInMarks .NotIn b = false := by rfl) : PT X (.Compare a [.NotIn] [b] pos) (tQ k W (qB (eDNotIn g f))) := (pt_cmp (pc_dnotin hu hi ho) h1).weak fun _ _ _ p => dnotin_sem (q_of_d p)
theorem isDic_some {o : Option D} (h : isDic o = true) : ∃ t ks, o = some (.dic t ks) := by
  unfold isDic at h
  split at h
  · exact ⟨_, _, rfl⟩
  · cases h
theorem pd_get2 (hu : X.A.units + 1 < cLine) (ho : PE X a (tD k W f)) (he : PE X b (tD k W g)) (hf : PE X c (tD k W h)) (m : M2 X a "get" apos b c cpos) : PE X (.Call (.Attribute a "get" apos) [b, c] [] cpos) (tD k W (eGet2 f g h)) :=
  (pe_dget2 hu ho he hf m).weak fun σ H Q ⟨B, G, e, r, p⟩ => ⟨B, G, e, r, p.bind.imp fun G1 H1 e1 x r1 S1 p1 v hv => by
    split at p1
    · rename_i hd
      obtain ⟨t0, ks0, q0⟩ := isDic_some hd
      obtain ⟨l, rfl, isd⟩ := dic_ref (hv.de r1 q0)
      refine ⟨l, rfl, isd, B, G1, e1, r1, p1.bind.imp fun G2 H2 e2 y r2 S2 p2 w hw => ⟨B, G2, e2, r2, p2.bind.imp fun G3 H3 e3 z r3 S3 p3 u hz => ?_⟩⟩
      split at p3
      · rename_i t ks y z q
        split at p3
        · rename_i o qo
          have n := (hv.mono (S2.trans S3).s).de r3 q
          obtain ⟨u', h1, h2⟩ := dget_node r3.vis n (Rep.mono S3.s hw) qo
          refine ⟨u', h1, ?_⟩
          rcases h2 with ⟨rfl, rfl⟩ | ⟨d, w', rfl, rfl, h3⟩
          · exact p3 G3 H3 r3 (Gr.refl B G3) u hz
          · exact p3 G3 H3 r3 (Gr.refl B G3) w' h3
        · exact p3.elim
      · exact p3.elim
    · exact p1.elim⟩
theorem pd_get1 (hu : X.A.units + 1 < cLine) (ho : PE X a (tD k W f)) (he : PE X b (tD k W g)) (m : M1 X a "get" apos b cpos) : PE X (.Call (.Attribute a "get" apos) [b] [] cpos) (tD k W (eGet1 f g)) :=
  (pe_dget1 hu ho he m).weak fun σ H Q ⟨B, G, e, r, p⟩ => ⟨B, G, e, r, p.bind.imp fun G1 H1 e1 x r1 S1 p1 v hv => by
    split at p1
    · rename_i hd
      obtain ⟨t0, ks0, q0⟩ := isDic_some hd
      obtain ⟨l, rfl, isd⟩ := dic_ref (hv.de r1 q0)
      refine ⟨l, rfl, isd, B, G1, e1, r1, p1.bind.imp fun G2 H2 e2 y r2 S2 p2 w hw => ?_⟩
      split at p2
      · rename_i t ks y q
        split at p2
        · rename_i o qo
          have n := (hv.mono S2.s).de r2 q
          obtain ⟨u', h1, h2⟩ := dget_node r2.vis n hw qo
          refine ⟨u', h1, ?_⟩
          rcases h2 with ⟨rfl, rfl⟩ | ⟨d, w', rfl, rfl, h3⟩
          · exact p2 G2 H2 r2 (Gr.refl B G2) _ .non
          · exact p2 G2 H2 r2 (Gr.refl B G2) w' h3
        · exact p2.elim
      · exact p2.elim
    · exact p1.elim⟩
theorem pd_newK : PE X (.Dict [] [] pos) (tN k W (fun e => .ok (.dic false []) e)) := pe_dnewK.weak fun σ H Q ⟨B, G, e, r, p⟩ p0 hp => post_givesN r p p0 _ hp (.dK .nil)
theorem pd_newT : PE X (.Dict [] [] pos) (tN k W (fun e => .ok (.dic true []) e)) := pe_dnewT.weak fun σ H Q ⟨B, G, e, r, p⟩ p0 hp => post_givesN r p p0 _ hp (.dT .nil)
theorem isD_own {G H : Hp} {l : Addr} {d : D} {o : HO} (K : PySem.W.Frag) (n : NodeO k G d o) (h : H l = some o) (hl : ∃ ds, d = .lst ds) : tyV K "list" (.ref l) H := by
  obtain ⟨ds, rfl⟩ := hl
  cases n with
  | lst _ _ => exact .inl ⟨rfl, _, SqL.of h⟩
variable {id : String} {name : Str} {r : V → List V → Hp → VK → Prop} {m : D → List D → Option (D × D)}
theorem mt_lst_ok {c : D} {ds : List D} {z : D × D} (h : mAppend c ds = some z ∨ mExtend c ds = some z ∨ mInsert c ds = some z ∨ mPop c ds = some z) : ∃ xs, c = .lst xs := by
  cases c with
  | lst xs => exact ⟨xs, rfl⟩
  | _ => rcases h with h | h | h | h <;> cases h
/-- x.m(..) of a slot's own list -/
theorem pd_mt (slot : Slot "list" name id) (hty : typeOf (.builtin id) = pure (.type "method_descriptor")) (hm : MtR X id r) (hc : ConsM k r m) (hN : X.N[j]? = some x) (hv : Vis X.env.scope x) (ha : PA X (a :: es) (tL k W fs))
    (hbase : attributeBase (.Name x p0) name X.env (eval (.Name x p0) X.env) = eval (.Name x p0) X.env := by rfl)
    (hfew : ((backTo cpos (starEach (a :: es) X.env)).all (fun x => !x.1) && (backToKw cpos (keywordEach [] X.env)).all (fun x => x.1.isSome)
      && decide ((a :: es).length + ([] : List Keyword).length + (if ([] : List Keyword).isEmpty then 0 else 1) < 30)) = true := by rfl)
    (hline : (apos.endLine == cpos.line) = true := by rfl) (hs : starEach (a :: es) X.env = (false, eval a X.env) :: starEach es X.env := by rfl) (hplain : (backTo cpos (starEach es X.env)).any (·.1) = false := by rfl)
    (hd : (x == ("__debug__" : Str)) = false := by decide) (hcd : (x == ("__classdict__" : Str)) = false := by decide) :
    PE X (.Call (.Attribute (.Name x p0) name apos) (a :: es) [] cpos) (tD k W (eMt j m fs)) :=
  (pe_bm PySem.F.plainAttrs_list slot hty hm (pe_var hN hv hd hcd) ha hbase hfew hline hs hplain).weak fun σ H Q ⟨B, G, e, r, p⟩ => by
    unfold eMt at p
    split at p
    · rename_i xs q
      obtain ⟨l, o, h1, h2, h3, _⟩ := r.own (ownD_at q)
      refine ⟨.ref l, h1, isD_own _ h3 h2 ⟨_, rfl⟩, B, G, e, r, p.bind.imp fun G1 H1 e1 ys r1 S1 p1 vs hvs => ?_⟩
      split at p1
      · rename_i c ds q1 q2
        split at p1
        · rename_i z c' q3
          obtain ⟨l', o', g1, g2, g3, _⟩ := r1.own (ownD_at q1)
          rw [h1] at g1
          cases g1
          exact hc G1 H1 l o' c c' z ds vs Q r1.vis g2 g3 (hvs.pures q2) q3 fun v o2 rv n2 => p1 G1 _ (r1.write (ownD_at q1) h1 n2) (Gr.refl B G1) v rv
        · exact p1.elim
      · exact p1.elim
    · exact p.elim
theorem pd_mt0 (slot : Slot "list" name id) (hty : typeOf (.builtin id) = pure (.type "method_descriptor")) (hm : MtR X id r) (hc : ConsM k r m) (hN : X.N[j]? = some x) (hv : Vis X.env.scope x)
    (hbase : attributeBase (.Name x p0) name X.env (eval (.Name x p0) X.env) = eval (.Name x p0) X.env := by rfl) (hline : (apos.endLine == cpos.line) = true := by rfl)
    (hd : (x == ("__debug__" : Str)) = false := by decide) (hcd : (x == ("__classdict__" : Str)) = false := by decide) :
    PE X (.Call (.Attribute (.Name x p0) name apos) [] [] cpos) (tD k W (eMt0 j m)) :=
  (pe_bm0 PySem.F.plainAttrs_list slot hty hm (pe_var hN hv hd hcd) hbase hline).weak fun σ H Q ⟨B, G, e, r, p⟩ => by
    unfold eMt0 at p
    split at p
    · rename_i xs q
      obtain ⟨l, o, h1, h2, h3, _⟩ := r.own (ownD_at q)
      refine ⟨.ref l, h1, isD_own _ h3 h2 ⟨_, rfl⟩, ?_⟩
      split at p
      · rename_i z c' q3
        exact hc G H l o _ c' z [] [] Q r.vis h2 h3 .nil q3 fun v o2 rv n2 => p G _ (r.write (ownD_at q) h1 n2) (Gr.refl B G) v rv
      · exact p.elim
    · exact p.elim
end
end PD


set_option Elab.async false
set_option linter.all false
set_option maxRecDepth 100000
/-! sorted of a tuple of texts -/
namespace RK
open PySem PySem.Spec PyProof.Rows L2
/-- the same, one builtin deeper -/
def Cx.dn (X : Cx) : Cx := { X with A := X.A.in1 }
theorem ok_dn {X : Cx} (o : X.Ok) : (Cx.dn X).Ok :=
  ⟨o.mod, o.kind, o.glob, o.blt, o.above, o.inj, o.has, o.cab, o.hd, o.frames, o.stk, o.exf, o.bs, o.bsz, o.noex, o.exfs, o.funs, o.frf⟩
theorem inv_dn {X : Cx} {pins : List (Addr × Obj)} {σ : L2.St} {H : Hp} {s : Shared} (I : L2.Inv X pins σ H s) : L2.Inv (Cx.dn X) pins σ H s :=
  ⟨ok_dn I.ok, I.os, I.bare, I.base, I.loc, I.cell, I.free, I.freeC, I.pin, I.hok, I.len⟩
theorem inv_up {X : Cx} {pins : List (Addr × Obj)} {σ : L2.St} {H : Hp} {s : Shared} (o : X.Ok) (I : L2.Inv (Cx.dn X) pins σ H s) : L2.Inv X pins σ H s :=
  ⟨o, I.os, I.bare, I.base, I.loc, I.cell, I.free, I.freeC, I.pin, I.hok, I.len⟩
def rSortedTS (K : PySem.W.Frag) : List V → Hp → VK → Prop := fun vs H Q => ∃ (a : Addr) (xs : List Str), vs = [V.ref a] ∧ SqT K H a (xs.map V.str) ∧ xs.length < 64 ∧ ∀ (ys : List Str) (p : Addr), ys.Perm xs → sortedS ys = true → H p = none → Q (.ref p) (upd H p (.lst (ys.map V.str)))
theorem cr_sortedTS {X : Cx} : CallR X (.builtin "sorted") (rSortedTS X.K) := by
  intro pins s σ H xs us Q I r h
  obtain ⟨a, ys, rfl, ha, hl, k⟩ := h
  cases r with
  | @cons _ u1 _ us1 r1 r2 =>
  cases r2
  cases (show u1 = Value.ref a from r1)
  obtain ⟨its, hv, ⟨o, e, c, n, d⟩, hsz⟩ := I.tuple ha
  have hil : its.toArray.size ≤ sizeLine := by
    have := hv.length
    simp only [List.size_toArray]
    omega
  refine wpAny_call (codeAny_call_builtin (by decide +kernel) PyProof.Rows.entry_sorted (wpAny_of_eq (a := ()) (by rfl) ?_))
  unfold Builtin.sorted
  refine wpAny_bind (wpAny_of_eq (a := ()) (by rfl) (wpAny_bind (wpAny_collect_seq a (T := "tuple") (.inr rfl) e c d (fun h' hk => ?_) hil)))
  have I1 : L2.Inv X pins σ H ⟨h', s.gens, s.drawn, s.toks, s.os⟩ := I.kept hk
  have hp0 := I1.fresh
  have I2 := inv_dn (I1.lnew (t' := s.toks) hv hsz)
  unfold newList
  refine wpAny_bind (wpAny_newObj_type (T := "list") ?_ hil)
  refine wpAny_bind (wpAny_holding ?_)
  have hm := mt_sortS (X := Cx.dn X) pins _ σ _ (.ref h'.objs.size) [] (.ref h'.objs.size) []
    (fun v H2 => v = .non ∧ ∃ zs : List Str, zs.Perm ys ∧ sortedS zs = true ∧ H2 = upd (upd H h'.objs.size (.lst (ys.map V.str))) h'.objs.size (.lst (zs.map V.str))) I2 rfl .nil
    ⟨h'.objs.size, ys, rfl, rfl, upd_same, hl, fun zs hp hs => ⟨rfl, zs, hp, hs, rfl⟩⟩
  refine thn hm fun u s3 ⟨v, H3, I3, rv, _, zs, hp, hs, e3⟩ => ?_
  subst e3
  have e4 : upd (upd H h'.objs.size (.lst (ys.map V.str))) h'.objs.size (.lst (zs.map V.str)) = upd H h'.objs.size (.lst (zs.map V.str)) := by
    funext b
    by_cases eb : b = h'.objs.size
    · rw [eb, upd_same, upd_same]
    · rw [upd_ne eb, upd_ne eb, upd_ne eb]
  rw [e4] at I3
  exact wpAny_pure ⟨.ref h'.objs.size, _, inv_up I.ok I3, rfl, k zs h'.objs.size hp hs hp0⟩
end RK


set_option Elab.async false
set_option linter.all false
set_option maxRecDepth 100000
/-! a tuple turned about: t[::-1] -/
namespace RK
open PySem PySem.Spec PyProof.Rows L2
theorem fm_congr {α β : Type} {f g : α → Option β} : ∀ {l : List α}, (∀ x ∈ l, f x = g x) → l.filterMap f = l.filterMap g
  | [], _ => rfl
  | x :: l, h => by rw [List.filterMap_cons, List.filterMap_cons, h x List.mem_cons_self, fm_congr fun y hy => h y (List.mem_cons_of_mem _ hy)]
theorem rev_pick (xs : Array Value) : ((List.range xs.size).filterMap fun (m : Nat) => xs[((((xs.size : Int) - 1) + (m : Int) * (-1))).toNat]?).toArray = xs.toList.reverse.toArray := by
  have e1 : ((List.range xs.size).filterMap fun (m : Nat) => xs[((((xs.size : Int) - 1) + (m : Int) * (-1))).toNat]?) = (List.range xs.size).filterMap fun m => some (xs.toList.reverse.getD m Value.none) := by
    refine fm_congr fun m hm => ?_
    have hm := List.mem_range.mp hm
    have e : ((((xs.size : Int) - 1) + (m : Int) * (-1))).toNat = xs.size - 1 - m := by omega
    rw [e, Array.getElem?_eq_getElem (by omega), List.getD_eq_getElem?_getD, List.getElem?_reverse (by simpa using hm), Array.length_toList, Array.getElem?_toList, Array.getElem?_eq_getElem (by omega)]
    rfl
  rw [e1]
  congr 1
  have e2 : ((List.range xs.size).filterMap fun m => some (xs.toList.reverse.getD m Value.none)) = (List.range xs.size).map fun m => xs.toList.reverse.getD m Value.none := by
    exact congrFun (List.filterMap_eq_map (f := fun m => xs.toList.reverse.getD m Value.none)) _
  rw [e2]
  refine List.ext_getElem? fun i => ?_
  rw [List.getElem?_map]
  by_cases hi : i < xs.size
  · have hr : xs.toList.reverse[i]? = some (xs.toList.reverse[i]'(by simpa using hi)) := List.getElem?_eq_getElem (by simpa using hi)
    rw [List.getElem?_range hi, hr, Option.map_some, List.getD_eq_getElem?_getD, hr]
    rfl
  · rw [List.getElem?_eq_none (by simp; omega), List.getElem?_eq_none (by simp; omega)]
    rfl
section
variable {prog : Program} {w : World} {A : Around} {E : Value → Shared → Prop} {s : Shared}
theorem applied_rev {sl : Addr} {tk : Tok} {n : Nat} {Q : Int × Int × Nat → Shared → Prop} (hs : s.heap.IsSliceOf sl .none .none (.int (-1) tk)) (h : Q ((n : Int) - 1, -1, n) s) :
    wpAny (model prog w) A (Builtin.Slice.sliceApplied (.ref sl) (pure (n : Int))) Q E s := by
  obtain ⟨oS, gS, _, fS⟩ := id hs
  unfold Builtin.Slice.sliceApplied Builtin.Slice.sliceFields
  refine wpAny_bind (wpAny_bind (wpAny_field gS fS (x := .none) rfl (wpAny_bind (wpAny_field gS fS (x := .none) rfl (wpAny_bind (wpAny_field gS fS (x := .int (-1) tk) rfl (wpAny_pure ?_)))))))
  refine wpAny_bind (slicePart_int ?_)
  show wpAny _ _ (if ((-1 : Int) == 0) = true then _ else _) _ _ s
  rw [if_neg (by decide)]
  refine wpAny_bind (slicePart_none (wpAny_bind (slicePart_none (wpAny_bind (wpAny_pure ?_)))))
  show wpAny _ _ (pure ((n : Int) - 1, (-1 : Int), Builtin.Slice.slicePlaces ((n : Int) - 1) (-1) (-1))) _ _ s
  have e : Builtin.Slice.slicePlaces ((n : Int) - 1) (-1) (-1) = n := by
    unfold Builtin.Slice.slicePlaces
    rw [if_neg (by decide)]
    by_cases h0 : n = 0
    · subst h0
      decide
    · rw [if_pos (by omega)]
      have : (((n : Int) - 1 - -1 - 1) / - -1 + 1) = (n : Int) := by
        rw [show (- -1 : Int) = 1 from rfl, Int.ediv_one]
        omega
      rw [this, Int.toNat_natCast]
  rw [e]
  exact wpAny_pure h
theorem getItem_tuple_rev {t sl : Addr} {items : Array Value} {tk : Tok} {Q : Value → Shared → Prop} (ht : IsTup s.heap t items) (hs : s.heap.IsSliceOf sl .none .none (.int (-1) tk))
    (h : Q (.ref s.heap.objs.size) { s with heap := s.heap.push { cls := .type "tuple", data := .seq items.toList.reverse.toArray } }) (fits : items.size ≤ sizeLine) : wpAny (model prog w) A (getItem (.ref t) (.ref sl)) Q E s := by
  have okS : sizeOk (.seq items.toList.reverse.toArray) := by
    show items.toList.reverse.toArray.size ≤ sizeLine
    rw [List.size_toArray, List.length_reverse, Array.length_toList]
    exact fits
  obtain ⟨oS, gS, cS, _⟩ := id hs
  have isS : s.TypeIs (.ref sl) "slice" := ⟨oS, gS, cS⟩
  unfold getItem
  try with_reducible refine wpAny_holding ?_
  first | refine wpAny_bind (wpAny_pure ?_) | skip
  refine wpAny_bind (wpAny_sequenceKey ht.typeIs (by decide) (wpAny_bind (wpAny_callSpecial?_slot (name := Str.ofString "__getitem__") ht.typeIs PyProof.Rows.slot_tuple_getitem (wpAny_call_entry PyProof.Rows.slot_tuple_getitem ht.typeIs entry_tuple_getitem ?_ (args_tuple_getitem _ _)))))
  show wpAny _ _ (Builtin.Tuple.tupleItemsOf (.ref t) >>= _) _ _ s
  refine wpAny_bind (tupleItemsOf_ ht (wpAny_bind (wpAny_typeOf isS ?_)))
  rw [if_pos (by decide)]
  refine wpAny_bind (applied_rev hs ?_)
  have no : ¬ (((items.size : Int) - 1 == 0 && (-1 : Int) == 1 && items.size == items.size) = true) := by
    rw [show ((-1 : Int) == 1) = false from by decide, Bool.and_false, Bool.false_and]
    exact Bool.false_ne_true
  show wpAny _ _ (if ((items.size : Int) - 1 == 0 && (-1 : Int) == 1 && items.size == items.size) = true then _ else _) _ _ s
  rw [if_neg no, rev_pick]
  first
    | exact wpAny_bind (m := Builtin.Tuple.tupleExact _) (wpAny_newObj_type (wpAny_pure ⟨_, rfl, wpAny_pure h⟩) okS)
    | exact wpAny_bind (m := Builtin.Tuple.tupleExact _) (wpAny_newObj_type (wpAny_bind (wpAny_pure (wpAny_pure ⟨_, rfl, wpAny_pure h⟩))) okS)
    | exact wpAny_bind (wpAny_bind (m := Builtin.Tuple.tupleExact _) (wpAny_newObj_type (wpAny_pure (wpAny_pure ⟨_, rfl, wpAny_pure h⟩)) okS))
    | exact wpAny_bind (wpAny_bind (m := Builtin.Tuple.tupleExact _) (wpAny_newObj_type (wpAny_pure ⟨_, rfl, wpAny_pure h⟩) okS))
end
def tRevT (K : PySem.W.Frag) (te : TE) : TE := fun σ H Q => te σ H fun x H1 => ∃ a xs, x = .ref a ∧ SqT K H1 a xs ∧ ∀ p, H1 p = none → Q (.ref p) (upd H1 p (.tup xs.reverse))
section
variable {X : Cx}
theorem pe_revT {e : Expr} {te : TE} {k : Nat} {p1 p2 p3 pos : Pos} (he : PE X e te) : PE X (.Subscript e (.Slice none none (some (.UnaryOp .USub (.Constant (.int 1) k p1) p2)) p3) pos) (tRevT X.K te) := by
  refine ⟨fun pins s σ H Q I h => Subscript_ (thn (he.run pins s σ H _ I h) fun v s1 ⟨x, H1, I1, r1, a, xs, ex, hx, q⟩ => ?_)⟩
  subst ex
  cases r1
  have part : PO X (some (.UnaryOp .USub (.Constant (.int 1) k p1) p2)) (tPart (tUn (rU fun i => .int (-i)) (tC (.int 1)))) := po_some (pe_un un_neg pe_int)
  refine wpAny_Slice (thn (po_none.run pins s1 σ H1 (fun o H2 => o = none ∧ H2 = H1) I1 ⟨rfl, rfl⟩) fun vl s2 ⟨l, H2, I2, pl, el, e2⟩ => ?_)
  subst el e2
  refine thn (po_none.run pins s2 σ H2 (fun o H3 => o = none ∧ H3 = H2) I2 ⟨rfl, rfl⟩) fun vu s3 ⟨u, H3, I3, pu, eu, e3⟩ => ?_
  subst eu e3
  refine thn (part.run pins s3 σ H3 (fun o H4 => o = some (-1) ∧ H4 = H3) I3 ⟨1, rfl, -1, rfl, rfl, rfl⟩) fun vs s4 ⟨o, H4, I4, ps, eo, e4⟩ => ?_
  subst eo e4
  obtain rfl : vl = .none := by cases pl; rfl
  obtain rfl : vu = .none := by cases pu; rfl
  obtain ⟨tk, rfl⟩ : ∃ tk, vs = .int (-1) tk := by cases ps; exact ⟨_, rfl⟩
  have I5 : L2.Inv X pins σ H4 { s4 with heap := s4.heap.push { cls := .type "slice", data := .fields #[.none, .none, .int (-1) tk] } } := I4.kept (t' := s4.toks) fun _ _ z => Heap.get?_push_of_some _ z
  obtain ⟨its, r, ht, hz⟩ := I5.tuple hx
  show wpAny (model X.prog X.w) X.A (subscriptTail e (.Slice none none (some (.UnaryOp .USub (.Constant (.int 1) k p1) p2)) p3) (.ref a) (.ref s4.heap.objs.size)) (EP X pins σ Q) X.xe { s4 with heap := s4.heap.push { cls := .type "slice", data := .fields #[.none, .none, .int (-1) tk] } }
  refine tail_any (ops := [.ref a, .ref s4.heap.objs.size]) ht.typeIs (PyProof.Rows.slot_tuple_getitem.lookup) ?_ (by with_unfolding_all rfl)
  have hln := r.length
  refine getItem_tuple_rev ht (Heap.IsSliceOf.new _ .none .none (.int (-1) tk)) ?_ (by rw [List.size_toArray]; omega)
  refine ⟨.ref _, _, I5.laid (t' := s4.toks) (o := .tup xs.reverse) (fun _ _ z => Heap.get?_push_of_some _ z) (Nat.le_refl _) ?_, rfl, q _ (I5.hok.fresh (Nat.le_refl _))⟩
  exact ⟨by rw [List.length_reverse]; exact hz, _, r.reverse, IsTup.new _ _⟩
end
end RK


set_option Elab.async false
set_option linter.all false
set_option maxRecDepth 100000
/-! rooms that are made outcome by outcome -/
namespace RK
open PySem PySem.Spec PyProof.Rows L2
def apartB (rms : List Rm) (taken : List Str) (x : Str) : Bool := (rms.all fun r => !(decide (x ∈ r) && taken.any fun y => decide (y ∈ r))) && decide (x ∉ taken)
theorem apart_of {rms : List Rm} {taken : List Str} {x : Str} (h : apartB rms taken x = true) : x ∉ taken ∧ ∀ r ∈ rms, x ∈ r → ∀ y ∈ taken, y ∉ r := by
  unfold apartB at h
  rw [Bool.and_eq_true, decide_eq_true_eq, List.all_eq_true] at h
  refine ⟨h.2, fun r hr hx y hy z => ?_⟩
  have := h.1 r hr
  rw [decide_eq_true hx, Bool.true_and, Bool.not_eq_true', List.any_eq_false] at this
  exact this y hy (decide_eq_true z)
/-- rooms so far and what they have -/
structure Mk (names : List Str) (rms : List Rm) (us : List Str) : Prop where
  ok : ∀ r ∈ rms, RoomOk r
  one : rms.Pairwise (fun r s => (common s r).length ≤ 1)
  uif : ∀ x, x ∈ us ↔ ∃ r ∈ rms, x ∈ r
  nd : us.Nodup
  sub : ∀ x ∈ us, x ∈ names
/-- a room in the making, after j turns -/
structure Mkr (names : List Str) (rms : List Rm) (us rm : List Str) (j : Nat) : Prop where
  nd : rm.Nodup
  sub : ∀ x ∈ rm, x ∈ names
  len : rm.length ≤ j
  ap : ∀ r ∈ rms, ∀ x ∈ rm, ∀ y ∈ rm, x ∈ r → y ∈ r → x = y
  first : us = [] → rm.length = j
theorem mkr_nil (names : List Str) (rms : List Rm) (us : List Str) : Mkr names rms us [] 0 :=
  ⟨List.nodup_nil, fun _ h => absurd h List.not_mem_nil, Nat.le_refl 0, fun _ _ _ h => absurd h List.not_mem_nil, fun _ => rfl⟩
theorem nodup_snoc {l : List Str} {x : Str} (h : l.Nodup) (n : x ∉ l) : (l ++ [x]).Nodup := by
  rw [List.nodup_append]
  refine ⟨h, by simp, fun a ha b hb e => ?_⟩
  rw [List.mem_singleton.mp hb] at e
  exact n (e ▸ ha)
theorem mkr_add {names : List Str} {rms : List Rm} {us rm : List Str} {j : Nat} {x : Str} (m : Mkr names rms us rm j) (hx : x ∈ names) (hn : x ∉ rm) (ha : ∀ r ∈ rms, x ∈ r → ∀ y ∈ rm, y ∉ r) : Mkr names rms us (rm ++ [x]) (j + 1) := by
  refine ⟨nodup_snoc m.nd hn, fun y hy => ?_, ?_, fun r hr y hy z hz yr zr => ?_, fun e => ?_⟩
  · rcases List.mem_append.mp hy with hy | hy
    · exact m.sub y hy
    · rw [List.mem_singleton.mp hy]; exact hx
  · rw [List.length_append]
    have := m.len
    simp
    omega
  · rcases List.mem_append.mp hy with hy | hy
    · rcases List.mem_append.mp hz with hz | hz
      · exact m.ap r hr y hy z hz yr zr
      · rw [List.mem_singleton.mp hz] at zr
        exact absurd yr (ha r hr zr y hy)
    · rw [List.mem_singleton.mp hy] at yr ⊢
      rcases List.mem_append.mp hz with hz | hz
      · exact absurd zr (ha r hr yr z hz)
      · rw [List.mem_singleton.mp hz]
  · rw [List.length_append, m.first e]
    rfl
theorem mkr_stay {names : List Str} {rms : List Rm} {us rm : List Str} {j : Nat} (m : Mkr names rms us rm j) (h : us ≠ []) : Mkr names rms us rm (j + 1) :=
  ⟨m.nd, m.sub, Nat.le_succ_of_le m.len, m.ap, fun e => absurd e h⟩
theorem len_one {l : List Str} (nd : l.Nodup) (h : ∀ x ∈ l, ∀ y ∈ l, x = y) : l.length ≤ 1 := by
  match l, nd, h with
  | [], _, _ => exact Nat.zero_le 1
  | [_], _, _ => exact Nat.le_refl 1
  | x :: y :: r, nd, h =>
    rw [List.nodup_cons] at nd
    exact absurd (List.mem_cons.mpr (.inl (h x (by simp) y (by simp)))) nd.1
/-- a room is done -/
theorem mk_add {names : List Str} {rms : List Rm} {us rm s : List Str} {j : Nat} (M : Mk names rms us) (m : Mkr names rms us rm j) (hj : j ≤ 5) (h3 : 3 ≤ rm.length) (hn : ∀ x ∈ names, NameOk x) (hp : s.Perm rm) (hs : sortedS s = true) :
    Mk names (rms ++ [s]) (us ++ rm.filter fun x => decide (x ∉ us)) := by
  have hsl := hp.length_eq
  have hml := m.len
  have hnd : s.Nodup := hp.nodup_iff.mpr m.nd
  refine ⟨fun r hr => ?_, ?_, fun x => ?_, ?_, fun x hx => ?_⟩
  · rcases List.mem_append.mp hr with hr | hr
    · exact M.ok r hr
    · rw [List.mem_singleton.mp hr]
      exact ⟨by omega, by omega, fun x hx => hn x (m.sub x (hp.mem_iff.mp hx)), asc_of hs hnd⟩
  · rw [List.pairwise_append]
    refine ⟨M.one, List.pairwise_singleton _ _, fun r hr t ht => ?_⟩
    rw [List.mem_singleton.mp ht]
    refine len_one (List.Nodup.sublist List.filter_sublist hnd) fun x hx y hy => ?_
    rw [common, List.mem_filter, decide_eq_true_eq] at hx hy
    exact m.ap r hr x (hp.mem_iff.mp hx.1) y (hp.mem_iff.mp hy.1) hx.2 hy.2
  · rw [List.mem_append, M.uif x, List.mem_filter, decide_eq_true_eq, M.uif x]
    constructor
    · rintro (⟨r, hr, hx⟩ | ⟨hx, _⟩)
      · exact ⟨r, List.mem_append.mpr (.inl hr), hx⟩
      · exact ⟨s, List.mem_append.mpr (.inr (List.mem_singleton.mpr rfl)), hp.mem_iff.mpr hx⟩
    · rintro ⟨r, hr, hx⟩
      rcases List.mem_append.mp hr with hr | hr
      · exact .inl ⟨r, hr, hx⟩
      · rw [List.mem_singleton.mp hr] at hx
        by_cases e : ∃ r ∈ rms, x ∈ r
        · exact .inl e
        · exact .inr ⟨hp.mem_iff.mp hx, e⟩
  · rw [List.nodup_append]
    refine ⟨M.nd, List.Nodup.sublist List.filter_sublist m.nd, fun a ha b hb e => ?_⟩
    rw [List.mem_filter, decide_eq_true_eq] at hb
    exact hb.2 (e ▸ ha)
  · rcases List.mem_append.mp hx with hx | hx
    · exact M.sub x hx
    · exact m.sub x (List.mem_filter.mp hx).1
theorem mk_nil (names : List Str) : Mk names [] [] :=
  ⟨fun _ h => absurd h List.not_mem_nil, List.Pairwise.nil, fun x => by simp, List.nodup_nil, fun _ h => absurd h List.not_mem_nil⟩
theorem mk_rooms {names : List Str} {rms : List Rm} {us : List Str} (M : Mk names rms us) (h1 : 1 ≤ rms.length) (h9 : rms.length ≤ 10) (hn : names.length ≤ 24) : RoomsOk rms := by
  refine ⟨⟨h1, h9⟩, M.ok, M.one, ?_⟩
  refine Nat.le_trans (nodup_sub_len (nodup_firsts _) fun x hx => ?_) hn
  exact M.sub x ((M.uif x).mpr (mem_outsOf.mp hx))
/-! ### lists of texts as data -/
theorem dp_strs {K : PySem.W.Frag} {H : Hp} : ∀ zs : List Str, DpAll K H (zs.map V.str) (zs.map PyData.str)
  | [] => .nil
  | z :: zs => .cons (.str z) (dp_strs zs)
theorem lay_strs : ∀ zs : List Str, (∀ x ∈ zs, PyData.strOk x = true) → PyData.canLayAll0 (zs.map PyData.str) = true
  | [], _ => rfl
  | z :: zs, h => by
    have e : PyData.canLayAll0 ((z :: zs).map PyData.str) = (PyData.strOk z && PyData.canLayAll0 (zs.map PyData.str)) := rfl
    rw [e, h z List.mem_cons_self, lay_strs zs fun x hx => h x (List.mem_cons_of_mem _ hx)]
    rfl
theorem depth_strs : ∀ zs : List Str, PyData.depthAll (zs.map PyData.str) ≤ 1
  | [] => by decide
  | z :: zs => by
    have h : PyData.depthAll ((z :: zs).map PyData.str) = max (PyData.str z).depth (PyData.depthAll (zs.map PyData.str)) := rfl
    rw [h]
    exact Nat.max_le.mpr ⟨Nat.le_of_ble_eq_true rfl, depth_strs zs⟩
theorem shaped_strs (zs : List Str) (hz : ∀ x ∈ zs, PyData.strOk x = true) : SeqAt.shaped (.list (zs.map PyData.str)) = true := by
  unfold SeqAt.shaped
  have h : (PyData.list (zs.map PyData.str)).canLay0 = PyData.canLayAll0 (zs.map PyData.str) := rfl
  have h2 : (PyData.list (zs.map PyData.str)).depth = PyData.depthAll (zs.map PyData.str) + 1 := rfl
  have := depth_strs zs
  rw [h, lay_strs zs hz, h2, Bool.true_and]
  exact decide_eq_true (by omega)
/-- xs != [], xs == [] for texts -/
theorem ne_nil_strs {K : PySem.W.Frag} {H : Hp} {l q : Addr} {zs : List Str} {Q : VK} (hz : ∀ x ∈ zs, PyData.strOk x = true) (hl : H l = some (.lst (zs.map V.str))) (hq : H q = some (.lst [])) (k : Q (.bl (!zs.isEmpty)) H) : rNeD K (.ref l) (.ref q) H Q := by
  refine ⟨.list (zs.map PyData.str), .list [], .lst (SqL.of hl) (dp_strs zs), .lst (SqL.of hq) .nil, shaped_strs zs hz, by decide, ?_⟩
  have e : (PyData.list (zs.map PyData.str)).eqv (.list []) = zs.isEmpty := by cases zs <;> rfl
  rw [e]
  exact k
theorem eq_nil_strs {K : PySem.W.Frag} {H : Hp} {l q : Addr} {zs : List Str} {Q : VK} (hz : ∀ x ∈ zs, PyData.strOk x = true) (hl : H l = some (.lst (zs.map V.str))) (hq : H q = some (.lst [])) (k : Q (.bl zs.isEmpty) H) : rEqD K (.ref l) (.ref q) H Q := by
  refine ⟨.list (zs.map PyData.str), .list [], .lst (SqL.of hl) (dp_strs zs), .lst (SqL.of hq) .nil, shaped_strs zs hz, by decide, ?_⟩
  have e : (PyData.list (zs.map PyData.str)).eqv (.list []) = zs.isEmpty := by cases zs <;> rfl
  rw [e]
  exact k
end RK


set_option Elab.async false
set_option linter.all false
set_option maxRecDepth 100000
/-! any value as rooms: what it is on the heap, and which fault of a book it has -/
namespace RK
open PySem PySem.Spec PyProof.Rows L2
/-- one to one -/
def At2 {α β : Type} (P : α → β → Prop) (vs : List α) (as : List β) : Prop := vs.length = as.length ∧ ∀ (i : Nat) (v : α) (a : β), vs[i]? = some v → as[i]? = some a → P v a
theorem At2.imp {α β : Type} {P P' : α → β → Prop} {vs : List α} {as : List β} (h : At2 P vs as) (k : ∀ v a, P v a → P' v a) : At2 P' vs as := ⟨h.1, fun i v a e1 e2 => k v a (h.2 i v a e1 e2)⟩
theorem At2.get {α β : Type} {P : α → β → Prop} {vs : List α} {as : List β} (h : At2 P vs as) {i : Nat} {v : α} (e : vs[i]? = some v) : ∃ a, as[i]? = some a ∧ P v a := by
  have hi := (List.getElem?_eq_some_iff.mp e).1
  have e2 : as[i]? = some (as[i]'(by rw [← h.1]; exact hi)) := List.getElem?_eq_getElem (by rw [← h.1]; exact hi)
  exact ⟨_, e2, h.2 i v _ e e2⟩
theorem At2.nil {α β : Type} {P : α → β → Prop} : At2 P [] [] := ⟨rfl, fun i v a e _ => by simp at e⟩
theorem At2.cons {α β : Type} {P : α → β → Prop} {v : α} {a : β} {vs : List α} {as : List β} (h : P v a) (t : At2 P vs as) : At2 P (v :: vs) (a :: as) := by
  refine ⟨by rw [List.length_cons, List.length_cons, t.1], fun i u b e1 e2 => ?_⟩
  cases i with
  | zero =>
    rw [List.getElem?_cons_zero] at e1 e2
    cases e1
    cases e2
    exact h
  | succ i => exact t.2 i u b (by simpa using e1) (by simpa using e2)
theorem At2.append {α β : Type} {P : α → β → Prop} {vs us : List α} {as bs : List β} (h : At2 P vs as) (k : At2 P us bs) : At2 P (vs ++ us) (as ++ bs) := by
  refine ⟨by rw [List.length_append, List.length_append, h.1, k.1], fun i u b e1 e2 => ?_⟩
  by_cases hi : i < vs.length
  · rw [List.getElem?_append_left hi] at e1
    rw [List.getElem?_append_left (by rw [← h.1]; exact hi)] at e2
    exact h.2 i u b e1 e2
  · rw [List.getElem?_append_right (by omega)] at e1
    rw [List.getElem?_append_right (by rw [← h.1]; omega), ← h.1] at e2
    exact k.2 _ u b e1 e2
theorem At2.take {α β : Type} {P : α → β → Prop} {vs : List α} {as : List β} (h : At2 P vs as) (n : Nat) : At2 P (vs.take n) (as.take n) := by
  refine ⟨by rw [List.length_take, List.length_take, h.1], fun i v a e1 e2 => ?_⟩
  rw [List.getElem?_take] at e1 e2
  split at e1
  · rename_i hi
    rw [if_pos hi] at e2
    exact h.2 i v a e1 e2
  · cases e1
theorem At2.drop {α β : Type} {P : α → β → Prop} {vs : List α} {as : List β} (h : At2 P vs as) (n : Nat) : At2 P (vs.drop n) (as.drop n) := by
  refine ⟨by rw [List.length_drop, List.length_drop, h.1], fun i v a e1 e2 => ?_⟩
  rw [List.getElem?_drop] at e1 e2
  exact h.2 _ v a e1 e2
theorem At2.rev {α β : Type} {P : α → β → Prop} {vs : List α} {as : List β} (h : At2 P vs as) : At2 P vs.reverse as.reverse := by
  refine ⟨by rw [List.length_reverse, List.length_reverse, h.1], fun i v a e1 e2 => ?_⟩
  have hi : i < vs.length := by
    have := (List.getElem?_eq_some_iff.mp e1).1
    rwa [List.length_reverse] at this
  rw [List.getElem?_reverse hi] at e1
  rw [List.getElem?_reverse (by rw [← h.1]; exact hi), ← h.1] at e2
  exact h.2 _ v a e1 e2
theorem At2.ex {α β : Type} {P : α → β → Prop} : ∀ {vs : List α}, (∀ v ∈ vs, ∃ a, P v a) → ∃ as : List β, At2 P vs as
  | [], _ => ⟨[], At2.nil⟩
  | v :: vs, h => by
    obtain ⟨a, ha⟩ := h v List.mem_cons_self
    obtain ⟨as, has⟩ := At2.ex (vs := vs) fun u hu => h u (List.mem_cons_of_mem _ hu)
    exact ⟨a :: as, At2.cons ha has⟩
theorem At2.mem {α β : Type} {P : α → β → Prop} {vs : List α} {as : List β} (h : At2 P vs as) {v : α} (hv : v ∈ vs) : ∃ a, P v a := by
  obtain ⟨i, hi, e⟩ := List.getElem_of_mem hv
  obtain ⟨a, _, ha⟩ := h.get (i := i) (v := v) (by rw [List.getElem?_eq_getElem hi, e])
  exact ⟨a, ha⟩
/-! ### values -/
abbrev Atom := Option Str
abbrev Item := Option (List Atom)
abbrev Vl := Option (List Item)
/-- not of that built-in type, as isinstance tells -/
def NotTy (K : PySem.W.Frag) (H : Hp) (v : V) (t : String) : Prop := ∃ T, TyX K H v (.type T) ∧ kitB T t = some false
def AtomAt (K : PySem.W.Frag) (H : Hp) (v : V) (a : Atom) : Prop := (∃ x, a = some x ∧ v = .str x ∧ x.length ≤ 1000) ∨ (a = none ∧ (∀ x, v ≠ .str x) ∧ NotTy K H v "str")
def ItemAt (K : PySem.W.Frag) (H : Hp) (v : V) (it : Item) : Prop := (∃ (t : Addr) (vs : List V) (as : List Atom), it = some as ∧ v = .ref t ∧ H t = some (.tup vs) ∧ vs.length ≤ 1000 ∧ At2 (AtomAt K H) vs as) ∨ (it = none ∧ NotTy K H v "tuple")
def ValAt (K : PySem.W.Frag) (H : Hp) (v : V) (val : Vl) : Prop := (∃ (t : Addr) (vs : List V) (its : List Item), val = some its ∧ v = .ref t ∧ H t = some (.tup vs) ∧ vs.length ≤ 1000 ∧ At2 (ItemAt K H) vs its) ∨ (val = none ∧ NotTy K H v "tuple")
theorem NotTy.same {K : PySem.W.Frag} {H H' : Hp} (S : L2.Same H H') {v : V} {t : String} (h : NotTy K H v t) : NotTy K H' v t := by
  obtain ⟨T, a, b⟩ := h
  exact ⟨T, TyX.mono S a, b⟩
theorem AtomAt.same {K : PySem.W.Frag} {H H' : Hp} (S : L2.Same H H') {v : V} {a : Atom} (h : AtomAt K H v a) : AtomAt K H' v a := by
  rcases h with h | ⟨e, n, h⟩
  · exact .inl h
  · exact .inr ⟨e, n, h.same S⟩
theorem ItemAt.same {K : PySem.W.Frag} {H H' : Hp} (S : L2.Same H H') {v : V} {a : Item} (h : ItemAt K H v a) : ItemAt K H' v a := by
  rcases h with ⟨t, vs, as, e, ev, ht, hl, h2⟩ | ⟨e, h⟩
  · exact .inl ⟨t, vs, as, e, ev, S _ _ ht, hl, h2.imp fun _ _ z => z.same S⟩
  · exact .inr ⟨e, h.same S⟩
theorem ValAt.same {K : PySem.W.Frag} {H H' : Hp} (S : L2.Same H H') {v : V} {a : Vl} (h : ValAt K H v a) : ValAt K H' v a := by
  rcases h with ⟨t, vs, as, e, ev, ht, hl, h2⟩ | ⟨e, h⟩
  · exact .inl ⟨t, vs, as, e, ev, S _ _ ht, hl, h2.imp fun _ _ z => z.same S⟩
  · exact .inr ⟨e, h.same S⟩
/-! ### names, rooms, as tests -/
instance (x : Str) : Decidable (NameOk x) := inferInstanceAs (Decidable (_ ∧ _ ∧ _))
instance (l : List Str) : Decidable (Asc l) := inferInstanceAs (Decidable (List.Pairwise _ l))
def nameB (a : Atom) : Bool := match a with | some x => decide (NameOk x) | none => false
def roomB (it : Item) : Bool := match it with | some as => decide (3 ≤ as.length ∧ as.length ≤ 5) && as.all nameB && decide (Asc (as.filterMap id)) | none => false
theorem atoms_some {as : List Atom} (h : as.all nameB = true) : ∃ r : Rm, as = r.map some ∧ ∀ x ∈ r, NameOk x := by
  induction as with
  | nil => exact ⟨[], rfl, fun x hx => absurd hx List.not_mem_nil⟩
  | cons a as ih =>
    rw [List.all_cons, Bool.and_eq_true] at h
    obtain ⟨r, e, hr⟩ := ih h.2
    cases a with
    | none => exact absurd h.1 Bool.false_ne_true
    | some x =>
      refine ⟨x :: r, by rw [e]; rfl, fun y hy => ?_⟩
      rcases List.mem_cons.mp hy with hy | hy
      · rw [hy]
        exact of_decide_eq_true h.1
      · exact hr y hy
theorem fmap_some (r : Rm) : (r.map some).filterMap id = r := by
  induction r with
  | nil => rfl
  | cons x r ih => rw [List.map_cons, List.filterMap_cons]; simp [ih]
theorem roomB_iff {it : Item} : roomB it = true ↔ ∃ r : Rm, it = some (r.map some) ∧ RoomOk r := by
  constructor
  · intro h
    cases it with
    | none => exact absurd h Bool.false_ne_true
    | some as =>
      have h : (decide (3 ≤ as.length ∧ as.length ≤ 5) && as.all nameB && decide (Asc (as.filterMap id))) = true := h
      rw [Bool.and_eq_true, Bool.and_eq_true, decide_eq_true_eq, decide_eq_true_eq] at h
      obtain ⟨r, e, hr⟩ := atoms_some h.1.2
      subst e
      rw [fmap_some] at h
      rw [List.length_map] at h
      exact ⟨r, rfl, h.1.1.1, h.1.1.2, hr, h.2⟩
  · rintro ⟨r, rfl, h3, h5, hn, ha⟩
    show (decide (3 ≤ (r.map some).length ∧ (r.map some).length ≤ 5) && (r.map some).all nameB && decide (Asc ((r.map some).filterMap id))) = true
    rw [fmap_some, List.length_map, decide_eq_true ⟨h3, h5⟩, decide_eq_true ha, List.all_map]
    rw [Bool.and_true, Bool.true_and, List.all_eq_true]
    intro x hx
    exact decide_eq_true (hn x hx)
/-- neighbours rise -/
def risesB : List Str → Bool
  | x :: y :: r => decide (ltS x y) && risesB (y :: r)
  | _ => true
theorem rises_asc : ∀ l : List Str, risesB l = true ↔ Asc l
  | [] => ⟨fun _ => List.Pairwise.nil, fun _ => rfl⟩
  | [x] => ⟨fun _ => List.pairwise_singleton _ _, fun _ => rfl⟩
  | x :: y :: r => by
    have ih := rises_asc (y :: r)
    show (decide (ltS x y) && risesB (y :: r)) = true ↔ _
    rw [Bool.and_eq_true, decide_eq_true_eq, ih]
    constructor
    · rintro ⟨h1, h2⟩
      refine List.pairwise_cons.mpr ⟨fun z hz => ?_, h2⟩
      rcases List.mem_cons.mp hz with e | hz
      · rw [e]; exact h1
      · exact ltS_trans h1 ((List.pairwise_cons.mp h2).1 z hz)
    · intro h
      have := List.pairwise_cons.mp h
      exact ⟨this.1 y List.mem_cons_self, this.2⟩
theorem rises_range (l : List Str) : ((List.range (l.length - 1)).map fun k => decide (ltS (l.getD k Str.empty) (l.getD (k + 1) Str.empty))).all id = decide (Asc l) := by
  have key : ∀ l : List Str, ((List.range (l.length - 1)).map fun k => decide (ltS (l.getD k Str.empty) (l.getD (k + 1) Str.empty))).all id = risesB l := by
    intro l
    induction l with
    | nil => rfl
    | cons x l ih =>
      cases l with
      | nil => rfl
      | cons y r =>
        have e : (x :: y :: r).length - 1 = ((y :: r).length - 1) + 1 := by simp
        rw [e, List.range_succ_eq_map, List.map_cons, List.all_cons, List.map_map]
        show (decide (ltS x y) && _) = (decide (ltS x y) && risesB (y :: r))
        rw [← ih]
        rfl
  rw [key, Bool.eq_iff_iff, rises_asc, decide_eq_true_eq]
/-! ### the fault of a value -/
structure Good (its : List Item) (rms : List Rm) : Prop where
  e : its = rms.map fun r => some (r.map some)
  ok : ∀ r ∈ rms, RoomOk r
  one : rms.Pairwise (fun r s => (common s r).length ≤ 1)
def OkNext (rms : List Rm) (it : Item) : Prop := ∃ r : Rm, it = some (r.map some) ∧ RoomOk r ∧ ∀ q ∈ rms, (common r q).length ≤ 1
inductive FaultIs : Vl → Option Int → Prop
  | shape0 : FaultIs none (some (-1))
  | shape {its : List Item} (h : its.length = 0 ∨ 10 < its.length) : FaultIs (some its) (some (-1))
  | at_ {its : List Item} {rms : List Rm} {i : Nat} {it : Item} (h : 1 ≤ its.length ∧ its.length ≤ 10) (g : Good (its.take i) rms) (e : its[i]? = some it) (n : ¬ OkNext rms it) : FaultIs (some its) (some (i : Int))
  | many {its : List Item} {rms : List Rm} (h : 1 ≤ its.length ∧ its.length ≤ 10) (g : Good its rms) (m : 24 < (outsOf rms).length) : FaultIs (some its) (some (its.length : Int))
  | fine {its : List Item} {rms : List Rm} (g : Good its rms) (ok : RoomsOk rms) : FaultIs (some its) none
theorem some_inj {r s : Rm} (h : r.map some = s.map some) : r = s := by
  have := congrArg (List.filterMap id) h
  rwa [fmap_some, fmap_some] at this
theorem Good.len {its : List Item} {rms : List Rm} (g : Good its rms) : its.length = rms.length := by rw [g.e, List.length_map]
theorem Good.uniq {its : List Item} {rms qms : List Rm} (g : Good its rms) (h : Good its qms) : rms = qms := by
  have e := g.e.symm.trans h.e
  clear g h
  induction rms generalizing qms with
  | nil =>
    cases qms with
    | nil => rfl
    | cons _ _ => cases e
  | cons r rms ih =>
    cases qms with
    | nil => cases e
    | cons q qms =>
      rw [List.map_cons, List.map_cons, List.cons.injEq] at e
      rw [some_inj (Option.some.inj e.1), ih e.2]
theorem Good.nil : Good [] [] := ⟨rfl, fun _ h => absurd h List.not_mem_nil, List.Pairwise.nil⟩
theorem Good.take {its : List Item} {rms : List Rm} (g : Good its rms) (n : Nat) : Good (its.take n) (rms.take n) :=
  ⟨by rw [g.e, List.map_take], fun r hr => g.ok r (List.mem_of_mem_take hr), g.one.sublist (List.take_sublist _ _)⟩
theorem Good.next {its : List Item} {rms : List Rm} {i : Nat} {it : Item} (g : Good its rms) (e : its[i]? = some it) : OkNext (rms.take i) it := by
  have hi := (List.getElem?_eq_some_iff.mp e).1
  have hi2 : i < rms.length := by rw [← g.len]; exact hi
  rw [g.e, List.getElem?_map, List.getElem?_eq_getElem hi2] at e
  refine ⟨rms[i], (Option.some.inj e).symm, g.ok _ (List.getElem_mem hi2), fun q hq => ?_⟩
  obtain ⟨j, hj, rfl⟩ := List.getElem_of_mem hq
  rw [List.length_take] at hj
  rw [List.getElem_take]
  exact List.pairwise_iff_getElem.mp g.one j i (by omega) hi2 (by omega)
theorem Good.add {its : List Item} {rms : List Rm} {i : Nat} {it : Item} {r : Rm} (g : Good (its.take i) rms) (e : its[i]? = some it) (er : it = some (r.map some)) (ok : RoomOk r) (h : ∀ q ∈ rms, (common r q).length ≤ 1) : Good (its.take (i + 1)) (rms ++ [r]) := by
  refine ⟨?_, fun q hq => ?_, ?_⟩
  · rw [List.take_add_one, e, List.map_append, g.e, er]
    rfl
  · rcases List.mem_append.mp hq with hq | hq
    · exact g.ok q hq
    · rw [List.mem_singleton.mp hq]; exact ok
  · rw [List.pairwise_append]
    refine ⟨g.one, List.pairwise_singleton _ _, fun q hq s hs => ?_⟩
    rw [List.mem_singleton.mp hs]
    exact h q hq
theorem fault_det {v : Vl} {o p : Option Int} (a : FaultIs v o) (b : FaultIs v p) : o = p := by
  have clash : ∀ {its : List Item} {rms qms : List Rm} {i j : Nat} {it : Item}, Good (its.take j) qms → i < j → its[i]? = some it → Good (its.take i) rms → ¬ OkNext rms it → False := fun {its rms qms i j it} g hij e h n => by
    have e2 : (its.take j)[i]? = some it := by rw [List.getElem?_take, if_pos hij, e]
    have h2 := g.take i
    rw [List.take_take, Nat.min_eq_left (Nat.le_of_lt hij)] at h2
    rw [h.uniq h2] at n
    exact n (g.next e2)
  cases a with
  | shape0 => cases b; rfl
  | shape h =>
    cases b with
    | shape _ => rfl
    | at_ h2 _ _ _ => omega
    | many h2 _ _ => omega
    | fine g ok => have := ok.few; have := g.len; omega
  | @at_ its rms i it h g e n =>
    have hi := (List.getElem?_eq_some_iff.mp e).1
    cases b with
    | shape h2 => omega
    | @at_ _ qms j jt h2 g2 e2 n2 =>
      rcases Nat.lt_trichotomy i j with hlt | heq | hgt
      · exact (clash g2 hlt e g n).elim
      · rw [heq]
      · exact (clash g hgt e2 g2 n2).elim
    | @many _ qms h2 g2 m => exact (clash (j := its.length) (qms := qms) (by rw [List.take_length]; exact g2) hi e g n).elim
    | @fine _ qms g2 ok => exact (clash (j := its.length) (qms := qms) (by rw [List.take_length]; exact g2) hi e g n).elim
  | @many its rms h g m =>
    cases b with
    | shape h2 => omega
    | @at_ _ qms j jt h2 g2 e2 n2 => exact (clash (j := its.length) (qms := rms) (by rw [List.take_length]; exact g) (List.getElem?_eq_some_iff.mp e2).1 e2 g2 n2).elim
    | many _ _ _ => rfl
    | @fine _ qms g2 ok =>
      rw [g.uniq g2] at m
      have := ok.most
      omega
  | @fine its rms g ok =>
    cases b with
    | shape h2 => have := ok.few; have := g.len; omega
    | @at_ _ qms j jt h2 g2 e2 n2 => exact (clash (j := its.length) (qms := rms) (by rw [List.take_length]; exact g) (List.getElem?_eq_some_iff.mp e2).1 e2 g2 n2).elim
    | @many _ qms h2 g2 m =>
      rw [g2.uniq g] at m
      have := ok.most
      omega
    | fine _ _ => rfl
/-- atoms that are all texts -/
theorem strs_eq {K : PySem.W.Frag} {H : Hp} {vs : List V} {r : Rm} (h : At2 (AtomAt K H) vs (r.map some)) : vs = r.map V.str := by
  have hlen := h.1
  rw [List.length_map] at hlen
  refine List.ext_getElem? fun i => ?_
  by_cases hi : i < vs.length
  · have g1 : vs[i]? = some vs[i] := List.getElem?_eq_getElem hi
    obtain ⟨a, ha, hva⟩ := h.get g1
    rw [List.getElem?_map] at ha
    rw [g1, List.getElem?_map]
    cases e3 : r[i]? with
    | none => rw [e3] at ha; cases ha
    | some y =>
      rw [e3] at ha
      cases ha
      rcases hva with ⟨x, ex, ev, _⟩ | ⟨ex, _⟩
      · cases ex
        rw [ev]
        rfl
      · cases ex
  · rw [List.getElem?_eq_none (by omega), List.getElem?_eq_none (by rw [List.length_map]; omega)]
def optI : Option Int → V
  | some z => .int z
  | none => .non
end RK


set_option Elab.async false
set_option linter.all false
set_option maxRecDepth 100000
/-! the heap that a law draws from: a list of a list of ints and an int -/
namespace RK
open PySem PySem.Spec PyProof.Rows L2
structure HeapAt (H : Hp) (h l : Addr) : Prop where
  ne : h ≠ l
  ex : ∃ (zs : List Int) (s : Int), H h = some (.lst [.ref l, .int s]) ∧ H l = some (.lst (zs.map V.int)) ∧ 0 ≤ s ∧ s < 2147483647 ∧ zs.length ≤ 100
/-- all that was tracked is as it was, but at h and l -/
def Kh (h l : Addr) (H H' : Hp) : Prop := ∀ b o, H b = some o → b ≠ h → b ≠ l → H' b = some o
theorem Kh.refl (h l : Addr) (H : Hp) : Kh h l H H := fun _ _ e _ _ => e
theorem Kh.trans {h l : Addr} {H H1 H2 : Hp} (a : Kh h l H H1) (b : Kh h l H1 H2) : Kh h l H H2 := fun c o e n m => b c o (a c o e n m) n m
theorem Kh.of {h l : Addr} {H H1 : Hp} (a : L2.Same H H1) : Kh h l H H1 := fun c o e _ _ => a c o e
theorem Kh.upd1 {h l : Addr} {H : Hp} {o : HO} : Kh h l H (upd H h o) := fun c o e n m => by rw [upd_ne n]; exact e
theorem Kh.upd2 {h l : Addr} {H : Hp} {o : HO} : Kh h l H (upd H l o) := fun c o e n m => by rw [upd_ne m]; exact e
theorem HeapAt.same {h l : Addr} {H H1 : Hp} (S : L2.Same H H1) (a : HeapAt H h l) : HeapAt H1 h l := by
  obtain ⟨ne, zs, s, e1, e2, e3⟩ := a
  exact ⟨ne, zs, s, S _ _ e1, S _ _ e2, e3⟩
/-- ints as data -/
theorem dp_ints {K : PySem.W.Frag} {H : Hp} : ∀ zs : List Int, DpAll K H (zs.map V.int) (zs.map PyData.int)
  | [] => .nil
  | z :: zs => .cons (.int z) (dp_ints zs)
theorem lay_ints : ∀ zs : List Int, PyData.canLayAll0 (zs.map PyData.int) = true
  | [] => rfl
  | z :: zs => lay_ints zs
theorem depth_ints : ∀ zs : List Int, PyData.depthAll (zs.map PyData.int) ≤ 1
  | [] => by decide
  | z :: zs => by
    have h : PyData.depthAll ((z :: zs).map PyData.int) = max (PyData.int z).depth (PyData.depthAll (zs.map PyData.int)) := rfl
    rw [h]
    exact Nat.max_le.mpr ⟨Nat.le_of_ble_eq_true rfl, depth_ints zs⟩
theorem shaped_ints (zs : List Int) : SeqAt.shaped (.list (zs.map PyData.int)) = true := by
  unfold SeqAt.shaped
  have h : (PyData.list (zs.map PyData.int)).canLay0 = PyData.canLayAll0 (zs.map PyData.int) := rfl
  have h2 : (PyData.list (zs.map PyData.int)).depth = PyData.depthAll (zs.map PyData.int) + 1 := rfl
  have := depth_ints zs
  rw [h, lay_ints, h2, Bool.true_and]
  exact decide_eq_true (by omega)
/-- xs != [] for ints -/
theorem ne_nil_ints {K : PySem.W.Frag} {H : Hp} {l q : Addr} {zs : List Int} {Q : VK} (hl : H l = some (.lst (zs.map V.int))) (hq : H q = some (.lst [])) (k : Q (.bl (!zs.isEmpty)) H) : rNeD K (.ref l) (.ref q) H Q := by
  refine ⟨.list (zs.map PyData.int), .list [], .lst (SqL.of hl) (dp_ints zs), .lst (SqL.of hq) .nil, shaped_ints zs, shaped_ints [], ?_⟩
  have e : (PyData.list (zs.map PyData.int)).eqv (.list []) = zs.isEmpty := by cases zs <;> rfl
  rw [e]
  exact k
theorem atI_last {xs : List V} {x : V} : atI (xs ++ [x]) (-1) = some x := by
  unfold atI ixN
  have h1 : ¬ (0 : Int) ≤ -1 := by decide
  have h2 : -(((xs ++ [x]).length : Nat) : Int) ≤ -1 := by rw [List.length_append]; simp; omega
  rw [if_neg h1, if_pos h2]
  have h3 : (-1 + (((xs ++ [x]).length : Nat) : Int)).toNat = xs.length := by rw [List.length_append, List.length_singleton]; omega
  rw [h3]
  simp
theorem fmod_lt {a m : Int} (h : 0 < m) : 0 ≤ a.fmod m ∧ a.fmod m < m := by
  rw [Int.fmod_eq_emod_of_nonneg a (Int.le_of_lt h)]
  exact ⟨Int.emod_nonneg _ (by omega), Int.emod_lt_of_pos _ h⟩
theorem abs_if (i : Int) : (if i < 0 then -i else i) = (i.natAbs : Int) := by split <;> omega
section
variable {K : PySem.W.Frag} {σ : L2.St} {H : Hp} {i : Nat} {t : Addr} {xs : List V} {z : Int} {v : V} {Q : VK}
theorem ixl (hs : σ[i]? = some (some (.ref t))) (h : H t = some (.lst xs)) (e : atI xs z = some v) (q : Q v H) : tOp (rIxL K) (tVar i) (tC (.int z)) σ H Q := ⟨_, hs, t, _, z, _, rfl, rfl, SqL.of h, e, q⟩
end
/-! ### weaker wishes of an expression, a test -/
def MoE (t : TE) : Prop := ∀ (σ : L2.St) (H : Hp) (Q Q' : VK), (∀ v H1, Q v H1 → Q' v H1) → t σ H Q → t σ H Q'
def MoR (r : R2) : Prop := ∀ (x y : V) (H : Hp) (Q Q' : VK), (∀ v H1, Q v H1 → Q' v H1) → r x y H Q → r x y H Q'
def MoT (t : TT) : Prop := ∀ (σ : L2.St) (H : Hp) (Q Q' : Bool → Hp → Prop), (∀ b H1, Q b H1 → Q' b H1) → t σ H Q → t σ H Q'
theorem moE_var {i : Nat} : MoE (tVar i) := fun _ _ _ _ h ⟨v, e, q⟩ => ⟨v, e, h _ _ q⟩
theorem moE_c {v : V} : MoE (tC v) := fun _ _ _ _ h q => h _ _ q
theorem moE_op {r : R2} {ta tb : TE} (hr : MoR r) (ha : MoE ta) (hb : MoE tb) : MoE (tOp r ta tb) := fun σ H Q Q' h q => ha _ _ _ _ (fun x H1 q1 => hb _ _ _ _ (fun y H2 q2 => hr _ _ _ _ _ h q2) q1) q
theorem moE_lst0 : MoE (tLst tNil) := fun _ _ _ _ h q => ⟨q.1, fun p hp => h _ _ (q.2 p hp)⟩
theorem moE_un {f : Int → V} {t : TE} (ha : MoE t) : MoE (tUn (rU f) t) := fun σ H Q Q' h q => ha _ _ _ _ (fun x H1 ⟨i, e, q1⟩ => ⟨i, e, h _ _ q1⟩) q
theorem moR_ixL {K : PySem.W.Frag} : MoR (rIxL K) := fun _ _ _ _ _ h ⟨p, xs, i, v, a, b, c, d, q⟩ => ⟨p, xs, i, v, a, b, c, d, h _ _ q⟩
theorem moR_neD {K : PySem.W.Frag} : MoR (rNeD K) := fun _ _ _ _ _ h ⟨d, e, a, b, c, f, q⟩ => ⟨d, e, a, b, c, f, h _ _ q⟩
theorem moR_eq : MoR rEq := fun _ _ _ _ _ h ⟨s, q⟩ => ⟨s, h _ _ q⟩
theorem moT_test {t : TE} (ha : MoE t) : MoT (tTest t) := fun σ H Q Q' h q => ha _ _ _ _ (fun x H1 ⟨k, e, q1⟩ => ⟨k, e, h _ _ q1⟩) q
theorem moT_and {t u : TT} (ha : MoT t) (hb : MoT u) : MoT (tAnd t u) := fun σ H Q Q' h q => ha _ _ _ _ (fun c H1 q1 => by
  cases c with
  | true => exact iteT (hb _ _ _ _ h (by simpa using q1))
  | false => exact iteF (h _ _ (by simpa using q1))) q
/-- a while whose locals stand still, then the rest from what it leaves -/
theorem seq_while {c : TT} {tb rest : TS} {D : Ends} {σ : L2.St} {H : Hp} (Pv : Hp → Prop) (μ : Hp → Nat) (I : Hp → Prop) (mo : MoT c) (h0 : Pv H) (fin : ∀ H1, I H1 → rest D σ H1)
    (step : ∀ H', Pv H' → c σ H' fun b H1 => if b = true then tb { nx := fun σ' H2 => (σ' = σ ∧ Pv H2) ∧ μ H2 < μ H', rt := D.rt, bk := fun σ' H2 => rest D σ' H2, ct := fun σ' H2 => (σ' = σ ∧ Pv H2) ∧ μ H2 < μ H' } σ H1 else I H1) :
    tSeq (tWhile c tb) rest D σ H := by
  unfold tSeq
  refine while_by (fun σ' H' => σ' = σ ∧ Pv H') (fun _ H' => μ H') ⟨rfl, h0⟩ ?_ mo
  rintro σ' H' ⟨rfl, p⟩
  refine mo _ _ _ _ ?_ (step H' p)
  intro b H1 hb
  cases b with
  | true => exact hb
  | false => exact fin H1 hb
/-- what comes behind, from several ends of what stands before it -/
theorem seq_fin {A rest : TS} {D : Ends} {σ : L2.St} {H : Hp} (J : L2.St → Hp → Prop) (fin : ∀ σ' H', J σ' H' → rest D σ' H') (h : (∀ σ' H', J σ' H' → rest D σ' H') → tSeq A rest D σ H) : tSeq A rest D σ H := h fin
theorem cut_ints {ns : List Int} {k : Nat} : cutV (ns.map V.int) none (some (k : Int)) = (ns.take k).map V.int := by
  unfold cutV
  rw [HT.sIx_nat, HT.sIx_none, List.drop_zero, Nat.sub_zero, List.map_take, List.length_map]
  by_cases h : k ≤ ns.length
  · rw [Nat.min_eq_left h]
  · rw [Nat.min_eq_right (by omega), List.take_of_length_le (by rw [List.length_map]; omega), List.take_of_length_le (by rw [List.length_map]; omega)]
end RK


set_option Elab.async false
set_option linter.all false
set_option maxRecDepth 100000
/-! heaps that differ in what lists have; values stay what they are -/
namespace RK
open PySem PySem.Spec PyProof.Rows L2
def Ls (H H' : Hp) : Prop := ∀ b o, H b = some o → H' b = some o ∨ ∃ xs ys, o = .lst xs ∧ H' b = some (.lst ys)
theorem Ls.of {H H' : Hp} (S : L2.Same H H') : Ls H H' := fun b o e => .inl (S b o e)
theorem Ls.refl (H : Hp) : Ls H H := fun b o e => .inl e
theorem Ls.trans {H H1 H2 : Hp} (a : Ls H H1) (b : Ls H1 H2) : Ls H H2 := fun c o e => by
  rcases a c o e with h | ⟨xs, ys, h1, h2⟩
  · exact b c o h
  · rcases b c _ h2 with h | ⟨us, vs, _, h⟩
    · exact .inr ⟨xs, ys, h1, h⟩
    · exact .inr ⟨xs, vs, h1, h⟩
theorem Ls.kh {h l : Addr} {H H' : Hp} (a : HeapAt H h l) (b : HeapAt H' h l) (k : Kh h l H H') : Ls H H' := fun c o e => by
  obtain ⟨_, zs, s, e1, e2, _⟩ := a
  obtain ⟨_, zs', s', f1, f2, _⟩ := b
  by_cases ch : c = h
  · subst ch
    rw [e1] at e
    cases e
    exact .inr ⟨_, _, rfl, f1⟩
  · by_cases cl : c = l
    · subst cl
      rw [e2] at e
      cases e
      exact .inr ⟨_, _, rfl, f2⟩
    · exact .inl (k c o e ch cl)
theorem Ls.upd {H : Hp} {m : Addr} {xs ys : List V} (e : H m = some (.lst xs)) : Ls H (L2.upd H m (.lst ys)) := fun c o h => by
  by_cases cm : c = m
  · subst cm
    rw [e] at h
    cases h
    exact .inr ⟨_, _, rfl, upd_same⟩
  · exact .inl (by rw [upd_ne cm]; exact h)
theorem Ls.keep {H H' : Hp} (a : Ls H H') {b : Addr} {o : HO} (e : H b = some o) (n : ∀ xs, o ≠ .lst xs) : H' b = some o := by
  rcases a b o e with h | ⟨xs, ys, h, _⟩
  · exact h
  · exact absurd h (n xs)
theorem Ls.tup {H H' : Hp} (a : Ls H H') {b : Addr} {xs : List V} (e : H b = some (.tup xs)) : H' b = some (.tup xs) := a.keep e fun ys z => by cases z
theorem Ls.ty {K : PySem.W.Frag} {H H' : Hp} (a : Ls H H') {v : V} {t : Value} (h : TyX K H v t) : TyX K H' v t := by
  cases h with
  | base b =>
    refine .base ?_
    cases b with
    | non => exact .non
    | bl x => exact .bl x
    | int i => exact .int i
    | str x => exact .str x
    | flt x => exact .flt x
    | lst e =>
      rcases a _ _ e with h | ⟨_, ys, _, h⟩
      · exact .lst h
      · exact .lst h
    | frz e => exact .frz (a.keep e fun ys z => by cases z)
    | tup e => exact .tup (a.tup e)
    | dK e => exact .dK (a.keep e fun ys z => by cases z)
    | dT e => exact .dT (a.keep e fun ys z => by cases z)
    | ins e cl ha hn ht hm => exact .ins (a.keep e fun ys z => by cases z) cl ha hn ht hm
  | byt b => exact .byt b
  | set e => exact .set (a.keep e fun ys z => by cases z)
  | kList e c => exact .kList e c
  | kTuple e c => exact .kTuple e c
  | kDict e c => exact .kDict e c
  | fTuple e => exact .fTuple (a.keep e fun ys z => by cases z)
  | fDict e => exact .fDict (a.keep e fun ys z => by cases z)
theorem NotTy.ls {K : PySem.W.Frag} {H H' : Hp} (a : Ls H H') {v : V} {t : String} (h : NotTy K H v t) : NotTy K H' v t := by
  obtain ⟨T, x, y⟩ := h
  exact ⟨T, a.ty x, y⟩
theorem AtomAt.ls {K : PySem.W.Frag} {H H' : Hp} (a : Ls H H') {v : V} {t : Atom} (h : AtomAt K H v t) : AtomAt K H' v t := by
  rcases h with h | ⟨e, n, h⟩
  · exact .inl h
  · exact .inr ⟨e, n, h.ls a⟩
theorem ItemAt.ls {K : PySem.W.Frag} {H H' : Hp} (a : Ls H H') {v : V} {t : Item} (h : ItemAt K H v t) : ItemAt K H' v t := by
  rcases h with ⟨t, vs, as, e, ev, ht, hl, h2⟩ | ⟨e, h⟩
  · exact .inl ⟨t, vs, as, e, ev, a.tup ht, hl, h2.imp fun _ _ z => z.ls a⟩
  · exact .inr ⟨e, h.ls a⟩
theorem ValAt.ls {K : PySem.W.Frag} {H H' : Hp} (a : Ls H H') {v : V} {t : Vl} (h : ValAt K H v t) : ValAt K H' v t := by
  rcases h with ⟨t, vs, as, e, ev, ht, hl, h2⟩ | ⟨e, h⟩
  · exact .inl ⟨t, vs, as, e, ev, a.tup ht, hl, h2.imp fun _ _ z => z.ls a⟩
  · exact .inr ⟨e, h.ls a⟩
/-! ### what is an atom, an item -/
def IsAtom (K : PySem.W.Frag) (H : Hp) (v : V) : Prop := ∃ a, AtomAt K H v a
def IsItem (K : PySem.W.Frag) (H : Hp) (v : V) : Prop := ∃ it, ItemAt K H v it
section
variable {K : PySem.W.Frag} {H H' : Hp}
theorem IsAtom.ls (a : Ls H H') {v : V} (h : IsAtom K H v) : IsAtom K H' v := by
  obtain ⟨x, hx⟩ := h
  exact ⟨x, hx.ls a⟩
theorem IsItem.ls (a : Ls H H') {v : V} (h : IsItem K H v) : IsItem K H' v := by
  obtain ⟨x, hx⟩ := h
  exact ⟨x, hx.ls a⟩
theorem atom_str {x : Str} (h : x.length ≤ 1000) : IsAtom K H (.str x) := ⟨_, .inl ⟨x, rfl, rfl, h⟩⟩
theorem atom_non : IsAtom K H .non := ⟨none, .inr ⟨rfl, (fun x z => by cases z), "NoneType", .base .non, by decide +kernel⟩⟩
theorem atom_int (i : Int) : IsAtom K H (.int i) := ⟨none, .inr ⟨rfl, (fun x z => by cases z), "int", .base (.int i), by decide +kernel⟩⟩
theorem atom_bl (i : Bool) : IsAtom K H (.bl i) := ⟨none, .inr ⟨rfl, (fun x z => by cases z), "bool", .base (.bl i), by decide +kernel⟩⟩
theorem atom_tup {a : Addr} {xs : List V} (e : H a = some (.tup xs)) : IsAtom K H (.ref a) := ⟨none, .inr ⟨rfl, (fun x z => by cases z), "tuple", .base (.tup e), by decide +kernel⟩⟩
theorem atom_lst {a : Addr} {xs : List V} (e : H a = some (.lst xs)) : IsAtom K H (.ref a) := ⟨none, .inr ⟨rfl, (fun x z => by cases z), "list", .base (.lst e), by decide +kernel⟩⟩
theorem item_tup {a : Addr} {xs : List V} (e : H a = some (.tup xs)) (hl : xs.length ≤ 1000) (h : ∀ x ∈ xs, IsAtom K H x) : IsItem K H (.ref a) := by
  obtain ⟨as, has⟩ := At2.ex h
  exact ⟨some as, .inl ⟨a, xs, as, rfl, rfl, e, hl, has⟩⟩
theorem item_strs {a : Addr} {xs : List Str} (e : H a = some (.tup (xs.map V.str))) (hl : xs.length ≤ 1000) (h : ∀ x ∈ xs, x.length ≤ 1000) : IsItem K H (.ref a) := by
  refine item_tup e (by rw [List.length_map]; exact hl) fun v hv => ?_
  obtain ⟨x, hx, rfl⟩ := List.mem_map.mp hv
  exact atom_str (h x hx)
theorem item_non : IsItem K H .non := ⟨none, .inr ⟨rfl, "NoneType", .base .non, by decide +kernel⟩⟩
theorem item_int (i : Int) : IsItem K H (.int i) := ⟨none, .inr ⟨rfl, "int", .base (.int i), by decide +kernel⟩⟩
theorem item_str (x : Str) : IsItem K H (.str x) := ⟨none, .inr ⟨rfl, "str", .base (.str x), by decide +kernel⟩⟩
theorem item_lst {a : Addr} {xs : List V} (e : H a = some (.lst xs)) : IsItem K H (.ref a) := ⟨none, .inr ⟨rfl, "list", .base (.lst e), by decide +kernel⟩⟩
theorem val_tup {a : Addr} {xs : List V} (e : H a = some (.tup xs)) (hl : xs.length ≤ 1000) (h : ∀ x ∈ xs, IsItem K H x) : ∃ val, ValAt K H (.ref a) val := by
  obtain ⟨as, has⟩ := At2.ex h
  exact ⟨some as, .inl ⟨a, xs, as, rfl, rfl, e, hl, has⟩⟩
theorem slA_all {a : Addr} {xs : List V} {lo hi : Option Int} {Q : VK} (ha : H a = some (.tup xs)) (k : ∀ (p : Addr) (H' : Hp), L2.Same H H' → H' p = some (.tup (cutV xs lo hi)) → Q (.ref p) H') : rSlA K (.ref a) lo hi H Q := by
  refine ⟨a, xs, rfl, SqT.of ha, fun z => k a H (L2.Same.refl H) ?_, fun _ p hp => k p _ (RK.Same.upd hp) upd_same⟩
  rw [ha]
  unfold cutV
  rw [z.1, z.2, List.drop_zero, Nat.sub_zero, List.take_length]
theorem mem_cutV {xs : List V} {lo hi : Option Int} {v : V} (h : v ∈ cutV xs lo hi) : v ∈ xs := List.mem_of_mem_drop (List.mem_of_mem_take h)
end
end RK


set_option Elab.async false
set_option linter.all false
set_option maxRecDepth 100000
set_option maxHeartbeats 1000000
/-! PD7: operators and built-ins by data. -/
namespace PD
open PySem PySem.Spec PyProof.Rows L2 RK
/-! ### data without objects -/
mutual
def py : D → Option PyData
  | .non => some .none
  | .bl b => some (.bool b)
  | .int i => some (.int i)
  | .str s => some (.str s)
  | .tup ds => (pys ds).map .tuple
  | .lst ds => (pys ds).map .list
  | .dic _ _ => none
  | .obj _ _ => none
  | .scr _ => none
def pys : List D → Option (List PyData)
  | [] => some []
  | d :: ds => match py d, pys ds with
    | some p, some l => some (p :: l)
    | _, _ => none
end
section
variable {k : Kn} {G H : Hp}
mutual
theorem rep_dp : ∀ (d : D) (v : V) (p : PyData), Rep k G d v → py d = some p → Dp k.K G v p ∧ p.canLay0 = true
  | .non, _, _, h, e => by cases h; cases e; exact ⟨.non, rfl⟩
  | .bl b, _, _, h, e => by cases h; cases e; exact ⟨.bl b, rfl⟩
  | .int i, _, _, h, e => by cases h; cases e; exact ⟨.int i, rfl⟩
  | .str s, _, _, h, e => by cases h with | str _ ok => cases e; exact ⟨.str s, ok⟩
  | .tup ds, _, p, h, e => by
    cases h with
    | tup g _ ra =>
      have e : (pys ds).map PyData.tuple = some p := e
      obtain ⟨l, e1, rfl⟩ := Option.map_eq_some_iff.mp e
      obtain ⟨h1, h2⟩ := rep_dps ds _ l ra e1
      exact ⟨.tup (SqT.of g) h1, h2⟩
  | .lst ds, _, p, h, e => by
    cases h with
    | lst g _ ra =>
      have e : (pys ds).map PyData.list = some p := e
      obtain ⟨l, e1, rfl⟩ := Option.map_eq_some_iff.mp e
      obtain ⟨h1, h2⟩ := rep_dps ds _ l ra e1
      exact ⟨.lst (SqL.of g) h1, h2⟩
  | .dic _ _, _, _, _, e => by cases e
  | .obj _ _, _, _, _, e => by cases e
  | .scr _, _, _, _, e => by cases e
theorem rep_dps : ∀ (ds : List D) (vs : List V) (ps : List PyData), RepAll k G ds vs → pys ds = some ps → DpAll k.K G vs ps ∧ PyData.canLayAll0 ps = true
  | [], _, _, h, e => by cases h; cases e; exact ⟨.nil, rfl⟩
  | d :: ds, _, ps, h, e => by
    cases h with
    | cons p q =>
      have e : (match py d, pys ds with
        | some p, some l => some (p :: l)
        | _, _ => none) = some ps := e
      cases e1 : py d with
      | none => rw [e1] at e; cases e
      | some x =>
        cases e2 : pys ds with
        | none => rw [e1, e2] at e; cases e
        | some l =>
          rw [e1, e2] at e
          cases e
          obtain ⟨h1, h2⟩ := rep_dp d _ x p e1
          obtain ⟨h3, h4⟩ := rep_dps ds _ l q e2
          exact ⟨.cons h1 h3, by show (x.canLay0 && PyData.canLayAll0 l) = true; rw [h2, h4]; rfl⟩
end
theorem dp_mono' {K : PySem.W.Frag} (S : L2.Same G H) : ∀ {v : V} {p : PyData}, Dp K G v p → Dp K H v p := fun {v p} h =>
  Dp.rec (motive_1 := fun v p _ => Dp K H v p) (motive_2 := fun vs ps _ => DpAll K H vs ps) .non .bl .int .str (fun a _ q => .lst (sqL_mono S a) q) (fun a _ q => .tup (sqT_mono S a) q) .nil (fun _ _ p q => .cons p q) h
theorem dps_mono' {K : PySem.W.Frag} (S : L2.Same G H) : ∀ {vs : List V} {ps : List PyData}, DpAll K G vs ps → DpAll K H vs ps
  | _, _, .nil => .nil
  | _, _, .cons p q => .cons (dp_mono' S p) (dps_mono' S q)
theorem node_dp (S : L2.Same G H) {d : D} {v : V} {p : PyData} (n : Node k G H d v) (e : py d = some p) : Dp k.K H v p ∧ p.canLay0 = true := by
  cases d with
  | tup ds => obtain ⟨h1, h2⟩ := rep_dp _ _ _ n e; exact ⟨dp_mono' S h1, h2⟩
  | lst ds =>
    obtain ⟨a, vs, rfl, h, _, ra⟩ := n
    have e : (pys ds).map PyData.list = some p := e
    obtain ⟨l, e1, rfl⟩ := Option.map_eq_some_iff.mp e
    obtain ⟨h1, h2⟩ := rep_dps ds _ l ra e1
    exact ⟨.lst (SqL.of h) (dps_mono' S h1), h2⟩
  | non => obtain ⟨h1, h2⟩ := rep_dp _ _ _ n e; exact ⟨dp_mono' S h1, h2⟩
  | bl b => obtain ⟨h1, h2⟩ := rep_dp _ _ _ n e; exact ⟨dp_mono' S h1, h2⟩
  | int i => obtain ⟨h1, h2⟩ := rep_dp _ _ _ n e; exact ⟨dp_mono' S h1, h2⟩
  | str s => obtain ⟨h1, h2⟩ := rep_dp _ _ _ n e; exact ⟨dp_mono' S h1, h2⟩
  | dic t ks => cases e
  | obj c fs => cases e
  | scr ns => cases e
theorem shaped_of {p : PyData} (h : p.canLay0 = true) (hd : p.depth ≤ 60) : SeqAt.shaped p = true := by
  unfold SeqAt.shaped
  rw [h, Bool.true_and]
  exact decide_eq_true (by omega)
end
/-! ### ==, <, in -/
def dEqv (a b : D) : Option Bool := match py a, py b with
  | some p, some q => if p.depth ≤ 60 ∧ q.depth ≤ 60 then some (PyData.eqv p q) else none
  | _, _ => none
def dEq (a b : D) : Option D := (dEqv a b).map .bl
def dNe (a b : D) : Option D := (dEqv a b).map fun x => .bl (!x)
def nnP : PyData → Bool
  | .none => false
  | _ => true
theorem nnP_ne {p : PyData} (h : nnP p = true) : p ≠ .none := fun e => by rw [e] at h; cases h
def dLess (a b : D) : Option Bool := match py a, py b with
  | some p, some q => if PySem.W.alike p q = true ∧ nnP p = true ∧ nnP q = true ∧ p.depth ≤ 60 ∧ q.depth ≤ 60 then some (PySem.W.dataLt p q) else none
  | _, _ => none
def dLt (a b : D) : Option D := (dLess a b).map .bl
def dGt (a b : D) : Option D := (dLess b a).map .bl
def dLe (a b : D) : Option D := (dLess b a).map fun x => .bl (!x)
def dGe (a b : D) : Option D := (dLess a b).map fun x => .bl (!x)
def dMem (x c : D) : Option Bool := match c with
  | .lst ds => match py x, pys ds with
    | some p, some ps => if p.depth ≤ 60 ∧ PyData.depthAll ps ≤ 50 then some (ps.any fun z => PyData.eqv z p) else none
    | _, _ => none
  | .tup ds => match py x, pys ds with
    | some p, some ps => if p.depth ≤ 60 ∧ PyData.depthAll ps ≤ 50 then some (ps.any fun z => PyData.eqv z p) else none
    | _, _ => none
  | .str z => match x with
    | .str i => match i.cps.toList with
      | [c] => some (decide (c ∈ z.cps.toList))
      | _ => none
    | _ => none
  | _ => none
def dIn (a b : D) : Option D := (dMem a b).map .bl
def dNotIn (a b : D) : Option D := (dMem a b).map fun x => .bl (!x)
section
variable {k : Kn} {X : Cx}
theorem gives_sc {G H : Hp} {z : D} {v : V} {Q : VK} (S : L2.Same G H) (g : Gives k G H z Q) (r : Rep k G z v) : Q v H := g v G H (Ext.refl S) r
theorem c_eq : Cons2 k (rEqD k.K) dEq := fun G H a b z v w Q S n m e g => by
  unfold dEq dEqv at e
  cases ea : py a with
  | none => rw [ea] at e; cases e
  | some p =>
    cases eb : py b with
    | none => rw [ea, eb] at e; cases e
    | some q =>
      rw [ea, eb] at e
      dsimp only at e
      split at e
      · rename_i hd
        cases e
        obtain ⟨h1, h2⟩ := node_dp S n ea
        obtain ⟨h3, h4⟩ := node_dp S m eb
        exact ⟨p, q, h1, h3, shaped_of h2 hd.1, shaped_of h4 hd.2, gives_sc S g (.bl _)⟩
      · cases e
theorem c_ne : Cons2 k (rNeD k.K) dNe := fun G H a b z v w Q S n m e g => by
  unfold dNe dEqv at e
  cases ea : py a with
  | none => rw [ea] at e; cases e
  | some p =>
    cases eb : py b with
    | none => rw [ea, eb] at e; cases e
    | some q =>
      rw [ea, eb] at e
      dsimp only at e
      split at e
      · rename_i hd
        cases e
        obtain ⟨h1, h2⟩ := node_dp S n ea
        obtain ⟨h3, h4⟩ := node_dp S m eb
        exact ⟨p, q, h1, h3, shaped_of h2 hd.1, shaped_of h4 hd.2, gives_sc S g (.bl _)⟩
      · cases e
def rOrd (K : PySem.W.Frag) (f : PyData → PyData → Bool) : R2 := fun x y H Q => ∃ d e, Dp K H x d ∧ Dp K H y e ∧ PySem.W.alike d e = true ∧ d ≠ .none ∧ e ≠ .none ∧ d.depth ≤ 60 ∧ e.depth ≤ 60 ∧ Q (.bl (f d e)) H
theorem ord_room {A : Around} {p q : PyData} (hu : A.units + 64 < cLine) (h : p.depth ≤ 60) : A.units + min p.depth q.depth < cLine := by
  have := Nat.min_le_left p.depth q.depth
  omega
theorem op_ltD (hu : X.A.units + 64 < cLine) : OpR X (compareOp .Lt) (rOrd X.K PySem.W.dataLt) := by
  intro pins s σ H x y v u Q I rx ry ⟨d, e, hd, he, al, n1, n2, z1, z2, q⟩
  obtain ⟨as, r1⟩ := Dp.reads I d x v hd rx
  obtain ⟨bs, r2⟩ := Dp.reads I e y u he ry
  exact PySem.W.lt_data r1 r2 al n1 (ord_room hu z1) ⟨.bl _, H, I, rfl, q⟩
theorem op_gtD (hu : X.A.units + 64 < cLine) : OpR X (compareOp .Gt) (rOrd X.K fun d e => PySem.W.dataLt e d) := by
  intro pins s σ H x y v u Q I rx ry ⟨d, e, hd, he, al, n1, n2, z1, z2, q⟩
  obtain ⟨as, r1⟩ := Dp.reads I d x v hd rx
  obtain ⟨bs, r2⟩ := Dp.reads I e y u he ry
  exact PySem.W.gt_data r1 r2 al n1 (ord_room hu z1) ⟨.bl _, H, I, rfl, q⟩
theorem op_leD (hu : X.A.units + 64 < cLine) : OpR X (compareOp .LtE) (rOrd X.K fun d e => !PySem.W.dataLt e d) := by
  intro pins s σ H x y v u Q I rx ry ⟨d, e, hd, he, al, n1, n2, z1, z2, q⟩
  obtain ⟨as, r1⟩ := Dp.reads I d x v hd rx
  obtain ⟨bs, r2⟩ := Dp.reads I e y u he ry
  exact PySem.W.le_data r1 r2 al n1 (ord_room hu z1) ⟨.bl _, H, I, rfl, q⟩
theorem op_geD (hu : X.A.units + 64 < cLine) : OpR X (compareOp .GtE) (rOrd X.K fun d e => !PySem.W.dataLt d e) := by
  intro pins s σ H x y v u Q I rx ry ⟨d, e, hd, he, al, n1, n2, z1, z2, q⟩
  obtain ⟨as, r1⟩ := Dp.reads I d x v hd rx
  obtain ⟨bs, r2⟩ := Dp.reads I e y u he ry
  exact PySem.W.ge_data r1 r2 al n1 (ord_room hu z1) ⟨.bl _, H, I, rfl, q⟩
theorem less_inv {a b : D} {x : Bool} (h : dLess a b = some x) : ∃ p q, py a = some p ∧ py b = some q ∧ PySem.W.alike p q = true ∧ p ≠ .none ∧ q ≠ .none ∧ p.depth ≤ 60 ∧ q.depth ≤ 60 ∧ x = PySem.W.dataLt p q := by
  unfold dLess at h
  cases ea : py a with
  | none => rw [ea] at h; cases h
  | some p =>
    cases eb : py b with
    | none => rw [ea, eb] at h; cases h
    | some q =>
      rw [ea, eb] at h
      dsimp only at h
      split at h
      · rename_i hd
        cases h
        exact ⟨p, q, rfl, rfl, hd.1, nnP_ne hd.2.1, nnP_ne hd.2.2.1, hd.2.2.2.1, hd.2.2.2.2, rfl⟩
      · cases h
theorem c_lt : Cons2 k (rOrd k.K PySem.W.dataLt) dLt := fun G H a b z v w Q S n m e g => by
  obtain ⟨x, e1, rfl⟩ := Option.map_eq_some_iff.mp e
  obtain ⟨p, q, h1, h2, h3, h4, h5, h6, h7, rfl⟩ := less_inv e1
  exact ⟨p, q, (node_dp S n h1).1, (node_dp S m h2).1, h3, h4, h5, h6, h7, gives_sc S g (.bl _)⟩
theorem c_gt : Cons2 k (rOrd k.K fun d e => PySem.W.dataLt e d) dGt := fun G H a b z v w Q S n m e g => by
  obtain ⟨x, e1, rfl⟩ := Option.map_eq_some_iff.mp e
  obtain ⟨p, q, h1, h2, h3, h4, h5, h6, h7, rfl⟩ := less_inv e1
  exact ⟨q, p, (node_dp S n h2).1, (node_dp S m h1).1, by rw [PySem.W.alike_comm]; exact h3, h5, h4, h7, h6, gives_sc S g (.bl _)⟩
theorem c_le : Cons2 k (rOrd k.K fun d e => !PySem.W.dataLt e d) dLe := fun G H a b z v w Q S n m e g => by
  obtain ⟨x, e1, rfl⟩ := Option.map_eq_some_iff.mp e
  obtain ⟨p, q, h1, h2, h3, h4, h5, h6, h7, rfl⟩ := less_inv e1
  exact ⟨q, p, (node_dp S n h2).1, (node_dp S m h1).1, by rw [PySem.W.alike_comm]; exact h3, h5, h4, h7, h6, gives_sc S g (.bl _)⟩
theorem c_ge : Cons2 k (rOrd k.K fun d e => !PySem.W.dataLt d e) dGe := fun G H a b z v w Q S n m e g => by
  obtain ⟨x, e1, rfl⟩ := Option.map_eq_some_iff.mp e
  obtain ⟨p, q, h1, h2, h3, h4, h5, h6, h7, rfl⟩ := less_inv e1
  exact ⟨p, q, (node_dp S n h1).1, (node_dp S m h2).1, h3, h4, h5, h6, h7, gives_sc S g (.bl _)⟩
/-- x in c -/
def rMem (K : PySem.W.Frag) (neg : Bool) : R2 := fun x y H Q =>
  (∃ d ds, Dp K H x d ∧ (Dp K H y (.list ds) ∨ Dp K H y (.tuple ds)) ∧ SeqAt.shaped d = true ∧ PyData.canLayAll0 ds = true ∧ PyData.depthAll ds ≤ 50 ∧ Q (.bl (if neg then !ds.any fun z => PyData.eqv z d else ds.any fun z => PyData.eqv z d)) H) ∨
  ∃ (c : Nat) (z : Str), x = .str ⟨#[c]⟩ ∧ y = .str z ∧ Q (.bl (if neg then !decide (c ∈ z.cps.toList) else decide (c ∈ z.cps.toList))) H
theorem op_inM (hu : X.A.units + 64 < cLine) : OpR X (compareOp .In) (rMem X.K false) := by
  intro pins s σ H x y v u Q I rx ry h
  rcases h with ⟨d, ds, hd, hc, sd, cl, hz, q⟩ | ⟨c, z, rfl, rfl, q⟩
  · obtain ⟨as, r1⟩ := Dp.reads I d x v hd rx
    have room : X.A.units + 1 + min (PyData.depthAll ds) d.depth < cLine := by have := Nat.min_le_left (PyData.depthAll ds) d.depth; omega
    rcases hc with hc | hc
    · obtain ⟨bs, r2⟩ := Dp.reads I _ y u hc ry
      exact SeqAt.in_list_reads r2 r1 cl (SeqAt.canLay_of_shaped sd) room ⟨.bl _, H, I, rfl, q⟩
    · obtain ⟨bs, r2⟩ := Dp.reads I _ y u hc ry
      exact SeqAt.in_tuple_reads r2 r1 cl (SeqAt.canLay_of_shaped sd) room ⟨.bl _, H, I, rfl, q⟩
  · exact op_in_sign pins s σ H _ _ v u Q I rx ry ⟨c, z, rfl, rfl, q⟩
theorem op_notInM (hu : X.A.units + 64 < cLine) : OpR X (compareOp .NotIn) (rMem X.K true) := by
  intro pins s σ H x y v u Q I rx ry h
  rcases h with ⟨d, ds, hd, hc, sd, cl, hz, q⟩ | ⟨c, z, rfl, rfl, q⟩
  · obtain ⟨as, r1⟩ := Dp.reads I d x v hd rx
    have room : X.A.units + 1 + min (PyData.depthAll ds) d.depth < cLine := by have := Nat.min_le_left (PyData.depthAll ds) d.depth; omega
    rcases hc with hc | hc
    · obtain ⟨bs, r2⟩ := Dp.reads I _ y u hc ry
      exact SeqAt.notIn_list_reads r2 r1 cl (SeqAt.canLay_of_shaped sd) room ⟨.bl _, H, I, rfl, q⟩
    · obtain ⟨bs, r2⟩ := Dp.reads I _ y u hc ry
      exact SeqAt.notIn_tuple_reads r2 r1 cl (SeqAt.canLay_of_shaped sd) room ⟨.bl _, H, I, rfl, q⟩
  · exact op_notIn_sign pins s σ H _ _ v u Q I rx ry ⟨c, z, rfl, rfl, q⟩
theorem mem_sem {neg : Bool} {G H : Hp} {a b : D} {x : Bool} {v w : V} {Q : VK} (S : L2.Same G H) (n : Node k G H a v) (m : Node k G H b w) (e : dMem a b = some x) (q : Q (.bl (if neg then !x else x)) H) : rMem k.K neg v w H Q := by
  cases b with
  | lst ds =>
    have e : (match py a, pys ds with
      | some p, some ps => if p.depth ≤ 60 ∧ PyData.depthAll ps ≤ 50 then some (ps.any fun z => PyData.eqv z p) else none
      | _, _ => none) = some x := e
    cases ea : py a with
    | none => rw [ea] at e; cases e
    | some p =>
      cases eb : pys ds with
      | none => rw [ea, eb] at e; cases e
      | some ps =>
        rw [ea, eb] at e
        dsimp only at e
        split at e
        · rename_i hd
          cases e
          obtain ⟨h1, h2⟩ := node_dp S n ea
          have eb' : py (.lst ds) = some (.list ps) := by show (pys ds).map PyData.list = _; rw [eb]; rfl
          obtain ⟨h3, h4⟩ := node_dp S m eb'
          exact .inl ⟨p, ps, h1, .inl h3, shaped_of h2 hd.1, h4, hd.2, q⟩
        · cases e
  | tup ds =>
    have e : (match py a, pys ds with
      | some p, some ps => if p.depth ≤ 60 ∧ PyData.depthAll ps ≤ 50 then some (ps.any fun z => PyData.eqv z p) else none
      | _, _ => none) = some x := e
    cases ea : py a with
    | none => rw [ea] at e; cases e
    | some p =>
      cases eb : pys ds with
      | none => rw [ea, eb] at e; cases e
      | some ps =>
        rw [ea, eb] at e
        dsimp only at e
        split at e
        · rename_i hd
          cases e
          obtain ⟨h1, h2⟩ := node_dp S n ea
          have eb' : py (.tup ds) = some (.tuple ps) := by show (pys ds).map PyData.tuple = _; rw [eb]; rfl
          obtain ⟨h3, h4⟩ := node_dp S m eb'
          exact .inl ⟨p, ps, h1, .inr h3, shaped_of h2 hd.1, h4, hd.2, q⟩
        · cases e
  | str z =>
    cases a with
    | str i =>
      have e : (match i.cps.toList with
        | [c] => some (decide (c ∈ z.cps.toList))
        | _ => none) = some x := e
      split at e
      · rename_i c hc
        cases e
        cases n
        cases m
        have hi : i = ⟨#[c]⟩ := by
          cases i with
          | mk a =>
            have hc : a.toList = [c] := hc
            have : a = #[c] := Array.toList_inj.mp hc
            rw [this]
        rw [hi]
        exact .inr ⟨c, z, rfl, rfl, q⟩
      · cases e
    | _ => cases e
  | _ => cases e
theorem c_in : Cons2 k (rMem k.K false) dIn := fun G H a b z v w Q S n m e g => by
  obtain ⟨x, e1, rfl⟩ := Option.map_eq_some_iff.mp e
  exact mem_sem S n m e1 (gives_sc S g (.bl _))
theorem c_notIn : Cons2 k (rMem k.K true) dNotIn := fun G H a b z v w Q S n m e g => by
  obtain ⟨x, e1, rfl⟩ := Option.map_eq_some_iff.mp e
  exact mem_sem S n m e1 (gives_sc S g (.bl _))
def isNon : D → Bool
  | .non => true
  | _ => false
/-- is None, is True -/
def dIs : D → D → Option D
  | a, .non => some (.bl (isNon a))
  | .bl a, .bl b => some (.bl (decide (a = b)))
  | _, _ => none
def dIsNot : D → D → Option D
  | a, .non => some (.bl (!isNon a))
  | .bl a, .bl b => some (.bl (!decide (a = b)))
  | _, _ => none
def rIs : R2 := fun x y H Q => (y = .non ∧ Q (.bl (decide (x = .non))) H) ∨ rIsB x y H Q
def rIsNot : R2 := fun x y H Q => (y = .non ∧ Q (.bl (!decide (x = .non))) H) ∨ rNotB x y H Q
theorem op_is : OpR X (compareOp .Is) rIs := OpR.or op_isN op_isBl
theorem op_isNot : OpR X (compareOp .IsNot) rIsNot := OpR.or op_notN op_notBl
theorem node_non {G H : Hp} {a : D} {v : V} (n : Node k G H a v) : decide (v = .non) = isNon a := by
  cases a with
  | non => cases n; rfl
  | bl b => cases n; rfl
  | int i => cases n; rfl
  | str s => cases n; rfl
  | tup ds => cases n; rfl
  | lst ds => obtain ⟨_, _, rfl, _⟩ := n; rfl
  | dic t ks => obtain ⟨_, rfl, _⟩ := n; rfl
  | obj c fs => obtain ⟨_, _, _, _, rfl, _⟩ := n; rfl
  | scr ns => obtain ⟨_, rfl, _⟩ := n; rfl
theorem c_is : Cons2 k rIs dIs := fun G H a b z v w Q S n m e g => by
  cases b with
  | non =>
    cases m
    cases e
    refine .inl ⟨rfl, ?_⟩
    rw [node_non n]
    exact gives_sc S g (.bl _)
  | bl b =>
    cases a with
    | bl a => cases n; cases m; cases e; exact .inr ⟨a, b, rfl, rfl, gives_sc S g (.bl _)⟩
    | _ => cases e
  | _ => cases e
theorem c_isNot : Cons2 k rIsNot dIsNot := fun G H a b z v w Q S n m e g => by
  cases b with
  | non =>
    cases m
    cases e
    refine .inl ⟨rfl, ?_⟩
    rw [node_non n]
    exact gives_sc S g (.bl _)
  | bl b =>
    cases a with
    | bl a => cases n; cases m; cases e; exact .inr ⟨a, b, rfl, rfl, gives_sc S g (.bl _)⟩
    | _ => cases e
  | _ => cases e
end
end PD


set_option Elab.async false
set_option linter.all false
set_option maxRecDepth 100000
set_option maxHeartbeats 1000000
/-! PD8: numbers, places, slices, built-ins by data. -/
namespace PD
open PySem PySem.Spec PyProof.Rows L2 RK
theorem strOk_app {a b : Str} (ha : PyData.strOk a = true) (hb : PyData.strOk b = true) : PyData.strOk (a ++ b) = true := by
  unfold PyData.strOk at ha hb ⊢
  show (a.cps ++ b.cps).all _ = true
  rw [Array.all_append, ha, hb]
  rfl
/-! ### + -/
def dAdd : D → D → Option D
  | .int i, .int j => some (.int (i + j))
  | .str a, .str b => if a.length + b.length ≤ 1000000 then some (.str (a ++ b)) else none
  | .tup a, .tup b => if a.length + b.length ≤ 1000000 then some (.tup (a ++ b)) else none
  | .lst a, .lst b => if a.length + b.length ≤ 1000000 then some (.lst (a ++ b)) else none
  | _, _ => none
def dCat : D → D → Option D
  | .lst a, .lst b => if a.length + b.length ≤ 1000000 then some (.lst (a ++ b)) else none
  | _, _ => none
def rStrAdd : R2 := fun x y H Q => ∃ i j, x = .str i ∧ y = .str j ∧ i.length + j.length ≤ sizeLine ∧ Q (.str (i ++ j)) H
def rAddD (K : PySem.W.Frag) : R2 := fun x y H Q => rI0 (fun i j => .int (i + j)) x y H Q ∨ rStrAdd x y H Q ∨ rCatA K x y H Q ∨ rCat x y H Q
theorem mil' {n : Nat} (h : n ≤ 1000000) : n ≤ sizeLine := Nat.le_trans h (by rw [sizeLine_eq]; decide)
section
variable {k : Kn} {X : Cx}
theorem op_addD : OpR X (binaryOp .Add) (rAddD X.K) := OpR.or op_add (OpR.or op_add_str (OpR.or op_catA op_cat))
theorem lst_inv {G H : Hp} {ds : List D} {v : V} (n : Node k G H (.lst ds) v) : ∃ a vs, v = .ref a ∧ H a = some (.lst vs) ∧ vs.length ≤ sizeLine ∧ RepAll k G ds vs := n
theorem tup_inv {G H : Hp} {ds : List D} {v : V} (S : L2.Same G H) (n : Node k G H (.tup ds) v) : ∃ a vs, v = .ref a ∧ H a = some (.tup vs) ∧ vs.length ≤ sizeLine ∧ RepAll k G ds vs := by
  cases n with
  | tup h1 h2 h3 => exact ⟨_, _, rfl, S _ _ h1, h2, h3⟩
/-- a new tuple, its items seen -/
theorem gives_tup {G H : Hp} {ds : List D} {vs : List V} {p : Addr} {Q : VK} (S : L2.Same G H) (hz : vs.length ≤ sizeLine) (ra : RepAll k G ds vs) (hp : H p = none) (g : Gives k G H (.tup ds) Q) : Q (.ref p) (upd H p (.tup vs)) := GivesN.of S g p _ hp (.tup hz ra)
theorem c_add : Cons2 k (rAddD k.K) dAdd := fun G H a b z v w Q S n m e g => by
  cases a with
  | int i =>
    cases b with
    | int j => cases n; cases m; cases e; exact .inl ⟨i, j, rfl, rfl, gives_sc S g (.int _)⟩
    | _ => cases e
  | str x =>
    cases b with
    | str y =>
      cases n with
      | str _ o1 =>
        cases m with
        | str _ o2 =>
          have e : (if x.length + y.length ≤ 1000000 then some (D.str (x ++ y)) else none) = some z := e
          split at e
          · rename_i hl
            cases e
            exact .inr (.inl ⟨x, y, rfl, rfl, mil' hl, gives_sc S g (.str _ (strOk_app o1 o2))⟩)
          · cases e
    | _ => cases e
  | tup xs =>
    cases b with
    | tup ys =>
      have n0 : Rep k G (.tup xs) v := n
      have m0 : Rep k G (.tup ys) w := m
      obtain ⟨a, vs, rfl, h1, h2, ra⟩ := tup_inv S n
      obtain ⟨b, ws, rfl, h3, h4, rb⟩ := tup_inv S m
      have e : (if xs.length + ys.length ≤ 1000000 then some (D.tup (xs ++ ys)) else none) = some z := e
      split at e
      · rename_i hl
        cases e
        have l1 := ra.len
        have l2 := rb.len
        have hz := mil' hl
        refine .inr (.inr (.inl ⟨a, b, vs, ws, rfl, rfl, SqT.of h1, SqT.of h3, by omega, fun e0 => ?_, fun e0 e1 => ?_, fun e0 e1 p hp => gives_tup S (by rw [List.length_append]; omega) (ra.app rb) hp g⟩))
        · subst e0
          have : xs = [] := List.length_eq_zero_iff.mp (by rw [l1]; rfl)
          subst this
          exact gives_sc S g m0
        · subst e1
          have : ys = [] := List.length_eq_zero_iff.mp (by rw [l2]; rfl)
          subst this
          rw [List.append_nil] at g
          exact gives_sc S g n0
      · cases e
    | _ => cases e
  | lst xs =>
    cases b with
    | lst ys =>
      obtain ⟨a, vs, rfl, h1, h2, ra⟩ := n
      obtain ⟨b, ws, rfl, h3, h4, rb⟩ := m
      have e : (if xs.length + ys.length ≤ 1000000 then some (D.lst (xs ++ ys)) else none) = some z := e
      split at e
      · rename_i hl
        cases e
        have l1 := ra.len
        have l2 := rb.len
        have hz := mil' hl
        exact .inr (.inr (.inr ⟨a, b, vs, ws, rfl, rfl, h1, h3, by omega, fun p hp => GivesN.of S g p _ hp (.lst (by rw [List.length_append]; omega) (ra.app rb))⟩))
      · cases e
    | _ => cases e
  | _ => cases b <;> cases e
theorem c_cat : Cons2N k rCat dCat := fun G H a b z v w Q S n m e g => by
  cases a with
  | lst xs =>
    cases b with
    | lst ys =>
      obtain ⟨a, vs, rfl, h1, h2, ra⟩ := n
      obtain ⟨b, ws, rfl, h3, h4, rb⟩ := m
      have e : (if xs.length + ys.length ≤ 1000000 then some (D.lst (xs ++ ys)) else none) = some z := e
      split at e
      · rename_i hl
        cases e
        have l1 := ra.len
        have l2 := rb.len
        have hz := mil' hl
        exact ⟨a, b, vs, ws, rfl, rfl, h1, h3, by omega, fun p hp => g p _ hp (.lst (by rw [List.length_append]; omega) (ra.app rb))⟩
      · cases e
    | _ => cases e
  | _ => cases b <;> cases e
/-! ### numbers -/
def dInt2 (C : Int → Int → Bool) (f : Int → Int → Int) : D → D → Option D
  | .int i, .int j => if C i j = true then some (.int (f i j)) else none
  | _, _ => none
theorem c_int2 {P : Int → Int → Prop} {C : Int → Int → Bool} {f : Int → Int → Int} (h : ∀ i j, C i j = true → P i j) : Cons2 k (rI P fun i j => .int (f i j)) (dInt2 C f) := fun G H a b z v w Q S n m e g => by
  cases a with
  | int i =>
    cases b with
    | int j =>
      cases n; cases m
      have e : (if C i j = true then some (D.int (f i j)) else none) = some z := e
      split at e
      · rename_i hc
        cases e
        exact ⟨i, j, rfl, rfl, h i j hc, gives_sc S g (.int _)⟩
      · cases e
    | _ => cases e
  | _ => cases b <;> cases e
def dSub : D → D → Option D := dInt2 (fun _ _ => true) fun i j => i - j
theorem op_subD : OpR X (binaryOp .Sub) (rI (fun _ _ => True) fun i j => .int (i - j)) := fun pins s σ H x y v u Q I rx ry ⟨i, j, a, b, _, q⟩ => op_sub pins s σ H x y v u Q I rx ry ⟨i, j, a, b, q⟩
theorem c_sub : Cons2 k (rI (fun _ _ => True) fun i j => .int (i - j)) dSub := c_int2 fun _ _ _ => trivial
def mulOk (i j : Int) : Bool := decide ((-(2 ^ 64) < i ∧ i < 2 ^ 64) ∨ (-(2 ^ 64) < j ∧ j < 2 ^ 64))
def dMul : D → D → Option D
  | .int i, .int j => if mulOk i j = true then some (.int (i * j)) else none
  | .str z, .int n => if 2 ≤ n ∧ n ≤ 100 ∧ 1 ≤ z.length ∧ z.length ≤ 1000 ∧ PyData.strOk (repS z n) = true then some (.str (repS z n)) else none
  | .lst ds, .int n => if 0 ≤ n ∧ ds.length * n.toNat ≤ 1000000 ∧ n ≤ 1000000 then some (.lst (List.replicate n.toNat ds).flatten) else none
  | _, _ => none
def rMulStr : R2 := fun x y H Q => ∃ z n, x = .str z ∧ y = .int n ∧ 2 ≤ n ∧ n ≤ 100 ∧ 1 ≤ z.length ∧ z.length ≤ 1000 ∧ Q (.str (repS z n)) H
def rMulD : R2 := fun x y H Q => rI CMul (fun i j => .int (i * j)) x y H Q ∨ rMulStr x y H Q ∨ rRep x y H Q
theorem op_mulD : OpR X (binaryOp .Mult) rMulD := OpR.or op_mul (OpR.or op_repS op_rep)
theorem repAll_rep {G : Hp} {ds : List D} {vs : List V} (ra : RepAll k G ds vs) : ∀ n : Nat, RepAll k G (List.replicate n ds).flatten (List.replicate n vs).flatten
  | 0 => .nil
  | n + 1 => by
    rw [List.replicate_succ, List.replicate_succ, List.flatten_cons, List.flatten_cons]
    exact ra.app (repAll_rep ra n)
theorem flat_len {α : Type} (l : List α) : ∀ n : Nat, (List.replicate n l).flatten.length = n * l.length
  | 0 => by simp
  | n + 1 => by rw [List.replicate_succ, List.flatten_cons, List.length_append, flat_len l n, Nat.succ_mul]; omega
theorem c_mul : Cons2 k rMulD dMul := fun G H a b z v w Q S n m e g => by
  cases a with
  | int i =>
    cases b with
    | int j =>
      cases n; cases m
      have e : (if mulOk i j = true then some (D.int (i * j)) else none) = some z := e
      split at e
      · rename_i hc
        cases e
        unfold mulOk at hc
        have hc := of_decide_eq_true hc
        exact .inl ⟨i, j, rfl, rfl, hc, gives_sc S g (.int _)⟩
      · cases e
    | _ => cases e
  | str x =>
    cases b with
    | int j =>
      cases n; cases m
      have e : (if 2 ≤ j ∧ j ≤ 100 ∧ 1 ≤ x.length ∧ x.length ≤ 1000 ∧ PyData.strOk (repS x j) = true then some (D.str (repS x j)) else none) = some z := e
      split at e
      · rename_i hc
        obtain ⟨h1, h2, h3, h4, h5⟩ := hc
        cases e
        exact .inr (.inl ⟨x, j, rfl, rfl, h1, h2, h3, h4, gives_sc S g (.str _ h5)⟩)
      · cases e
    | _ => cases e
  | lst xs =>
    cases b with
    | int j =>
      obtain ⟨a, vs, rfl, h1, h2, ra⟩ := n
      cases m
      have e : (if 0 ≤ j ∧ xs.length * j.toNat ≤ 1000000 ∧ j ≤ 1000000 then some (D.lst (List.replicate j.toNat xs).flatten) else none) = some z := e
      split at e
      · rename_i hc
        obtain ⟨g1, g2, g3⟩ := hc
        cases e
        have l1 := ra.len
        have hz := mil' g2
        rw [l1] at hz
        refine .inr (.inr ⟨a, j, vs, rfl, rfl, h1, by omega, by omega, hz, fun p hp => GivesN.of S g p _ hp (.lst ?_ (repAll_rep ra _))⟩)
        rw [flat_len, Nat.mul_comm]
        exact hz
      · cases e
    | _ => cases e
  | _ => cases b <;> cases e
def dFdiv : D → D → Option D := dInt2 (fun _ j => decide (j ≠ 0 ∧ j.natAbs < 2 ^ 64)) Int.fdiv
theorem c_fdiv : Cons2 k (rI DivAny fun i j => .int (Int.fdiv i j)) dFdiv := c_int2 fun i j h => by
  obtain ⟨h1, h2⟩ := of_decide_eq_true h
  exact divAny h1 h2 (by decide) (by decide)
def dMod : D → D → Option D := dInt2 (fun _ j => decide (j ≠ 0)) Int.fmod
theorem c_mod : Cons2 k (rI (fun _ j => j ≠ 0) fun i j => .int (i.fmod j)) dMod := c_int2 fun i j h => of_decide_eq_true h
theorem pow_ok {i j : Int} (h : decide (0 ≤ j ∧ j ≤ 1000000 ∧ i.natAbs < 2 ^ 64) = true) : CPow i j := by
  have h := of_decide_eq_true h
  exact h
def dPow : D → D → Option D := dInt2 (fun i j => decide (0 ≤ j ∧ j ≤ 1000000 ∧ i.natAbs < 2 ^ 64)) fun i j => i ^ j.toNat
theorem c_pow : Cons2 k (rI CPow fun i j => .int (i ^ j.toNat)) dPow := c_int2 fun i j h => pow_ok h
def dShl : D → D → Option D := dInt2 (fun i j => decide (0 ≤ j ∧ j ≤ 1000000 ∧ i.natAbs < 2 ^ 64)) fun i j => i * 2 ^ j.toNat
theorem c_shl : Cons2 k (rI CPow fun i j => .int (i * 2 ^ j.toNat)) dShl := c_int2 fun i j h => pow_ok h
def dShr : D → D → Option D := dInt2 (fun _ j => decide (0 ≤ j)) fun i j => i / 2 ^ j.toNat
theorem c_shr : Cons2 k (rI (fun _ j => 0 ≤ j) fun i j => .int (i / 2 ^ j.toNat)) dShr := c_int2 fun i j h => of_decide_eq_true h
def dBand : D → D → Option D := dInt2 (fun _ _ => true) Builtin.bitAnd
theorem op_bandD : OpR X (binaryOp .BitAnd) (rI (fun _ _ => True) fun i j => .int (Builtin.bitAnd i j)) := fun pins s σ H x y v u Q I rx ry ⟨i, j, a, b, _, q⟩ => op_and pins s σ H x y v u Q I rx ry ⟨i, j, a, b, q⟩
theorem c_band : Cons2 k (rI (fun _ _ => True) fun i j => .int (Builtin.bitAnd i j)) dBand := c_int2 fun _ _ _ => trivial
def dBor : D → D → Option D := dInt2 (fun _ _ => true) Builtin.bitOr
theorem op_borD : OpR X (binaryOp .BitOr) (rI (fun _ _ => True) fun i j => .int (Builtin.bitOr i j)) := fun pins s σ H x y v u Q I rx ry ⟨i, j, a, b, _, q⟩ => op_or pins s σ H x y v u Q I rx ry ⟨i, j, a, b, q⟩
theorem c_bor : Cons2 k (rI (fun _ _ => True) fun i j => .int (Builtin.bitOr i j)) dBor := c_int2 fun _ _ _ => trivial
def dNeg : D → Option D
  | .int i => some (.int (-i))
  | _ => none
theorem c_neg : Cons1 k (rU fun i => .int (-i)) dNeg := fun G H a z v Q S n e g => by
  cases a with
  | int i => cases n; cases e; exact ⟨i, rfl, gives_sc S g (.int _)⟩
  | _ => cases e
/-! ### places and slices -/
def dIx : D → D → Option D
  | .lst ds, .int i => atI ds i
  | .tup ds, .int i => atI ds i
  | .scr ns, .int i => (atI ns i).map .int
  | .str z, .int i => if z.length ≤ 1000000 then (atI z.cps.toList i).map fun c => .str ⟨#[c]⟩ else none
  | _, _ => none
theorem atI_rep {G : Hp} {ds : List D} {vs : List V} {i : Int} {d : D} (ra : RepAll k G ds vs) (h : atI ds i = some d) : ∃ v, atI vs i = some v ∧ Rep k G d v := by
  unfold atI at h ⊢
  obtain ⟨j, h1, h2⟩ := Option.bind_eq_some_iff.mp h
  obtain ⟨v, h3, h4⟩ := ra.get h2
  exact ⟨v, by rw [← ra.len, h1]; exact h3, h4⟩
theorem c_ix : Cons2 k (rIx k.K) dIx := fun G H a b z v w Q S n m e g => by
  cases b with
  | int i =>
    cases m
    cases a with
    | lst ds =>
      obtain ⟨a, vs, rfl, h1, _, ra⟩ := n
      obtain ⟨x, h2, h3⟩ := atI_rep ra e
      exact .inl ⟨a, vs, i, x, rfl, rfl, SqL.of h1, h2, gives_sc S g h3⟩
    | tup ds =>
      obtain ⟨a, vs, rfl, h1, _, ra⟩ := tup_inv S n
      obtain ⟨x, h2, h3⟩ := atI_rep ra e
      exact .inr (.inl ⟨a, vs, i, x, rfl, rfl, SqT.of h1, h2, gives_sc S g h3⟩)
    | scr ns =>
      obtain ⟨a, rfl, h1, _⟩ := n
      obtain ⟨x, h2, rfl⟩ := Option.map_eq_some_iff.mp (show (atI ns i).map D.int = some z from e)
      refine .inl ⟨a, _, i, .int x, rfl, rfl, h1, ?_, gives_sc S g (.int x)⟩
      unfold atI at h2 ⊢
      obtain ⟨j, h3, h4⟩ := Option.bind_eq_some_iff.mp h2
      rw [List.length_map, h3]
      show (ns.map V.int)[j]? = _
      rw [List.getElem?_map, h4]
      rfl
    | str s =>
      have n : Rep k G (.str s) v := n
      cases n with
      | str _ ok =>
        have e : (if s.length ≤ 1000000 then (atI s.cps.toList i).map fun c => D.str ⟨#[c]⟩ else none) = some z := e
        split at e
        · rename_i hl
          obtain ⟨c, h2, rfl⟩ := Option.map_eq_some_iff.mp e
          refine .inr (.inr ⟨s, i, c, rfl, rfl, mil' hl, h2, gives_sc S g (.str _ ?_)⟩)
          unfold atI at h2
          obtain ⟨j, _, h4⟩ := Option.bind_eq_some_iff.mp h2
          rw [Array.getElem?_toList] at h4
          exact strOk_one ok h4
        · cases e
    | _ => cases e
  | _ => cases a <;> cases e
def cutA {α : Type} (xs : List α) (lo hi : Option Int) : List α := (xs.drop (HT.sIx xs.length 0 lo)).take (HT.sIx xs.length xs.length hi - HT.sIx xs.length 0 lo)
theorem cut_rep {G : Hp} {ds : List D} {vs : List V} {lo hi : Option Int} (ra : RepAll k G ds vs) : RepAll k G (cutA ds lo hi) (cutV vs lo hi) := by
  unfold cutA cutV
  rw [ra.len]
  exact (ra.drop _).take _
end
def qO (f : Ev → Res RV) : Ev → Res (Option Int) := fun e => (f e).bind fun x e1 => match x with
  | .d (.int i) => .ok (some i) e1
  | _ => .bad
def qO0 : Ev → Res (Option Int) := fun e => .ok none e
def tOO (k : Kn) (W : WX) (f : Ev → Res (Option Int)) : TO := fun σ H Q => ∃ B G e, ER k B G e σ H ∧ PostR k B σ W (fun _ H' _ b => Q b H') G (f e)
def eSl (op : D → Option Int → Option Int → Option D) (f : Ev → Res RV) (l h : Ev → Res (Option Int)) : Ev → Res RV := fun e => (f e).bind fun x e1 => (l e1).bind fun lo e2 => (h e2).bind fun hi e3 => ofOpt ((de e3 x).bind fun d => (op d lo hi).map RV.d) e3
def eSlN (op : D → Option Int → Option Int → Option D) (f : Ev → Res RV) (l h : Ev → Res (Option Int)) : Ev → Res D := fun e => (f e).bind fun x e1 => (l e1).bind fun lo e2 => (h e2).bind fun hi e3 => ofOpt ((de e3 x).bind fun d => op d lo hi) e3
def dCutT : D → Option Int → Option Int → Option D
  | .tup ds, lo, hi => some (.tup (cutA ds lo hi))
  | _, _, _ => none
def dCutL : D → Option Int → Option Int → Option D
  | .lst ds, lo, hi => some (.lst (cutA ds lo hi))
  | .scr ns, lo, hi => some (.lst ((cutA ns lo hi).map .int))
  | _, _, _ => none
def dCutS : D → Option Int → Option Int → Option D
  | .str s, lo, hi => if s.length ≤ 1000000 ∧ PyData.strOk (cutS s lo hi) = true then some (.str (cutS s lo hi)) else none
  | _, _, _ => none
section
variable {k : Kn} {X : Cx} {W : WX} {f : Ev → Res RV} {l h : Ev → Res (Option Int)} {a : Expr} {pos p2 : Pos} {lo hi : Option Expr}
theorem _root_.L2.PO.weak {X : Cx} {e : Option Expr} {t t' : TO} (h : PO X e t) (w : ∀ σ H Q, t' σ H Q → t σ H Q) : PO X e t' := ⟨fun pins s σ H Q I q => h.run pins s σ H Q I (w _ _ _ q)⟩
theorem pdo_none : PO X none (tOO k W qO0) := po_none.weak fun σ H Q ⟨B, G, e, r, p⟩ => p G H r (Gr.refl B G)
theorem pdo_some (ha : PE X a (tD k W f)) : PO X (some a) (tOO k W (qO f)) := (po_some ha).weak fun σ H Q ⟨B, G, e, r, p⟩ => ⟨B, G, e, r, p.bind.imp fun G1 H1 e1 x r1 S1 p1 v hv => by
  split at p1
  · rename_i i
    cases rep_int hv
    exact ⟨i, rfl, p1 G1 H1 r1 (Gr.refl B G1)⟩
  · exact p1.elim⟩
def ConsS (k : Kn) (r : V → Option Int → Option Int → Hp → VK → Prop) (op : D → Option Int → Option Int → Option D) : Prop := ∀ G H d lo hi z v Q, L2.Same G H → Node k G H d v → op d lo hi = some z → Gives k G H z Q → r v lo hi H Q
def ConsSN (k : Kn) (r : V → Option Int → Option Int → Hp → VK → Prop) (op : D → Option Int → Option Int → Option D) : Prop := ∀ G H d lo hi z v Q, L2.Same G H → Node k G H d v → op d lo hi = some z → GivesN k G H z Q → r v lo hi H Q
theorem pd_sl {r : V → Option Int → Option Int → Hp → VK → Prop} {op : D → Option Int → Option Int → Option D} (hr : SlR X r) (hc : ConsS k r op) (he : PE X a (tD k W f)) (hl : PO X lo (tOO k W l)) (hu : PO X hi (tOO k W h)) : PE X (.Subscript a (.Slice lo hi none p2) pos) (tD k W (eSl op f l h)) :=
  (pe_slice hr he hl hu).weak fun σ H Q ⟨B, G, e, r0, p⟩ => ⟨B, G, e, r0, p.bind.imp fun G1 H1 e1 x r1 S1 p1 v hv => ⟨B, G1, e1, r1, p1.bind.imp fun G2 H2 e2 lo r2 S2 p2 => ⟨B, G2, e2, r2, p2.bind.imp fun G3 H3 e3 hi r3 S3 p3 => by
    obtain ⟨z, q, p4⟩ := ofOpt_post p3
    obtain ⟨d, q1, q2⟩ := Option.bind_eq_some_iff.mp q
    obtain ⟨w, q3, q4⟩ := Option.map_eq_some_iff.mp q2
    subst q4
    exact hc G3 H3 d lo hi w v Q r3.vis ((hv.mono (S2.trans S3).s).de r3 q1) q3 (post_gives r3 p4)⟩⟩⟩
theorem pd_slN {r : V → Option Int → Option Int → Hp → VK → Prop} {op : D → Option Int → Option Int → Option D} (hr : SlR X r) (hc : ConsSN k r op) (he : PE X a (tD k W f)) (hl : PO X lo (tOO k W l)) (hu : PO X hi (tOO k W h)) : PE X (.Subscript a (.Slice lo hi none p2) pos) (tN k W (eSlN op f l h)) :=
  (pe_slice hr he hl hu).weak fun σ H Q ⟨B, G, e, r0, p⟩ => ⟨B, G, e, r0, p.bind.imp fun G1 H1 e1 x r1 S1 p1 v hv => ⟨B, G1, e1, r1, p1.bind.imp fun G2 H2 e2 lo r2 S2 p2 => ⟨B, G2, e2, r2, p2.bind.imp fun G3 H3 e3 hi r3 S3 p3 => by
    obtain ⟨z, q, p4⟩ := ofOpt_postN p3
    obtain ⟨d, q1, q2⟩ := Option.bind_eq_some_iff.mp q
    exact hc G3 H3 d lo hi z v Q r3.vis ((hv.mono (S2.trans S3).s).de r3 q1) q2 (post_givesN r3 p4)⟩⟩⟩
theorem cutA_len {α : Type} (xs : List α) (lo hi : Option Int) : (cutA xs lo hi).length ≤ xs.length := by
  unfold cutA
  rw [List.length_take, List.length_drop]
  omega
theorem c_cutT : ConsS k (rSlA k.K) dCutT := fun G H d lo hi z v Q S n e g => by
  cases d with
  | tup ds =>
    cases e
    have n0 : Rep k G (.tup ds) v := n
    obtain ⟨a, vs, rfl, h1, hz, ra⟩ := tup_inv S n
    refine ⟨a, vs, rfl, SqT.of h1, fun hw => ?_, fun _ p hp => gives_tup S (Nat.le_trans (cutV_length vs lo hi) hz) (cut_rep ra) hp g⟩
    have e0 : cutA ds lo hi = ds := by
      unfold cutA
      rw [ra.len, hw.1, hw.2, Nat.sub_zero, List.drop_zero, ← ra.len, List.take_length]
    rw [e0] at g
    exact gives_sc S g n0
  | _ => cases e
theorem c_cutL : ConsSN k (rSlL k.K) dCutL := fun G H d lo hi z v Q S n e g => by
  cases d with
  | lst ds =>
    cases e
    obtain ⟨a, vs, rfl, h1, hz, ra⟩ := n
    exact ⟨a, vs, rfl, SqL.of h1, fun p hp => g p _ hp (.lst (Nat.le_trans (cutV_length vs lo hi) hz) (cut_rep ra))⟩
  | scr ns =>
    cases e
    obtain ⟨a, rfl, h1, hz⟩ := n
    refine ⟨a, _, rfl, h1, fun p hp => ?_⟩
    have e0 : cutV (ns.map V.int) lo hi = (cutA ns lo hi).map V.int := by
      unfold cutV cutA
      rw [List.length_map, List.map_take, List.map_drop]
    rw [e0]
    refine g p _ hp (.lst (by rw [List.length_map]; have := cutA_len ns lo hi; exact len1000 (by omega)) ?_)
    generalize cutA ns lo hi = l
    induction l with
    | nil => exact .nil
    | cons n l ih => exact .cons (.int n) ih
  | _ => cases e
theorem c_cutS : ConsS k rSlS dCutS := fun G H d lo hi z v Q S n e g => by
  cases d with
  | str s =>
    cases n
    have e : (if s.length ≤ 1000000 ∧ PyData.strOk (cutS s lo hi) = true then some (D.str (cutS s lo hi)) else none) = some z := e
    split at e
    · rename_i hc
      cases e
      exact ⟨s, rfl, mil' hc.1, gives_sc S g (.str _ hc.2)⟩
    · cases e
  | _ => cases e
/-- x[::-1] -/
def dRevL : D → Option D
  | .lst ds => some (.lst ds.reverse)
  | .scr ns => some (.lst (ns.reverse.map .int))
  | _ => none
def dRevT : D → Option D
  | .tup ds => some (.tup ds.reverse)
  | _ => none
def eUnN (op : D → Option D) (f : Ev → Res RV) : Ev → Res D := fun e => (f e).bind fun x e1 => ofOpt ((de e1 x).bind op) e1
theorem pd_revL {kk : Nat} {p1 p2 p3 : Pos} (hK : X.K = k.K) (he : PE X a (tD k W f)) : PE X (.Subscript a (.Slice none none (some (.UnaryOp .USub (.Constant (.int 1) kk p1) p2)) p3) pos) (tN k W (eUnN dRevL f)) :=
  (pe_revL he).weak fun σ H Q ⟨B, G, e, r0, p⟩ => ⟨B, G, e, r0, p.bind.imp fun G1 H1 e1 x r1 S1 p1 v hv => by
    rw [hK]
    obtain ⟨z, q, p4⟩ := ofOpt_postN p1
    obtain ⟨d, q1, q2⟩ := Option.bind_eq_some_iff.mp q
    have n := hv.de r1 q1
    have g := post_givesN r1 p4
    cases d with
    | lst ds =>
      cases q2
      obtain ⟨a, vs, rfl, h1, hz, ra⟩ := n
      exact ⟨a, vs, rfl, SqL.of h1, fun p hp => g p _ hp (.lst (by rw [List.length_reverse]; exact hz) ra.rev)⟩
    | scr ns =>
      cases q2
      obtain ⟨a, rfl, h1, hz⟩ := n
      refine ⟨a, _, rfl, h1, fun p hp => ?_⟩
      rw [← List.map_reverse]
      refine g p _ hp (.lst (by rw [List.length_map, List.length_reverse]; exact len1000 (by omega)) ?_)
      generalize ns.reverse = l
      induction l with
      | nil => exact .nil
      | cons n l ih => exact .cons (.int n) ih
    | _ => cases q2⟩
theorem pd_revT {kk : Nat} {p1 p2 p3 : Pos} (hK : X.K = k.K) (he : PE X a (tD k W f)) : PE X (.Subscript a (.Slice none none (some (.UnaryOp .USub (.Constant (.int 1) kk p1) p2)) p3) pos) (tD k W (eUn dRevT f)) :=
  (pe_revT he).weak fun σ H Q ⟨B, G, e, r0, p⟩ => ⟨B, G, e, r0, p.bind.imp fun G1 H1 e1 x r1 S1 p1 v hv => by
    rw [hK]
    obtain ⟨z, q, p4⟩ := ofOpt_post p1
    obtain ⟨d, q1, q2⟩ := Option.bind_eq_some_iff.mp q
    obtain ⟨w, q2, rfl⟩ := Option.map_eq_some_iff.mp q2
    have n := hv.de r1 q1
    cases d with
    | tup ds =>
      cases q2
      obtain ⟨a, vs, rfl, h1, hz, ra⟩ := tup_inv r1.vis n
      exact ⟨a, vs, rfl, SqT.of h1, fun p hp => gives_tup r1.vis (by rw [List.length_reverse]; exact hz) ra.rev hp (post_gives r1 p4)⟩
    | _ => cases q2⟩
end
end PD


set_option Elab.async false
set_option linter.all false
set_option maxRecDepth 100000
set_option maxHeartbeats 1000000
/-! PD9: built-in functions by data. -/
namespace PD
open PySem PySem.Spec PyProof.Rows L2 RK
theorem CallR.or {X : Cx} {f : Value} {r r' : List V → Hp → VK → Prop} (h : CallR X f r) (h' : CallR X f r') : CallR X f (fun xs H Q => r xs H Q ∨ r' xs H Q) := fun pins s σ H xs us Q I rr q =>
  q.elim (fun z => h pins s σ H xs us Q I rr z) (fun z => h' pins s σ H xs us Q I rr z)
section
variable {k : Kn} {X : Cx} {W : WX}
theorem nodes1 {G H : Hp} {d : D} {vs : List V} (h : Nodes k G H [d] vs) : ∃ v, vs = [v] ∧ Node k G H d v := by
  obtain ⟨v, ws, rfl, n, rfl⟩ := h
  exact ⟨v, rfl, n⟩
theorem nodes2 {G H : Hp} {d d' : D} {vs : List V} (h : Nodes k G H [d, d'] vs) : ∃ v w, vs = [v, w] ∧ Node k G H d v ∧ Node k G H d' w := by
  obtain ⟨v, ws, rfl, n, w, ws', rfl, m, rfl⟩ := h
  exact ⟨v, w, rfl, n, m⟩
/-- of one argument -/
def un (op : D → Option D) : List D → Option D
  | [d] => op d
  | _ => none
theorem un_inv {op : D → Option D} {ds : List D} {z : D} (e : un op ds = some z) : ∃ d, ds = [d] ∧ op d = some z := by
  match ds, e with
  | [d], e => exact ⟨d, rfl, e⟩
theorem consL_un {r : List V → Hp → VK → Prop} {op : D → Option D} (h : ∀ G H d z v Q, L2.Same G H → Node k G H d v → op d = some z → Gives k G H z Q → r [v] H Q) : ConsL k r (un op) := fun G H ds z vs Q S n e g => by
  obtain ⟨d, rfl, e⟩ := un_inv e
  obtain ⟨v, rfl, m⟩ := nodes1 n
  exact h G H d z v Q S m e g
theorem consLN_un {r : List V → Hp → VK → Prop} {op : D → Option D} (h : ∀ G H d z v Q, L2.Same G H → Node k G H d v → op d = some z → GivesN k G H z Q → r [v] H Q) : ConsLN k r (un op) := fun G H ds z vs Q S n e g => by
  obtain ⟨d, rfl, e⟩ := un_inv e
  obtain ⟨v, rfl, m⟩ := nodes1 n
  exact h G H d z v Q S m e g
/-! ### len -/
def dLen : D → Option D
  | .lst ds => some (.int (ds.length : Int))
  | .tup ds => some (.int (ds.length : Int))
  | .scr ns => some (.int (ns.length : Int))
  | .str s => if s.length ≤ 1000000 then some (.int (s.length : Int)) else none
  | .dic false ks => some (.int (ks.length : Int))
  | _ => none
def rLenD (K : PySem.W.Frag) : List V → Hp → VK → Prop := fun xs H Q => (∃ x n, xs = [x] ∧ LenV K x H n ∧ Q (.int n) H) ∨ ∃ a kvs, xs = [V.ref a] ∧ H a = some (.dK kvs) ∧ Q (.int kvs.length) H
theorem call_lenDD : CallR X (.builtin "len") (rLenD X.K) := CallR.or call_len call_lenD
theorem c_len : ConsL k (rLenD k.K) (un dLen) := consL_un fun G H d z v Q S n e g => by
  cases d with
  | lst ds =>
    cases e
    obtain ⟨a, vs, rfl, h1, _, ra⟩ := n
    exact .inl ⟨.ref a, vs.length, rfl, .inl ⟨vs, SqL.of h1, rfl⟩, by rw [← ra.len]; exact gives_sc S g (.int _)⟩
  | tup ds =>
    cases e
    obtain ⟨a, vs, rfl, h1, _, ra⟩ := tup_inv S n
    exact .inl ⟨.ref a, vs.length, rfl, .inr ⟨vs, SqT.of h1, rfl⟩, by rw [← ra.len]; exact gives_sc S g (.int _)⟩
  | scr ns =>
    cases e
    obtain ⟨a, rfl, h1, _⟩ := n
    exact .inl ⟨.ref a, ns.length, rfl, .inl ⟨_, h1, by rw [List.length_map]⟩, gives_sc S g (.int _)⟩
  | str s =>
    cases n
    have e : (if s.length ≤ 1000000 then some (D.int (s.length : Int)) else none) = some z := e
    split at e
    · rename_i hl
      cases e
      exact .inl ⟨.str s, s.length, rfl, ⟨mil' hl, rfl⟩, gives_sc S g (.int _)⟩
    · cases e
  | dic t ks =>
    cases t with
    | true => cases e
    | false =>
      cases e
      obtain ⟨a, rfl, ⟨_, vs, h1, rk⟩ | ⟨h0, _⟩⟩ := n
      · exact .inr ⟨a, vs, rfl, h1, by rw [← repK_len rk]; exact gives_sc S g (.int _)⟩
      · cases h0
  | _ => cases e
/-! ### tuple(..), list(..) -/
def dTuple : D → Option D
  | .lst ds => some (.tup ds)
  | .tup ds => some (.tup ds)
  | _ => none
def dList : D → Option D
  | .lst ds => some (.lst ds)
  | .tup ds => some (.lst ds)
  | _ => none
def rTupleD (K : PySem.W.Frag) : List V → Hp → VK → Prop := fun xs H Q => ∃ p ys, xs = [.ref p] ∧ ((SqL K H p ys ∧ ∀ l, H l = none → Q (.ref l) (upd H l (.tup ys))) ∨ (SqT K H p ys ∧ Q (.ref p) H))
theorem call_tupleD : CallR X (.type "tuple") (rTupleD X.K) := call_tuple_of
def rListD (K : PySem.W.Frag) : List V → Hp → VK → Prop := fun xs H Q => ∃ p ys, xs = [.ref p] ∧ (SqL K H p ys ∨ SqT K H p ys) ∧ ∀ l, H l = none → Q (.ref l) (upd H l (.lst ys))
theorem call_listD : CallR X (.type "list") (rListD X.K) := call_list_of
theorem c_tuple : ConsL k (rTupleD k.K) (un dTuple) := consL_un fun G H d z v Q S n e g => by
  cases d with
  | lst ds =>
    cases e
    obtain ⟨a, vs, rfl, h1, hz, ra⟩ := n
    exact ⟨a, vs, rfl, .inl ⟨SqL.of h1, fun p hp => gives_tup S hz ra hp g⟩⟩
  | tup ds =>
    cases e
    have n0 : Rep k G (.tup ds) v := n
    obtain ⟨a, vs, rfl, h1, hz, ra⟩ := tup_inv S n
    exact ⟨a, vs, rfl, .inr ⟨SqT.of h1, gives_sc S g n0⟩⟩
  | _ => cases e
theorem c_list : ConsLN k (rListD k.K) (un dList) := consLN_un fun G H d z v Q S n e g => by
  cases d with
  | lst ds =>
    cases e
    obtain ⟨a, vs, rfl, h1, hz, ra⟩ := n
    exact ⟨a, vs, rfl, .inl (SqL.of h1), fun p hp => g p _ hp (.lst hz ra)⟩
  | tup ds =>
    cases e
    obtain ⟨a, vs, rfl, h1, hz, ra⟩ := tup_inv S n
    exact ⟨a, vs, rfl, .inr (SqT.of h1), fun p hp => g p _ hp (.lst hz ra)⟩
  | _ => cases e
/-! ### all, any, sum, abs, int, max, min -/
def asBls : List D → Option (List Bool)
  | [] => some []
  | .bl b :: ds => (asBls ds).map (b :: ·)
  | _ :: _ => none
theorem bls_rep {G : Hp} : ∀ {ds : List D} {vs : List V} {bs : List Bool}, RepAll k G ds vs → asBls ds = some bs → vs = bs.map V.bl
  | _, _, _, .nil, e => by cases e; rfl
  | d :: ds, _, bs, .cons p q, e => by
    cases d with
    | bl b =>
      obtain ⟨cs, e1, rfl⟩ := Option.map_eq_some_iff.mp (show (asBls ds).map (b :: ·) = some bs from e)
      cases p
      rw [bls_rep q e1]
      rfl
    | _ => cases e
def asInts : List D → Option (List Int)
  | [] => some []
  | .int b :: ds => (asInts ds).map (b :: ·)
  | _ :: _ => none
theorem ints_rep {G : Hp} : ∀ {ds : List D} {vs : List V} {bs : List Int}, RepAll k G ds vs → asInts ds = some bs → vs = bs.map V.int
  | _, _, _, .nil, e => by cases e; rfl
  | d :: ds, _, bs, .cons p q, e => by
    cases d with
    | int b =>
      obtain ⟨cs, e1, rfl⟩ := Option.map_eq_some_iff.mp (show (asInts ds).map (b :: ·) = some bs from e)
      cases p
      rw [ints_rep q e1]
      rfl
    | _ => cases e
def asStrs : List D → Option (List Str)
  | [] => some []
  | .str b :: ds => (asStrs ds).map (b :: ·)
  | _ :: _ => none
theorem strs_rep {G : Hp} : ∀ {ds : List D} {vs : List V} {bs : List Str}, RepAll k G ds vs → asStrs ds = some bs → vs = bs.map V.str
  | _, _, _, .nil, e => by cases e; rfl
  | d :: ds, _, bs, .cons p q, e => by
    cases d with
    | str b =>
      obtain ⟨cs, e1, rfl⟩ := Option.map_eq_some_iff.mp (show (asStrs ds).map (b :: ·) = some bs from e)
      cases p
      rw [strs_rep q e1]
      rfl
    | _ => cases e
def dAll : D → Option D
  | .lst ds => (asBls ds).map fun bs => .bl (bs.all id)
  | _ => none
def dAny : D → Option D
  | .lst ds => (asBls ds).map fun bs => .bl (bs.any id)
  | _ => none
def dSum : D → Option D
  | .lst ds => (asInts ds).map fun bs => .int bs.sum
  | _ => none
def dAbs : D → Option D
  | .int i => some (.int (if i < 0 then -i else i))
  | _ => none
def dIntOf : D → Option D
  | .int i => some (.int i)
  | .bl b => some (.int (if b then 1 else 0))
  | _ => none
def maxI : List Int → Int → Int
  | [], m => m
  | x :: xs, m => maxI xs (if m < x then x else m)
def minI : List Int → Int → Int
  | [], m => m
  | x :: xs, m => minI xs (if x < m then x else m)
def dMax : List D → Option D
  | [.lst ds] => match asInts ds with
    | some (x :: xs) => some (.int (maxI xs x))
    | _ => none
  | [.int i, .int j] => some (.int (if j > i then j else i))
  | _ => none
def dMin : List D → Option D
  | [.lst ds] => match asInts ds with
    | some (x :: xs) => some (.int (minI xs x))
    | _ => none
  | [.int i, .int j] => some (.int (if j < i then j else i))
  | _ => none
theorem one_lst {G H : Hp} {ds : List D} {vs : List V} (n : Nodes k G H [.lst ds] vs) : ∃ a ws, vs = [.ref a] ∧ H a = some (.lst ws) ∧ RepAll k G ds ws := by
  obtain ⟨v, rfl, a, ws, rfl, h1, _, ra⟩ := nodes1 n
  exact ⟨a, ws, rfl, h1, ra⟩
theorem lst_only {op : List D → Option D} (h : ∀ ds, (∀ l, ds ≠ [.lst l]) → op ds = none) {ds : List D} {z : D} (e : op ds = some z) : ∃ l, ds = [.lst l] := by
  refine Classical.byContradiction fun n => ?_
  rw [h ds fun l q => n ⟨l, q⟩] at e
  cases e
theorem c_all : ConsL k (rAll k.K) (un dAll) := consL_un fun G H d z v Q S n e g => by
  cases d with
  | lst l =>
    obtain ⟨bs, e1, rfl⟩ := Option.map_eq_some_iff.mp (show (asBls l).map _ = some z from e)
    obtain ⟨a, ws, rfl, h1, _, ra⟩ := n
    rw [bls_rep ra e1] at h1
    exact ⟨a, bs, rfl, SqL.of h1, gives_sc S g (.bl _)⟩
  | _ => cases e
theorem c_any : ConsL k (rAny k.K) (un dAny) := consL_un fun G H d z v Q S n e g => by
  cases d with
  | lst l =>
    obtain ⟨bs, e1, rfl⟩ := Option.map_eq_some_iff.mp (show (asBls l).map _ = some z from e)
    obtain ⟨a, ws, rfl, h1, _, ra⟩ := n
    rw [bls_rep ra e1] at h1
    exact ⟨a, bs, rfl, SqL.of h1, gives_sc S g (.bl _)⟩
  | _ => cases e
theorem c_sum : ConsL k (rSum k.K) (un dSum) := consL_un fun G H d z v Q S n e g => by
  cases d with
  | lst l =>
    obtain ⟨bs, e1, rfl⟩ := Option.map_eq_some_iff.mp (show (asInts l).map _ = some z from e)
    obtain ⟨a, ws, rfl, h1, _, ra⟩ := n
    rw [ints_rep ra e1] at h1
    exact ⟨a, bs, rfl, SqL.of h1, gives_sc S g (.int _)⟩
  | _ => cases e
def rAbs : List V → Hp → VK → Prop := fun xs H Q => ∃ i, xs = [.int i] ∧ Q (.int (if i < 0 then -i else i)) H
theorem call_absD : CallR X (.builtin "abs") rAbs := call_abs
theorem c_abs : ConsL k rAbs (un dAbs) := consL_un fun G H d z v Q S n e g => by
  cases d with
  | int i =>
    cases n
    cases e
    exact ⟨i, rfl, gives_sc S g (.int _)⟩
  | _ => cases e
def rIntOf : List V → Hp → VK → Prop := fun xs H Q => (∃ i, xs = [.int i] ∧ Q (.int i) H) ∨ ∃ k, xs = [.bl k] ∧ Q (.int (if k then 1 else 0)) H
theorem call_intD : CallR X (.type "int") rIntOf := call_int1
theorem c_intOf : ConsL k rIntOf (un dIntOf) := consL_un fun G H d z v Q S n e g => by
  cases d with
  | int i =>
    cases n
    cases e
    exact .inl ⟨i, rfl, gives_sc S g (.int _)⟩
  | bl i =>
    cases n
    cases e
    exact .inr ⟨i, rfl, gives_sc S g (.int _)⟩
  | _ => cases e
theorem maxI_ge : ∀ (xs : List Int) (m : Int), m ≤ maxI xs m ∧ (∀ y ∈ xs, y ≤ maxI xs m)
  | [], m => ⟨Int.le_refl m, fun _ h => absurd h List.not_mem_nil⟩
  | x :: xs, m => by
    have ih := maxI_ge xs (if m < x then x else m)
    show m ≤ maxI xs _ ∧ ∀ y ∈ x :: xs, y ≤ maxI xs _
    have h1 : m ≤ (if m < x then x else m) ∧ x ≤ (if m < x then x else m) := by split <;> omega
    exact ⟨by have := ih.1; omega, fun y hy => (List.mem_cons.mp hy).elim (fun z => by have := ih.1; rw [z]; omega) (ih.2 y)⟩
theorem minI_le : ∀ (xs : List Int) (m : Int), minI xs m ≤ m ∧ (∀ y ∈ xs, minI xs m ≤ y)
  | [], m => ⟨Int.le_refl m, fun _ h => absurd h List.not_mem_nil⟩
  | x :: xs, m => by
    have ih := minI_le xs (if x < m then x else m)
    show minI xs _ ≤ m ∧ ∀ y ∈ x :: xs, minI xs _ ≤ y
    have h1 : (if x < m then x else m) ≤ m ∧ (if x < m then x else m) ≤ x := by split <;> omega
    exact ⟨by have := ih.1; omega, fun y hy => (List.mem_cons.mp hy).elim (fun z => by have := ih.1; rw [z]; omega) (ih.2 y)⟩
theorem maxI_mem : ∀ (xs : List Int) (m : Int), maxI xs m ∈ m :: xs
  | [], m => List.mem_cons_self
  | x :: xs, m => by
    have ih := maxI_mem xs (if m < x then x else m)
    show maxI xs _ ∈ m :: x :: xs
    rcases List.mem_cons.mp ih with h | h
    · rw [h]
      split
      · exact List.mem_cons_of_mem _ List.mem_cons_self
      · exact List.mem_cons_self
    · exact List.mem_cons_of_mem _ (List.mem_cons_of_mem _ h)
theorem minI_mem : ∀ (xs : List Int) (m : Int), minI xs m ∈ m :: xs
  | [], m => List.mem_cons_self
  | x :: xs, m => by
    have ih := minI_mem xs (if x < m then x else m)
    show minI xs _ ∈ m :: x :: xs
    rcases List.mem_cons.mp ih with h | h
    · rw [h]
      split
      · exact List.mem_cons_of_mem _ List.mem_cons_self
      · exact List.mem_cons_self
    · exact List.mem_cons_of_mem _ (List.mem_cons_of_mem _ h)
def rMax2 : List V → Hp → VK → Prop := fun xs H Q => ∃ i j, xs = [.int i, .int j] ∧ Q (.int (if j > i then j else i)) H
def rMin2 : List V → Hp → VK → Prop := fun xs H Q => ∃ i j, xs = [.int i, .int j] ∧ Q (.int (if j < i then j else i)) H
def rMaxD (K : PySem.W.Frag) : List V → Hp → VK → Prop := fun xs H Q => rMax K xs H Q ∨ rMax2 xs H Q
def rMinD (K : PySem.W.Frag) : List V → Hp → VK → Prop := fun xs H Q => rMin K xs H Q ∨ rMin2 xs H Q
theorem call_maxD (hc : X.calm = true) : CallR X (.builtin "max") (rMaxD X.K) := CallR.or (cr_max hc) (call_max2 hc)
theorem call_minD (hc : X.calm = true) : CallR X (.builtin "min") (rMinD X.K) := CallR.or (cr_min hc) (call_min2 hc)
theorem two_ints {op : List D → Option D} (h : ∀ ds, (∀ l, ds ≠ [.lst l]) → (∀ i j, ds ≠ [.int i, .int j]) → op ds = none) {ds : List D} {z : D} (e : op ds = some z) : (∃ l, ds = [.lst l]) ∨ ∃ i j, ds = [.int i, .int j] := by
  refine Classical.byContradiction fun n => ?_
  rw [h ds (fun l q => n (.inl ⟨l, q⟩)) fun i j q => n (.inr ⟨i, j, q⟩)] at e
  cases e
theorem c_max : ConsL k (rMaxD k.K) dMax := fun G H ds z vs Q S n e g => by
  rcases two_ints (op := dMax) (fun ds h1 h2 => by unfold dMax; split; exact absurd rfl (h1 _); exact absurd rfl (h2 _ _); rfl) e with ⟨l, rfl⟩ | ⟨i, j, rfl⟩
  · have e : (match asInts l with
      | some (x :: xs) => some (D.int (maxI xs x))
      | _ => none) = some z := e
    split at e
    · rename_i x xs e1
      cases e
      obtain ⟨a, ws, rfl, h1, ra⟩ := one_lst n
      rw [ints_rep ra e1] at h1
      refine .inl ⟨a, x :: xs, rfl, SqL.of h1, Nat.succ_pos _, fun m hm hy => ?_⟩
      have : m = maxI xs x := by
        have h2 := maxI_ge xs x
        have h3 := hy _ (maxI_mem xs x)
        have h4 : m ≤ maxI xs x := (List.mem_cons.mp hm).elim (fun z => z ▸ h2.1) (h2.2 m)
        omega
      rw [this]
      exact gives_sc S g (.int _)
    · cases e
  · obtain ⟨v, w, rfl, n, m⟩ := nodes2 n
    cases n
    cases m
    cases e
    exact .inr ⟨i, j, rfl, gives_sc S g (.int _)⟩
theorem c_min : ConsL k (rMinD k.K) dMin := fun G H ds z vs Q S n e g => by
  rcases two_ints (op := dMin) (fun ds h1 h2 => by unfold dMin; split; exact absurd rfl (h1 _); exact absurd rfl (h2 _ _); rfl) e with ⟨l, rfl⟩ | ⟨i, j, rfl⟩
  · have e : (match asInts l with
      | some (x :: xs) => some (D.int (minI xs x))
      | _ => none) = some z := e
    split at e
    · rename_i x xs e1
      cases e
      obtain ⟨a, ws, rfl, h1, ra⟩ := one_lst n
      rw [ints_rep ra e1] at h1
      refine .inl ⟨a, x :: xs, rfl, SqL.of h1, Nat.succ_pos _, fun m hm hy => ?_⟩
      have : m = minI xs x := by
        have h2 := minI_le xs x
        have h3 := hy _ (minI_mem xs x)
        have h4 : minI xs x ≤ m := (List.mem_cons.mp hm).elim (fun z => z ▸ h2.1) (h2.2 m)
        omega
      rw [this]
      exact gives_sc S g (.int _)
    · cases e
  · obtain ⟨v, w, rfl, n, m⟩ := nodes2 n
    cases n
    cases m
    cases e
    exact .inr ⟨i, j, rfl, gives_sc S g (.int _)⟩
/-! ### sorted -/
def pyD (d : D) : PyData := (py d).getD .none
def leD (a b : D) : Bool := !PySem.W.dataLt (pyD b) (pyD a)
def sortD (ds : List D) : List D := ds.mergeSort leD
def SortOk (ds : List D) : Prop := (∀ d ∈ ds, (py d).isSome = true) ∧ PySem.W.AllAlike (ds.map pyD) ∧ PySem.W.Sortable (ds.map pyD) ∧ ∀ d ∈ ds, (pyD d).depth ≤ 50
open Classical in
noncomputable def dSorted : D → Option D
  | .lst ds => if SortOk ds then some (.lst (sortD ds)) else none
  | _ => none
def rSortedD (K : PySem.W.Frag) : List V → Hp → VK → Prop := fun vs H Q => ∃ (a : Addr) (bs : List (D × V)), vs = [V.ref a] ∧ SqL K H a (bs.map (·.2)) ∧ bs.length ≤ sizeLine ∧ (∀ b ∈ bs, Dp K H b.2 (pyD b.1)) ∧ SortOk (bs.map (·.1)) ∧
  ∀ p, H p = none → Q (.ref p) (upd H p (.lst ((bs.mergeSort fun a b => leD a.1 b.1).map (·.2))))
theorem each_vals : ∀ {bs : List (D × V)} {us : List Value}, Vals (bs.map (·.2)) us → PySem.W.EachIs (fun u (b : D × V) => RelV b.2 u) us bs
  | [], _, h => by cases h; exact .nil
  | b :: bs, _, h => by
    cases h with
    | cons p q => exact .cons p (each_vals q)
theorem vals_each : ∀ {bs : List (D × V)} {us : List Value}, PySem.W.EachIs (fun u (b : D × V) => RelV b.2 u) us bs → Vals (bs.map (·.2)) us
  | [], _, h => by cases h; exact .nil
  | b :: bs, _, h => by
    cases h with
    | cons p q => exact .cons p (vals_each q)
theorem each_reads {pins : List (Addr × Obj)} {σ : L2.St} {H : Hp} {s : Shared} (I : L2.Inv X pins σ H s) : ∀ {bs : List (D × V)} {us : List Value}, (∀ b ∈ bs, Dp X.K H b.2 (pyD b.1)) → Vals (bs.map (·.2)) us → PySem.W.EachIs (fun u (b : D × V) => ∃ as, Reads s.heap u (pyD b.1) as) us bs
  | [], _, _, h => by cases h; exact .nil
  | b :: bs, _, hd, h => by
    cases h with
    | cons p q => exact .cons (Dp.reads I _ _ _ (hd b List.mem_cons_self) p) (each_reads I (fun c hc => hd c (List.mem_cons_of_mem _ hc)) q)
theorem cr_sortedD (hu : X.A.units + 64 < cLine) : CallR X (.builtin "sorted") (rSortedD X.K) := by
  intro pins s σ H vs us Q I r h
  obtain ⟨a, bs, rfl, hs, hz, hd, ⟨h1, h2, h3, h4⟩, q⟩ := h
  obtain ⟨its, rv, hl, _⟩ := I.list hs
  rw [Vals.ref1 r]
  have em : (bs.map (·.1)).map pyD = bs.map fun b => pyD b.1 := by rw [List.map_map]; rfl
  rw [em] at h2 h3
  refine PySem.W.sorted_data (enc := fun b : D × V => pyD b.1) hl.isList (each_vals rv) (each_reads I hd rv) h2 h3 hz (fun b hb => ?_) fun out h5 h6 => ?_
  · have := h4 b.1 (List.mem_map_of_mem hb)
    omega
  · obtain ⟨ep, he'⟩ := PyProof.Rows.sortedAll_at s.heap its (List.toArray out)
    have rv2 := vals_each h6
    have e0 : (bs.mergeSort (PySem.W.dataLe false fun b : D × V => pyD b.1)) = bs.mergeSort fun a b => leD a.1 b.1 := rfl
    rw [e0] at rv2
    have hlen : ((bs.mergeSort fun a b => leD a.1 b.1).map (·.2)).length ≤ sizeLine := by rw [List.length_map, List.length_mergeSort]; exact hz
    exact ⟨.ref _, upd H (s.heap.objs.size + 1) (.lst ((bs.mergeSort fun a b => leD a.1 b.1).map (·.2))), I.laid (t' := s.toks) (fun _ _ => PyProof.Rows.sortedAll_old) (Nat.le_succ _) ⟨hlen, out, ep, rv2, he'⟩, rfl, q _ (I.hok.fresh (Nat.le_succ _))⟩
theorem zip_fst : ∀ {G : Hp} {ds : List D} {vs : List V}, RepAll k G ds vs → (ds.zip vs).map (·.1) = ds ∧ (ds.zip vs).map (·.2) = vs ∧ ∀ b ∈ ds.zip vs, Rep k G b.1 b.2
  | _, _, _, .nil => ⟨rfl, rfl, fun _ h => absurd h List.not_mem_nil⟩
  | _, d :: ds, v :: vs, .cons p q => by
    obtain ⟨h1, h2, h3⟩ := zip_fst q
    rw [List.zip_cons_cons, List.map_cons, List.map_cons, h1, h2]
    exact ⟨rfl, rfl, fun b hb => (List.mem_cons.mp hb).elim (fun z => z ▸ p) (h3 b)⟩
theorem reps_of {G : Hp} : ∀ {bs : List (D × V)}, (∀ b ∈ bs, Rep k G b.1 b.2) → RepAll k G (bs.map (·.1)) (bs.map (·.2))
  | [], _ => .nil
  | b :: bs, h => .cons (h b List.mem_cons_self) (reps_of fun c hc => h c (List.mem_cons_of_mem _ hc))
theorem c_sorted : ConsLN k (rSortedD k.K) (un dSorted) := consLN_un fun G H d z v Q S n e g => by
  cases d with
  | lst l =>
    unfold dSorted at e
    dsimp only at e
    split at e
    · rename_i hok
      cases e
      obtain ⟨a, ws, rfl, h1, hz, ra⟩ := n
      obtain ⟨z1, z2, z3⟩ := zip_fst ra
      have hl : (l.zip ws).length = ws.length := by have := congrArg List.length z2; rw [List.length_map] at this; exact this
      refine ⟨a, l.zip ws, rfl, by rw [z2]; exact SqL.of h1, by omega, fun b hb => ?_, by rw [z1]; exact hok, fun p hp => ?_⟩
      · have hm : b.1 ∈ l := by
          have : b.1 ∈ (l.zip ws).map (·.1) := List.mem_map_of_mem hb
          rw [z1] at this
          exact this
        obtain ⟨x, hx⟩ := Option.isSome_iff_exists.mp (hok.1 _ hm)
        have e0 : pyD b.1 = x := by unfold pyD; rw [hx]; rfl
        rw [e0]
        exact dp_mono' S (rep_dp _ _ _ (z3 b hb) hx).1
      · have hm : ∀ b ∈ (l.zip ws).mergeSort (fun a b => leD a.1 b.1), Rep k G b.1 b.2 := fun b hb => z3 b (List.mem_mergeSort.mp hb)
        have rr := reps_of hm
        have e1 : ((l.zip ws).mergeSort fun a b => leD a.1 b.1).map (·.1) = sortD l := by
          unfold sortD
          rw [List.map_mergeSort (s := leD) (fun a _ b _ => rfl), z1]
        rw [e1] at rr
        refine g p _ hp (.lst ?_ rr)
        rw [List.length_map, List.length_mergeSort, hl]
        exact hz
    · cases e
  | _ => cases e
end
/-! ### texts: join, split -/
def eJoin (f g : Ev → Res RV) : Ev → Res RV := fun e => (f e).bind fun x e1 => match x with
  | .d (.str a) => (g e1).bind fun y e2 => match de e2 y with
    | some (.lst ds) => (match asStrs ds with
      | some ys => if (ys.map (·.length)).sum + ys.length * a.length ≤ 1000000 ∧ PyData.strOk (Txt.join a ys) = true then .ok (.d (.str (Txt.join a ys))) e2 else .bad
      | none => .bad)
    | _ => .bad
  | _ => .bad
section
variable {k : Kn} {X : Cx} {W : WX} {f g : Ev → Res RV} {o a : Expr} {apos pos : Pos}
theorem pd_join (ho : PE X o (tD k W f)) (he : PE X a (tD k W g)) (hs : starEach [a] X.env = [(false, eval a X.env)] := by rfl) (hbase : attributeBase o "join" X.env (eval o X.env) = eval o X.env := by rfl) (hline : (apos.endLine == pos.line) = true := by rfl) :
    PE X (.Call (.Attribute o "join" apos) [a] [] pos) (tD k W (eJoin f g)) :=
  (pe_join ho he hs hbase hline).weak fun σ H Q ⟨B, G, e, r, p⟩ => ⟨B, G, e, r, p.bind.imp fun G1 H1 e1 x r1 S1 p1 v hv => by
    split at p1
    · rename_i s
      cases hv
      refine ⟨⟨s, rfl⟩, B, G1, e1, r1, p1.bind.imp fun G2 H2 e2 y r2 S2 p2 w hw => ?_⟩
      split at p2
      · rename_i ds q
        split at p2
        · rename_i ys q2
          split at p2
          · rename_i hc
            obtain ⟨a, ws, rfl, h1, _, ra⟩ := hw.de r2 q
            rw [strs_rep ra q2] at h1
            exact ⟨s, a, ys, rfl, rfl, .inl (SqL.of h1), by omega, p2 G2 H2 r2 (Gr.refl B G2) _ (.str _ hc.2)⟩
          · exact p2.elim
        · exact p2.elim
      · exact p2.elim
    · exact p1.elim⟩
end
end PD


set_option Elab.async false
set_option linter.all false
set_option maxRecDepth 100000
/-! try with several clauses, each with a name or none -/
namespace RK
open PySem PySem.Spec PyProof.Rows L2
/-- a clause: the class it names, the slot of its name (if it has one), what its suite does -/
abbrev Clz := Value × Option Nat × (Addr → Value → Option Addr → TS)
def putE (i : Option Nat) (v : Option V) (σ : L2.St) : L2.St := match i with | some j => σ.set j v | none => σ
def endsE (i : Option Nat) (D : Ends) : Ends := { nx := fun σ' H' => D.nx (putE i none σ') H', rt := D.rt, bk := fun σ' H' => D.bk (putE i none σ') H', ct := fun σ' H' => D.ct (putE i none σ') H' }
def wClz (K : PySem.W.Frag) (Wout : WX) (D : Ends) : List Clz → WX
  | [] => Wout
  | z :: r => fun cls d σ H => ∃ b, PySem.W.exmOne K cls z.1 = some b ∧ (b = true → ∀ a, H a = none → z.2.2 a cls d (endsE z.2.1 D) (putE z.2.1 (some (.ref a)) σ) H) ∧ (b = false → wClz K Wout D r cls d σ H)
/-- the name of a clause is a local of the def, in that slot -/
def SlotOf (X : Cx) (n : Option Str) (i : Option Nat) : Prop := match n, i with
  | some m, some j => X.N[j]? = some m ∧ X.env.kindOf m = some .local
  | none, none => True
  | _, _ => False
inductive ClzOk (X : Cx) : List ExceptHandler → List Clz → Prop
  | nil : ClzOk X [] []
  | cons {x : Str} {n : Option Str} {z : Clz} {b₀ : Stmt} {suite : List Stmt} {np pos' : Pos} {hds : List ExceptHandler} {l : List Clz} (hc : Names X x z.1) (sl : SlotOf X n z.2.1)
      (hsu : ∀ (a : Addr) (oe : Obj) (cls : Value) (d : Option Addr) (pn : List (Addr × Obj)), Zc cls d oe → (∃ vs, oe.data = .fields vs) → PSs (X.suite a ((a, oe) :: pn)) (b₀ :: suite) (z.2.2 a cls d)) (r : ClzOk X hds l) :
      ClzOk X (.ExceptHandler (some (.Name x np)) n (b₀ :: suite) pos' :: hds) (z :: l)
section
variable {X : Cx} {body : List Stmt} {k0 : ExceptHandler} {ks : List ExceptHandler} {l : List Clz} {pos : Pos} {tb : WX → TS} {Wout : WX}
theorem ps_try_clz (stk : X.stack = X.env :: X.outer) (frm : X.env.frame = some X.env.locals) (nd : X.N.Nodup) (tk : Takes X Wout)
    (hb : ∀ (W : WX) (pn : List (Addr × Obj)) (xe : Value → Shared → Prop), Takes (X.tr pn xe) W → PassesOwn (model X.prog X.w) X.A X.env xe → PSs (X.tr pn xe) body (tb W))
    (hh : ClzOk X (k0 :: ks) l) : PS X (.Try body (k0 :: ks) [] [] pos) (fun D σ H => tb (wClz X.K Wout D l) D σ H) := by
  refine ⟨fun pins s σ H D I h => wpAny_Try_except ?_⟩
  have okX := I.ok
  have fr0 : X.A.frames = some (X.env :: X.outer) := okX.frames.trans (congrArg some stk)
  let xe1 : Value → Shared → Prop := fun e sa => wpAny (model X.prog X.w) X.A (noteFrame e X.env) (fun _ sb => wpAny (model X.prog X.w) X.A (setFlight e none) (fun _ sc => wpAny (model X.prog X.w) X.A (handleBy e X.env (k0 :: ks)) (SP X pins D) X.xe sc) X.xe sb) X.xe sa
  have caught : Takes (X.tr (X.pn ++ pins) xe1) (wClz X.K Wout D l) := by
    intro u sx ⟨a, B, sI, pinsX, σx, Hx, cls, d, eu, Jx, nbare, up0, sky0, afree, osx, allb, wish⟩
    subst eu
    have J := Jx.ofTry okX
    show wpAny (model X.prog X.w) X.A (noteFrame (.ref a) X.env) _ _ _
    refine Sky.land Zc.steady fr0 frm (show Sky B (X.env :: X.outer) a (Zc cls d) X.env.locals sx.heap from stk ▸ sky0) fun hA flA upA => ?_
    obtain ⟨oA, vA, getA, zA, dataA⟩ := flA.there
    have IA : L2.Inv X pins σx Hx { sx with heap := hA } := J.landed nbare flA.1 (up0.trans upA) osx allb
    have notin : a ∉ frs (X.env :: X.outer) := fun mem => by
      obtain ⟨_, o2, g2, n2⟩ := flA.2.2.1.mem mem
      have eo := Option.some.inj (getA.symm.trans g2)
      subst eo
      exact n2 _ dataA
    have aL : a ≠ X.env.locals := fun z => notin (List.mem_filterMap.mpr ⟨X.env, List.mem_cons_self, frm.trans (congrArg some z.symm)⟩)
    have aF : a ∉ X.fs := fun mem => by
      obtain ⟨en, he, q⟩ := List.mem_filterMap.mp mem
      exact notin (List.mem_filterMap.mpr ⟨en, List.mem_cons_of_mem _ he, q⟩)
    have SA := IA.suite getA dataA afree aL aF
    have run : ∀ {hs2 : List ExceptHandler} {l2 : List Clz}, ClzOk X hs2 l2 → wClz X.K Wout D l2 cls d σx Hx → wpAny (model X.prog X.w) X.A (handleBy (.ref a) X.env hs2) (SP X pins D) X.xe { sx with heap := hA } := by
      intro hs2 l2 hk
      induction hk with
      | nil =>
        intro wsh
        refine wpAny_handleBy_nil ?_
        obtain ⟨_, _, _, oB, vB, T, oT, _, getB, _, dataB, oneB, _⟩ := id flA
        have last : wpAny (model X.prog X.w) X.A (setFlight (.ref a) X.env.frame) (fun _ sd => wpAny (model X.prog X.w) X.A (throw (.ref a) : Sem Flow) (SP X pins D) X.xe sd) X.xe { sx with heap := hA } := by
          rw [frm]
          exact HandSPX.setFlight_upZ flA fun hB skyB upB => wpAny_throw (tk _ _ ⟨a, B, sI, pins, σx, Hx, cls, d, rfl, J, nbare, (up0.trans upA).trans upB, .inr (.inr (stk ▸ skyB)), afree, osx, allb, wsh⟩)
        unfold PySem.passOn
        refine wpAny_bind (wpAny_field getB dataB oneB ?_)
        rw [if_neg (by simp : ¬ ((Value.ref T == Value.none) = true))]
        first | exact wpAny_bind (wpAny_pure (wpAny_bind last)) | exact wpAny_bind last
      | @cons x n z b₀ suite np pos' hds2 l3 hc sl hsu rr ih =>
        rintro ⟨b, eb, yes, no⟩
        refine wpAny_handleBy_cons (codeAny_handlers_test ?_) (fun q => by cases q)
        have tyA : PySem.W.Looks (model X.prog X.w) hA (typeOf (.ref a)) cls := fun _ _ _ _ kk qq => wpAny_typeOf_ref (kk _ _ getA) (by rw [zA.1]; exact qq)
        have nameIt : ∀ {Qn En : Value → Shared → Prop}, Qn z.1 { sx with heap := hA } → wpAny (model X.prog X.w) (X.A.mark (some (.ref a))) (eval (.Name x np) X.env) Qn En { sx with heap := hA } := fun {Qn En} qn => by
          obtain ⟨g1, g2, g3 | ⟨g3, g4, g5⟩⟩ := hc
          · exact ld_glob (X := X.suite a ((a, oA) :: (X.pn ++ pins))) SA g1 g3 qn g2
          · exact ld_blt (X := X.suite a ((a, oA) :: (X.pn ++ pins))) SA g1 g3 g4 qn g5 g2
        refine nameIt ((PySem.W.exm_one (M := model X.prog X.w) (IA.kIn) tyA eb).here ?_)
        cases b with
        | false => exact ih (no rfl)
        | true =>
          have hy := yes rfl a afree
          cases n with
          | none =>
            obtain ⟨c1, i1, ts1⟩ := z
            cases i1 with
            | some j => exact absurd sl (fun q => q)
            | none =>
              refine codeAny_handlers_suite (HandSPX.lands_againZ flA fun hB flB upB => ?_)
              obtain ⟨oB, vB, getB, zB, dataB⟩ := flB.there
              have IB : L2.Inv X pins σx Hx { sx with heap := hB } := J.landed nbare flB.1 ((up0.trans upA).trans upB) osx allb
              have SB := IB.suite getB dataB afree aL aF
              refine wpAny_mono ((hsu a oB cls d (X.pn ++ pins) zB ⟨_, dataB⟩).run [] _ _ Hx _ SB hy) (fun fl s6 got => ?_) (fun _ _ q => q.elim)
              cases fl with
              | next => obtain ⟨σ6, H6, J6, q6⟩ := got; exact ⟨_, _, J6.unsuite okX, q6⟩
              | brk => obtain ⟨σ6, H6, J6, q6⟩ := got; exact ⟨_, _, J6.unsuite okX, q6⟩
              | cont => obtain ⟨σ6, H6, J6, q6⟩ := got; exact ⟨_, _, J6.unsuite okX, q6⟩
              | ret u => obtain ⟨v6, σ6, H6, J6, r6, q6⟩ := got; exact ⟨_, _, _, J6.unsuite okX, r6, q6⟩
          | some m =>
            obtain ⟨c1, i1, ts1⟩ := z
            cases i1 with
            | none => exact absurd sl (fun q => q)
            | some j =>
              obtain ⟨hj, hloc⟩ : X.N[j]? = some m ∧ X.env.kindOf m = some .local := sl
              refine codeAny_handlers_suite_as (HandSPX.lands_againZ flA fun hB flB upB => ?_)
              obtain ⟨oB, vB, getB, zB, dataB⟩ := flB.there
              have IB : L2.Inv X pins σx Hx { sx with heap := hB } := J.landed nbare flB.1 ((up0.trans upA).trans upB) osx allb
              have SB := IB.suite getB dataB afree aL aF
              refine store_ok (X := X.suite a ((a, oB) :: (X.pn ++ pins))) (v := .ref a) SB nd hj (.inl hloc) rfl (fun s5 S5 => ?_) (.inr hloc)
              refine wpAny_mono ((hsu a oB cls d (X.pn ++ pins) zB ⟨_, dataB⟩).run [] s5 _ Hx _ S5 hy) (fun fl s6 got => ?_) (fun _ _ q => q.elim)
              cases fl with
              | next => obtain ⟨σ6, H6, J6, q6⟩ := got; exact gone_ok (J6.unsuite okX) nd hj hloc fun s7 J7 => ⟨_, _, J7, q6⟩
              | brk => obtain ⟨σ6, H6, J6, q6⟩ := got; exact gone_ok (J6.unsuite okX) nd hj hloc fun s7 J7 => ⟨_, _, J7, q6⟩
              | cont => obtain ⟨σ6, H6, J6, q6⟩ := got; exact gone_ok (J6.unsuite okX) nd hj hloc fun s7 J7 => ⟨_, _, J7, q6⟩
              | ret u => obtain ⟨v6, σ6, H6, J6, r6, q6⟩ := got; exact gone_ok (J6.unsuite okX) nd hj hloc fun s7 J7 => ⟨_, _, _, J7, r6, q6⟩
    exact run hh wish
  refine wpAny_mono ((hb (wClz X.K Wout D l) (X.pn ++ pins) xe1 caught PassesOwn.looking).run [] s σ H D (I.toTry _) h) (fun fl s1 got => ?_) (fun _ _ q => q)
  cases fl with
  | next => obtain ⟨σ1, H1, J1, q1⟩ := got; exact wpAny_execs_nil ⟨σ1, H1, J1.ofTry okX, q1⟩
  | brk => obtain ⟨σ1, H1, J1, q1⟩ := got; exact ⟨σ1, H1, J1.ofTry okX, q1⟩
  | cont => obtain ⟨σ1, H1, J1, q1⟩ := got; exact ⟨σ1, H1, J1.ofTry okX, q1⟩
  | ret u => obtain ⟨v1, σ1, H1, J1, r1, q1⟩ := got; exact ⟨v1, σ1, H1, J1.ofTry okX, r1, q1⟩
end
end RK


set_option Elab.async false
set_option linter.all false
set_option maxRecDepth 100000
set_option maxHeartbeats 1000000
/-! PD10: defs by data: promises, calls. -/
namespace PD
open PySem PySem.Spec PyProof.Rows L2 RK
/-- how a parameter is passed: data (or a list that is only read), an object that the callee may write, a law's heap -/
inductive PK where
  | v | o | h
  deriving DecidableEq
def heapD (zs : List Int) (s : Int) : D := .lst [.lst (zs.map .int), .int s]
def asHeap : D → Option (List Int × Int)
  | .lst [.lst ds, .int s] => (asInts ds).map fun zs => (zs, s)
  | _ => none
def slOf : PK → D → Option Sl
  | .v, d => some (.val d)
  | .o, d => if isTup d = true then none else some (.own d)
  | .h, d => (asHeap d).map fun p => .heap p.1 p.2
def inits : List PK → List D → Option Ev
  | [], [] => some []
  | k :: ks, d :: ds => match slOf k d, inits ks ds with
    | some s, some e => some (s :: e)
    | _, _ => none
  | _, _ => none
inductive FR where
  | ok (z : D) (outs : Ev) | err (c : EC) (x : Option D) (outs : Ev) | bad
/-- of a body's last slots: what the callee leaves of the parameters -/
def outsOf : List PK → Ev → Option Ev
  | [], _ => some []
  | .v :: ks, _ :: e => (outsOf ks e).map (Sl.no :: ·)
  | .o :: ks, .own d :: e => (outsOf ks e).map (Sl.own d :: ·)
  | .h :: ks, .heap zs s :: e => (outsOf ks e).map (Sl.heap zs s :: ·)
  | _, _ => none
def runF (n : Nat) (ks : List PK) (fr : Bool) (g : Ev → SR) (ds : List D) : FR := match inits ks ds with
  | none => .bad
  | some e0 => match g (e0 ++ List.replicate (n - ks.length) Sl.no) with
    | .rt z e => (match outsOf ks e with
      | some o => .ok z o
      | none => .bad)
    | .nx e => if fr = true then .bad else (match outsOf ks e with
      | some o => .ok .non o
      | none => .bad)
    | .err c x e => (match outsOf ks e with
      | some o => .err c x o
      | none => .bad)
    | _ => .bad
def pinOf (ks : List PK) (vs : List V) (i : Nat) : Option Addr := match ks[i]? with
  | some .o => (match vs[i]? with
    | some (.ref a) => some a
    | _ => none)
  | some .h => (match vs[i]? with
    | some (.ref a) => some a
    | _ => none)
  | _ => none
/-- the same, with other slots pinned -/
abbrev Kn.at (k : Kn) (p : Nat → Option Addr) : Kn := { k with pin := p, kp := none }
section
variable {k k' : Kn} {p : Nat → Option Addr} {G H : Hp}
/-- Rep and the others depend on K and the classes' names alone -/
theorem Rep.cv (hK : k'.K = k.K) (hC : k'.cn = k.cn) {d : D} {v : V} (h : Rep k G d v) : Rep k' G d v :=
  Rep.rec (k := k) (G := G) (motive_1 := fun d v _ => Rep k' G d v) (motive_2 := fun d v _ => RepAll k' G d v) (motive_3 := fun d v _ => RepF k' G d v) (motive_4 := fun d v _ => RepK k' G d v) (motive_5 := fun d v _ => RepT k' G d v)
    .non .bl .int .str (fun a b _ q => .tup a b q) (fun a b _ q => .lst a b q) (fun a b => .scr (hK ▸ a) b) (fun a _ q => .dK a q) (fun a _ q => .dT a q) (fun a b _ q => .obj a (hC ▸ b) q)
    .nil (fun _ _ p q => .cons p q) .nil (fun _ _ p q => .cons p q) .nil (fun o _ _ p q => .cons o p q) .nil (fun o _ _ p q => .cons o p q) h
theorem RepAll.cv (hK : k'.K = k.K) (hC : k'.cn = k.cn) : ∀ {ds : List D} {vs : List V}, RepAll k G ds vs → RepAll k' G ds vs
  | _, _, .nil => .nil
  | _, _, .cons a b => .cons (Rep.cv hK hC a) (b.cv hK hC)
theorem RepF.cv (hK : k'.K = k.K) (hC : k'.cn = k.cn) : ∀ {ds : List (Str × D)} {vs : List (Str × V)}, RepF k G ds vs → RepF k' G ds vs
  | _, _, .nil => .nil
  | _, _, .cons a b => .cons (Rep.cv hK hC a) (b.cv hK hC)
theorem RepK.cv (hK : k'.K = k.K) (hC : k'.cn = k.cn) : ∀ {ds : List (D × D)} {vs : List (Key × V)}, RepK k G ds vs → RepK k' G ds vs
  | _, _, .nil => .nil
  | _, _, .cons o a b => .cons o (Rep.cv hK hC a) (b.cv hK hC)
theorem RepT.cv (hK : k'.K = k.K) (hC : k'.cn = k.cn) : ∀ {ds : List (D × D)} {vs : List (List Key × V)}, RepT k G ds vs → RepT k' G ds vs
  | _, _, .nil => .nil
  | _, _, .cons o a b => .cons o (Rep.cv hK hC a) (b.cv hK hC)
theorem NodeO.cv (hK : k'.K = k.K) (hC : k'.cn = k.cn) {d : D} {o : HO} (h : NodeO k G d o) : NodeO k' G d o := by
  cases h with
  | tup a b => exact .tup a (b.cv hK hC)
  | lst a b => exact .lst a (b.cv hK hC)
  | dK a => exact .dK (a.cv hK hC)
  | dT a => exact .dT (a.cv hK hC)
  | obj a b => exact .obj (hC ▸ a) (b.cv hK hC)
theorem OwnR.cv (hK : k'.K = k.K) (hC : k'.cn = k.cn) {s : Sl} {a : Addr} {l : List Addr} (h : OwnR k G H s a l) : OwnR k' G H s a l := by
  cases s with
  | own d => obtain ⟨h1, o, h2, h3⟩ := h; exact ⟨h1, o, h2, h3.cv hK hC⟩
  | heap zs s => exact h
  | no => exact h
  | val d => exact h
theorem Rep.at {d : D} {v : V} (h : Rep k G d v) : Rep (k.at p) G d v := Rep.cv (k := k) (k' := k.at p) rfl rfl h
theorem Rep.from {d : D} {v : V} (h : Rep (k.at p) G d v) : Rep k G d v := Rep.cv (k := k.at p) (k' := k) rfl rfl h
theorem NodeO.at {d : D} {o : HO} (h : NodeO k G d o) : NodeO (k.at p) G d o := NodeO.cv (k := k) (k' := k.at p) rfl rfl h
theorem NodeO.from {d : D} {o : HO} (h : NodeO (k.at p) G d o) : NodeO k G d o := NodeO.cv (k := k.at p) (k' := k) rfl rfl h
theorem OwnR.at {s : Sl} {a : Addr} {l : List Addr} (h : OwnR k G H s a l) : OwnR (k.at p) G H s a l := OwnR.cv (k := k) (k' := k.at p) rfl rfl h
theorem OwnR.from {s : Sl} {a : Addr} {l : List Addr} (h : OwnR (k.at p) G H s a l) : OwnR k G H s a l := OwnR.cv (k := k.at p) (k' := k) rfl rfl h
end
/-- a def's promise -/
def PostF (k : Kn) (B : Hp) (vs : List V) (fr : Bool) (Q : VK) (E : XK) (G : Hp) : FR → Prop
  | .ok z e' => (fr = false → ∀ G' H' v, ER k B G' e' (vs.map some) H' → Gr B G G' → Rep k G' z v → Q v H') ∧
      (fr = true → ∀ G' H' a o, ER k (upd B a o) G' e' (vs.map some) H' → Gr B G G' → B a = none → G' a = none → NodeO k G' z o → Q (.ref a) H')
  | .err c x e' => ∀ G' H' cls dd, ER k B G' e' (vs.map some) H' → ExcAt k B G' H' c x cls dd → Gr B G G' → E cls dd H'
  | .bad => False
def spD (k : Kn) (ks : List PK) (fr : Bool) (F : List D → FR) : Sp := fun vs H Q E => vs.length = ks.length ∧ ∃ B G ds e0, inits ks ds = some e0 ∧ ER (k.at (pinOf ks vs)) B G e0 (vs.map some) H ∧ PostF (k.at (pinOf ks vs)) B vs fr Q E G (F ds)
section
variable {k : Kn} {B G H : Hp} {e : Ev} {σ : L2.St}
theorem inits_len : ∀ {ks : List PK} {ds : List D} {e : Ev}, inits ks ds = some e → e.length = ks.length
  | [], [], _, h => by cases h; rfl
  | _ :: ks, _ :: ds, _, h => by
    unfold inits at h
    split at h
    · rename_i q1 q2
      cases h
      exact congrArg (· + 1) (inits_len q2)
    · cases h
  | [], _ :: _, _, h => by cases h
  | _ :: _, [], _, h => by cases h
theorem outs_len : ∀ {ks : List PK} {e o : Ev}, outsOf ks e = some o → o.length = ks.length
  | [], _, _, h => by cases h; rfl
  | k :: ks, e, o, h => by
    cases e with
    | nil => cases k <;> cases h
    | cons s e =>
      cases k with
      | v =>
        obtain ⟨o', h1, rfl⟩ := Option.map_eq_some_iff.mp (show (outsOf ks e).map (Sl.no :: ·) = some o from h)
        exact congrArg (· + 1) (outs_len h1)
      | o =>
        cases s with
        | own d =>
          obtain ⟨o', h1, rfl⟩ := Option.map_eq_some_iff.mp (show (outsOf ks e).map (Sl.own d :: ·) = some o from h)
          exact congrArg (· + 1) (outs_len h1)
        | _ => cases h
      | h =>
        cases s with
        | heap zs z =>
          obtain ⟨o', h1, rfl⟩ := Option.map_eq_some_iff.mp (show (outsOf ks e).map (Sl.heap zs z :: ·) = some o from h)
          exact congrArg (· + 1) (outs_len h1)
        | _ => cases h
theorem outs_get : ∀ {ks : List PK} {e o : Ev} {i : Nat} {t : Sl}, outsOf ks e = some o → o[i]? = some t → t = .no ∨ (e[i]? = some t ∧ t.isOwn = true ∧ (ks[i]? = some .o ∨ ks[i]? = some .h))
  | [], _, _, _, _, h, ht => by cases h; simp at ht
  | k :: ks, e, o, i, t, h, ht => by
    cases e with
    | nil => cases k <;> cases h
    | cons s e =>
      have step : ∀ {s' : Sl} {o' : Ev}, outsOf ks e = some o' → o = s' :: o' → (s' = .no ∨ (s = s' ∧ s'.isOwn = true ∧ (k = .o ∨ k = .h))) → t = .no ∨ ((s :: e)[i]? = some t ∧ t.isOwn = true ∧ ((k :: ks)[i]? = some .o ∨ (k :: ks)[i]? = some .h)) := fun {s' o'} h1 e1 hs => by
        subst e1
        cases i with
        | zero =>
          rw [List.getElem?_cons_zero] at ht
          cases ht
          rcases hs with hs | ⟨rfl, h2, h3⟩
          · exact .inl hs
          · exact .inr ⟨rfl, h2, h3.elim (fun z => .inl (by rw [z]; rfl)) fun z => .inr (by rw [z]; rfl)⟩
        | succ i =>
          rw [List.getElem?_cons_succ] at ht
          rcases outs_get h1 ht with z | ⟨z1, z2, z3⟩
          · exact .inl z
          · exact .inr ⟨by rw [List.getElem?_cons_succ]; exact z1, z2, by rw [List.getElem?_cons_succ]; exact z3⟩
      cases k with
      | v =>
        obtain ⟨o', h1, h2⟩ := Option.map_eq_some_iff.mp (show (outsOf ks e).map (Sl.no :: ·) = some o from h)
        exact step h1 h2.symm (.inl rfl)
      | o =>
        cases s with
        | own d =>
          obtain ⟨o', h1, h2⟩ := Option.map_eq_some_iff.mp (show (outsOf ks e).map (Sl.own d :: ·) = some o from h)
          exact step h1 h2.symm (.inr ⟨rfl, rfl, .inl rfl⟩)
        | _ => cases h
      | h =>
        cases s with
        | heap zs z =>
          obtain ⟨o', h1, h2⟩ := Option.map_eq_some_iff.mp (show (outsOf ks e).map (Sl.heap zs z :: ·) = some o from h)
          exact step h1 h2.symm (.inr ⟨rfl, rfl, .inr rfl⟩)
        | _ => cases h
/-- slots put behind -/
theorem ER.more {σ : L2.St} (r : ER k B G e σ H) (n : Nat) : ER k B G (e ++ List.replicate n Sl.no) (σ ++ List.replicate n none) H := by
  obtain ⟨fp, r⟩ := r
  have at_ : ∀ {i : Nat} {s : Sl}, s ≠ .no → (e ++ List.replicate n Sl.no)[i]? = some s → e[i]? = some s := fun {i s} hs h => by
    by_cases hi : i < e.length
    · rw [List.getElem?_append_left hi] at h; exact h
    · rw [List.getElem?_append_right (by omega), List.getElem?_replicate] at h
      split at h
      · cases h; exact absurd rfl hs
      · cases h
  have at2 : ∀ {i : Nat} {v : V}, σ[i]? = some (some v) → (σ ++ List.replicate n none)[i]? = some (some v) := fun {i v} h => by
    rw [List.getElem?_append_left (List.getElem?_eq_some_iff.mp h).1]; exact h
  have no : ∀ s : Sl, s.isOwn = true → s ≠ .no := fun s h z => by subst z; cases h
  refine ⟨fp, by rw [List.length_append, List.length_append, List.length_replicate, List.length_replicate, r.len], r.base, r.vis, fun i d h => ?_, fun i s h ho => ?_, fun i s b h ho => r.free i s b (at_ (no s ho) h) ho, fun i j s t b ne h1 o1 h2 o2 => r.sep i j s t b ne (at_ (no s o1) h1) o1 (at_ (no t o2) h2) o2, fun i a h => at2 (r.pin i a h), r.kept⟩
  · obtain ⟨v, h1, h2⟩ := r.val i d (at_ (fun z => by cases z) h)
    exact ⟨v, at2 h1, h2⟩
  · obtain ⟨a, h1, h2⟩ := r.own i s (at_ (no s ho) h) ho
    exact ⟨a, at2 h1, h2⟩
/-- at a def's end: the parameters' own objects -/
theorem ER.outs {ks : List PK} {vs : List V} {o : Ev} (r : ER k B G e σ H) (h : outsOf ks e = some o) (hl : vs.length = ks.length) (hp : k.pin = pinOf ks vs) (hr : ∀ i : Nat, (ks[i]? = some .o ∨ ks[i]? = some .h) → ∃ a, vs[i]? = some (V.ref a)) : ER k B G o (vs.map some) H := by
  obtain ⟨fp, r⟩ := r
  have at_ : ∀ {i : Nat} {s : Sl}, s.isOwn = true → o[i]? = some s → e[i]? = some s ∧ (ks[i]? = some .o ∨ ks[i]? = some .h) := fun {i s} ho hs => by
    rcases outs_get h hs with z | ⟨z1, _, z3⟩
    · rw [z] at ho; cases ho
    · exact ⟨z1, z3⟩
  have pv : ∀ {i : Nat} {a : Addr}, σ[i]? = some (some (.ref a)) → (ks[i]? = some .o ∨ ks[i]? = some .h) → (vs.map some)[i]? = some (some (V.ref a)) := fun {i a} hs hk => by
    obtain ⟨b, hb⟩ := hr i hk
    have hpin : k.pin i = some b := by
      rw [hp]
      unfold pinOf
      rcases hk with z | z <;> rw [z] <;> dsimp only <;> rw [hb]
    have h2 := r.pin i b hpin
    rw [hs] at h2
    cases h2
    rw [List.getElem?_map, hb]
    rfl
  refine ⟨fp, by rw [List.length_map, outs_len h, hl], r.base, r.vis, fun i d hd => ?_, fun i s hs ho => ?_, fun i s b hs ho => r.free i s b (at_ ho hs).1 ho, fun i j s t b ne h1 o1 h2 o2 => r.sep i j s t b ne (at_ o1 h1).1 o1 (at_ o2 h2).1 o2, fun i a ha => ?_, r.kept⟩
  · rcases outs_get h hd with z | ⟨_, z, _⟩
    · cases z
    · cases z
  · obtain ⟨h1, h2⟩ := at_ ho hs
    obtain ⟨a, h3, h4⟩ := r.own i s h1 ho
    exact ⟨a, pv h3 h2, h4⟩
  · refine pv (r.pin i a ha) ?_
    rw [hp] at ha
    unfold pinOf at ha
    split at ha
    · rename_i q; exact .inl q
    · rename_i q; exact .inr q
    · cases ha
end
end PD


set_option Elab.async false
set_option linter.all false
set_option maxRecDepth 100000
set_option maxHeartbeats 1000000
/-! PD11: a def from its body; calls. -/
namespace PD
open PySem PySem.Spec PyProof.Rows L2 RK
/-! ### data without an object that may be written -/
mutual
def flat : D → Bool
  | .non => true
  | .bl _ => true
  | .int _ => true
  | .str _ => true
  | .tup ds => flats ds
  | _ => false
def flats : List D → Bool
  | [] => true
  | d :: ds => flat d && flats ds
end
/-- .. but for itself -/
def flatO : D → Bool
  | .lst ds => flats ds
  | .tup ds => flats ds
  | .dic _ ks => ks.all fun p => flat p.2
  | .obj _ fs => fs.all fun p => flat p.2
  | _ => false
section
variable {k : Kn} {G G' : Hp}
mutual
theorem Rep.lower (S : ∀ (b : Addr) (vs : List V), G b = some (.tup vs) → G' b = some (.tup vs)) : ∀ {d : D} {v : V}, flat d = true → Rep k G d v → Rep k G' d v
  | .non, _, _, h => by cases h; exact .non
  | .bl _, _, _, h => by cases h; exact .bl _
  | .int _, _, _, h => by cases h; exact .int _
  | .str _, _, _, h => by cases h; exact .str _ (by assumption)
  | .tup ds, _, f, h => by
    cases h with
    | tup a b c => exact .tup (S _ _ a) b (RepAll.lower S (by unfold flat at f; exact f) c)
  | .lst _, _, f, _ => by unfold flat at f; cases f
  | .dic _ _, _, f, _ => by unfold flat at f; cases f
  | .obj _ _, _, f, _ => by unfold flat at f; cases f
  | .scr _, _, f, _ => by unfold flat at f; cases f
theorem RepAll.lower (S : ∀ (b : Addr) (vs : List V), G b = some (.tup vs) → G' b = some (.tup vs)) : ∀ {ds : List D} {vs : List V}, flats ds = true → RepAll k G ds vs → RepAll k G' ds vs
  | [], _, _, h => by cases h; exact .nil
  | d :: ds, _, f, h => by
    unfold flats at f
    rw [Bool.and_eq_true] at f
    cases h with
    | cons a b => exact .cons (Rep.lower S f.1 a) (RepAll.lower S f.2 b)
end
theorem RepK.lower (S : ∀ (b : Addr) (vs : List V), G b = some (.tup vs) → G' b = some (.tup vs)) : ∀ {ks : List (D × D)} {vs : List (Key × V)}, (ks.all fun p => flat p.2) = true → RepK k G ks vs → RepK k G' ks vs
  | _, _, _, .nil => .nil
  | _, _, f, .cons o p q => by
    rw [List.all_cons, Bool.and_eq_true] at f
    exact .cons o (p.lower S f.1) (RepK.lower S f.2 q)
theorem RepT.lower (S : ∀ (b : Addr) (vs : List V), G b = some (.tup vs) → G' b = some (.tup vs)) : ∀ {ks : List (D × D)} {vs : List (List Key × V)}, (ks.all fun p => flat p.2) = true → RepT k G ks vs → RepT k G' ks vs
  | _, _, _, .nil => .nil
  | _, _, f, .cons o p q => by
    rw [List.all_cons, Bool.and_eq_true] at f
    exact .cons o (p.lower S f.1) (RepT.lower S f.2 q)
theorem RepF.lower (S : ∀ (b : Addr) (vs : List V), G b = some (.tup vs) → G' b = some (.tup vs)) : ∀ {fs : List (Str × D)} {vs : List (Str × V)}, (fs.all fun p => flat p.2) = true → RepF k G fs vs → RepF k G' fs vs
  | _, _, _, .nil => .nil
  | _, _, f, .cons p q => by
    rw [List.all_cons, Bool.and_eq_true] at f
    exact .cons (p.lower S f.1) (RepF.lower S f.2 q)
theorem NodeO.lower (S : ∀ (b : Addr) (vs : List V), G b = some (.tup vs) → G' b = some (.tup vs)) {d : D} {o : HO} (f : flatO d = true) (h : NodeO k G d o) : NodeO k G' d o := by
  cases h with
  | tup a b => exact .tup a (b.lower S f)
  | lst a b => exact .lst a (b.lower S f)
  | dK a => exact .dK (a.lower S f)
  | dT a => exact .dT (a.lower S f)
  | obj a b => exact .obj a (b.lower S f)
end
/-! ### a def from its body -/
/-- slots that a def may set: all but those that keep their object -/
def pinFree (ks : List PK) (p : Nat → Option Addr) : Prop := ∀ i : Nat, (match ks[i]? with | some .o => false | some .h => false | _ => true) = true → p i = none
theorem pinOf_free (ks : List PK) (vs : List V) : pinFree ks (pinOf ks vs) := fun i h => by
  cases hk : ks[i]? with
  | none => unfold pinOf; simp only [hk]
  | some q =>
    rw [hk] at h
    cases q with
    | v => unfold pinOf; simp only [hk]
    | o => cases h
    | h => cases h
theorem inits_get : ∀ {ks : List PK} {ds : List D} {e : Ev} {i : Nat} {s : Sl}, inits ks ds = some e → e[i]? = some s → ∃ q d, ks[i]? = some q ∧ ds[i]? = some d ∧ slOf q d = some s
  | [], [], _, i, _, h, hs => by cases h; simp at hs
  | q :: ks, d :: ds, _, i, s, h, hs => by
    unfold inits at h
    split at h
    · rename_i s0 e0 q1 q2
      cases h
      cases i with
      | zero =>
        rw [List.getElem?_cons_zero] at hs
        cases hs
        exact ⟨q, d, rfl, rfl, q1⟩
      | succ i =>
        rw [List.getElem?_cons_succ] at hs
        obtain ⟨q', d', h1, h2, h3⟩ := inits_get q2 hs
        exact ⟨q', d', by rw [List.getElem?_cons_succ]; exact h1, by rw [List.getElem?_cons_succ]; exact h2, h3⟩
    · cases h
  | [], _ :: _, _, _, _, h, _ => by cases h
  | _ :: _, [], _, _, _, h, _ => by cases h
theorem inits_own {ks : List PK} {ds : List D} {e : Ev} {i : Nat} (h : inits ks ds = some e) (hk : ks[i]? = some .o ∨ ks[i]? = some .h) : ∃ s, e[i]? = some s ∧ s.isOwn = true := by
  have hi : i < e.length := by
    rw [inits_len h]
    rcases hk with z | z <;> exact (List.getElem?_eq_some_iff.mp z).1
  obtain ⟨q, d, h1, h2, h3⟩ := inits_get h (List.getElem?_eq_getElem hi)
  refine ⟨_, List.getElem?_eq_getElem hi, ?_⟩
  rcases hk with z | z
  · rw [h1] at z
    cases z
    have h3 : (if isTup d = true then none else some (Sl.own d)) = some e[i] := h3
    split at h3
    · cases h3
    · rw [← Option.some.inj h3]; rfl
  · rw [h1] at z
    cases z
    obtain ⟨p, _, h4⟩ := Option.map_eq_some_iff.mp h3
    rw [← h4]; rfl
section
variable {k : Kn} {ks : List PK} {fr : Bool} {g : Ev → SR}
theorem body_sem {W : WX} {N : List Str} {ps : List Str} {vs : List V} {H : Hp} {Q : VK} {E : XK} (hl : ks.length = ps.length) (hN : ps.length ≤ N.length) (hW : ∀ cls d σ H', E cls d H' → W cls d σ H')
    (h : spD k ks fr (runF N.length ks fr g) vs H Q E) : tS (k.at (pinOf ks vs)) W fr g { nx := fun _ H' => Q V.non H', rt := Q } (L2.start N vs) H := by
  obtain ⟨hv, B, G, ds, e0, hi, r, p⟩ := h
  have hr : ∀ i : Nat, (ks[i]? = some .o ∨ ks[i]? = some .h) → ∃ a, vs[i]? = some (V.ref a) := fun i hk => by
    obtain ⟨s, h1, h2⟩ := inits_own hi hk
    obtain ⟨fp, r⟩ := r
    obtain ⟨a, h3, _⟩ := r.own i s h1 h2
    rw [List.getElem?_map] at h3
    cases q : vs[i]? with
    | none => rw [q] at h3; cases h3
    | some v => rw [q] at h3; cases h3; exact ⟨a, rfl⟩
  refine ⟨B, G, e0 ++ List.replicate (N.length - ks.length) Sl.no, ?_, ?_⟩
  · have := r.more (N.length - ks.length)
    unfold L2.start
    rw [hv]
    exact this
  · unfold runF at p
    rw [hi] at p
    dsimp only at p
    revert p
    generalize g (e0 ++ List.replicate (N.length - ks.length) Sl.no) = z
    intro p
    cases z with
    | rt z e =>
      dsimp only at p
      cases ho : outsOf ks e with
      | none => rw [ho] at p; exact p.elim
      | some o =>
        rw [ho] at p
        exact ⟨fun f σ' G' H' v r' S hz => p.1 f G' H' v (r'.outs ho hv rfl hr) S hz, fun f σ' G' H' a ob r' S b1 b2 n => p.2 f G' H' a ob (r'.outs ho hv rfl hr) S b1 b2 n⟩
    | nx e =>
      cases fr with
      | true => exact p.elim
      | false =>
        dsimp only at p
        rw [if_neg Bool.false_ne_true] at p
        cases ho : outsOf ks e with
        | none => rw [ho] at p; exact p.elim
        | some o =>
          rw [ho] at p
          exact fun σ' G' H' r' S => p.1 rfl G' H' .non (r'.outs ho hv rfl hr) S .non
    | err c x e =>
      dsimp only at p
      cases ho : outsOf ks e with
      | none => rw [ho] at p; exact p.elim
      | some o =>
        rw [ho] at p
        exact fun σ' G' H' cls dd r' q S => hW _ _ _ _ (p G' H' cls dd (r'.outs ho hv rfl hr) q S)
    | bk e => exact p.elim
    | ct e => exact p.elim
    | bad => exact p.elim
variable {P : Program} {w : World} {K : PySem.W.Frag} {mg : Str → Option Value} {base : Heap} {x qual : Str} {st : Stmt} {f : Addr} {fd : FuncData} {N ps : List Str} {lv : Nat}
theorem fn_okD (F : Fun K x qual st f fd) (sc : FnScope N ps (defScope st)) (hl : ks.length = ps.length) (hN : ps.length ≤ N.length)
    (body : ∀ (cdv : Value) (A : Around) (outer : List Env) (s : Shared) (H : Hp) (E : XK) (p : Nat → Option Addr), Room lv (A.deeper (envOfC qual (defScope st) s.heap.objs.size f cdv)) → pinFree ks p →
      Takes (cxOf (CX P w) P w K mg base N qual (defScope st) f cdv A outer s H E) (fun cls d _ H' => E cls d H') →
      PSs (cxOf (CX P w) P w K mg base N qual (defScope st) f cdv A outer s H E) (defBody st) (tS (k.at p) (fun cls d _ H' => E cls d H') fr g)) :
    FnOk P w K mg base (CX P w) (lv + 1) f fd ps (spD k ks fr (runF N.length ks fr g)) := by
  refine F.okX sc (fun vs H Q E h => by rw [h.1, hl]) (fun cdv A outer s H vs Q E hr h => ?_)
  exact ⟨_, body cdv A outer s H E (pinOf ks vs) hr (pinOf_free ks vs) (takes_of rfl rfl rfl rfl), body_sem hl hN (fun _ _ _ _ q => q) h⟩
abbrev WNo : WX := fun _ _ _ _ => False
theorem fn_okD0 (F : Fun K x qual st f fd) (sc : FnScope N ps (defScope st)) (hl : ks.length = ps.length) (hN : ps.length ≤ N.length)
    (body : ∀ (cdv : Value) (A : Around) (outer : List Env) (s : Shared) (H : Hp) (E : XK) (p : Nat → Option Addr), Room lv (A.deeper (envOfC qual (defScope st) s.heap.objs.size f cdv)) → pinFree ks p →
      Takes (cxOf CX0 P w K mg base N qual (defScope st) f cdv A outer s H E).nox WNo →
      PSs (cxOf CX0 P w K mg base N qual (defScope st) f cdv A outer s H E).nox (defBody st) (tS (k.at p) WNo fr g)) :
    FnOk P w K mg base CX0 (lv + 1) f fd ps (fun vs H Q _ => spD k ks fr (runF N.length ks fr g) vs H Q (fun _ _ _ => False)) := by
  refine F.ok sc (fun vs H Q E h => by rw [h.1, hl]) (fun cdv A outer s H vs Q E hr h => ?_)
  exact ⟨_, body cdv A outer s H E (pinOf ks vs) hr (pinOf_free ks vs) takes0, body_sem hl hN (fun _ _ _ _ q => q) h⟩
end
end PD


set_option Elab.async false
set_option linter.all false
set_option maxRecDepth 100000
set_option maxHeartbeats 1000000
/-! PD12: calls. -/
namespace PD
open PySem PySem.Spec PyProof.Rows L2 RK
def argOf (e : Ev) : PK → RV → Option D
  | .v, x => de e x
  | .o, .at j => (match e[j]? with
    | some (.own d) => if isTup d = true then none else some d
    | _ => none)
  | .h, .at j => (match e[j]? with
    | some (.heap zs s) => some (heapD zs s)
    | _ => none)
  | _, _ => none
def argsOf (e : Ev) : List PK → List RV → Option (List D)
  | [], [] => some []
  | q :: ks, x :: xs => match argOf e q x, argsOf e ks xs with
    | some d, some ds => some (d :: ds)
    | _, _ => none
  | _, _ => none
def PK.out : PK → Bool
  | .v => false
  | _ => true
def outIx : List PK → List RV → List Nat
  | q :: ks, .at j :: xs => if q.out = true then j :: outIx ks xs else outIx ks xs
  | _ :: ks, .d _ :: xs => outIx ks xs
  | _, _ => []
def borIx : List PK → List RV → List Nat
  | q :: ks, .at j :: xs => if q.out = true then borIx ks xs else j :: borIx ks xs
  | _ :: ks, .d _ :: xs => borIx ks xs
  | _, _ => []
def okIx (ks : List PK) (xs : List RV) : Bool := decide (outIx ks xs).Nodup && (borIx ks xs).all fun j => !(outIx ks xs).contains j
def Sl.outOnly (s : Sl) : Sl := if s.isOwn = true then s else .no
def back : List PK → List RV → Ev → Ev → Ev
  | q :: ks, .at j :: xs, s :: os, e => if q.out = true then back ks xs os (e.set j s.outOnly) else back ks xs os e
  | _ :: ks, .d _ :: xs, _ :: os, e => back ks xs os e
  | _, _, _, e => e
def outFlat : Sl → Bool
  | .own d => flatO d
  | _ => true
def flatX : Option D → Bool
  | none => true
  | some y => flat y
def eCallF (fr : Bool) (ks : List PK) (F : List D → FR) (fs : Ev → Res (List RV)) : Ev → Res D := fun e => (fs e).bind fun xs e1 => if okIx ks xs = true then (match argsOf e1 ks xs with
    | some ds => (match F ds with
      | .ok z o => if (borIx ks xs).isEmpty || ((if fr = true then flatO z else flat z) && o.all outFlat) then .ok z (back ks xs o e1) else .bad
      | .err c x o => if (borIx ks xs).isEmpty || (flatX x && o.all outFlat) then .err c x (back ks xs o e1) else .bad
      | .bad => .bad)
    | none => .bad) else .bad
def eCall (ks : List PK) (F : List D → FR) (fs : Ev → Res (List RV)) : Ev → Res RV := fun e => (eCallF false ks F fs e).bind fun z e1 => .ok (.d z) e1
section
variable {k : Kn} {B G H : Hp} {e : Ev} {σ : L2.St}
theorem args_len : ∀ {ks : List PK} {xs : List RV} {ds : List D}, argsOf e ks xs = some ds → xs.length = ks.length ∧ ds.length = ks.length
  | [], [], _, h => by cases h; exact ⟨rfl, rfl⟩
  | q :: ks, x :: xs, ds, h => by
    unfold argsOf at h
    split at h
    · rename_i d ds' q1 q2
      cases h
      obtain ⟨h1, h2⟩ := args_len q2
      exact ⟨congrArg (· + 1) h1, congrArg (· + 1) h2⟩
    · cases h
  | [], _ :: _, _, h => by cases h
  | _ :: _, [], _, h => by cases h
theorem args_get : ∀ {ks : List PK} {xs : List RV} {ds : List D} {i : Nat} {q : PK} {d : D}, argsOf e ks xs = some ds → ks[i]? = some q → ds[i]? = some d → ∃ x, xs[i]? = some x ∧ argOf e q x = some d
  | q :: ks, x :: xs, ds, i, q', d', h, hq, hd => by
    unfold argsOf at h
    split at h
    · rename_i d ds' q1 q2
      cases h
      cases i with
      | zero =>
        rw [List.getElem?_cons_zero] at hq hd
        cases hq; cases hd
        exact ⟨x, rfl, q1⟩
      | succ i =>
        rw [List.getElem?_cons_succ] at hq hd ⊢
        exact args_get q2 hq hd
    · cases h
  | [], _, _, _, _, _, h, hq, _ => by simp at hq
  | _ :: _, [], _, _, _, _, h, _, _ => by cases h
theorem asInts_map : ∀ zs : List Int, asInts (zs.map D.int) = some zs
  | [] => rfl
  | z :: zs => by
    show (asInts (zs.map D.int)).map (z :: ·) = _
    rw [asInts_map zs]; rfl
theorem asHeap_heapD (zs : List Int) (s : Int) : asHeap (heapD zs s) = some (zs, s) := by
  show (asInts (zs.map D.int)).map _ = _
  rw [asInts_map]; rfl
theorem arg_sl {q : PK} {x : RV} {d : D} (h : argOf e q x = some d) : (q = .v ∧ de e x = some d ∧ slOf q d = some (.val d)) ∨ (∃ j, q = .o ∧ x = .at j ∧ e[j]? = some (.own d) ∧ slOf q d = some (.own d)) ∨ (∃ j zs s, q = .h ∧ x = .at j ∧ e[j]? = some (.heap zs s) ∧ slOf q d = some (.heap zs s)) := by
  cases q with
  | v => exact .inl ⟨rfl, h, rfl⟩
  | o =>
    cases x with
    | d _ => cases h
    | «at» j =>
      have h : (match e[j]? with
        | some (.own d) => if isTup d = true then none else some d
        | _ => none) = some d := h
      split at h
      · rename_i d' q1
        split at h
        · cases h
        · rename_i nt
          cases h
          refine .inr (.inl ⟨j, rfl, rfl, q1, ?_⟩)
          show (if isTup d = true then none else some (Sl.own d)) = _
          rw [if_neg nt]
      · cases h
  | h =>
    cases x with
    | d _ => cases h
    | «at» j =>
      have h : (match e[j]? with
        | some (.heap zs s) => some (heapD zs s)
        | _ => none) = some d := h
      split at h
      · rename_i zs s q1
        cases h
        exact .inr (.inr ⟨j, zs, s, rfl, rfl, q1, by show (asHeap (heapD zs s)).map _ = _; rw [asHeap_heapD]; rfl⟩)
      · cases h
theorem args_inits : ∀ {ks : List PK} {xs : List RV} {ds : List D}, argsOf e ks xs = some ds → ∃ e0, inits ks ds = some e0
  | [], [], _, h => by cases h; exact ⟨[], rfl⟩
  | q :: ks, x :: xs, ds, h => by
    unfold argsOf at h
    split at h
    · rename_i d ds' q1 q2
      cases h
      obtain ⟨e0, h0⟩ := args_inits q2
      have : ∃ s, slOf q d = some s := by
        rcases arg_sl q1 with ⟨_, _, h⟩ | ⟨_, _, _, _, h⟩ | ⟨_, _, _, _, _, _, h⟩ <;> exact ⟨_, h⟩
      obtain ⟨s, hs⟩ := this
      refine ⟨s :: e0, ?_⟩
      unfold inits
      rw [hs, h0]
    · cases h
  | [], _ :: _, _, h => by cases h
  | _ :: _, [], _, h => by cases h
theorem VRs.get : ∀ {xs : List RV} {vs : List V} {i : Nat} {x : RV}, VRs k G σ xs vs → xs[i]? = some x → ∃ v, vs[i]? = some v ∧ VR k G σ x v
  | [], _, _, _, _, h => by simp at h
  | x :: xs, _, i, y, ⟨v, ws, rfl, p, t⟩, h => by
    cases i with
    | zero => rw [List.getElem?_cons_zero] at h ⊢; cases h; exact ⟨v, rfl, p⟩
    | succ i => rw [List.getElem?_cons_succ] at h ⊢; exact VRs.get t h
theorem out_mem : ∀ {ks : List PK} {xs : List RV} {i j : Nat} {q : PK}, ks[i]? = some q → q.out = true → xs[i]? = some (.at j) → j ∈ outIx ks xs
  | [], _, _, _, _, h, _, _ => by simp at h
  | _ :: _, [], _, _, _, _, _, h => by simp at h
  | q :: ks, x :: xs, i, j, q', h, ho, hx => by
    cases i with
    | zero =>
      rw [List.getElem?_cons_zero] at h hx
      cases h; cases hx
      unfold outIx
      rw [if_pos ho]
      exact List.mem_cons_self
    | succ i =>
      rw [List.getElem?_cons_succ] at h hx
      have := out_mem h ho hx
      cases x with
      | d _ => exact this
      | «at» l =>
        unfold outIx
        split
        · exact List.mem_cons_of_mem _ this
        · exact this
theorem bor_mem : ∀ {ks : List PK} {xs : List RV} {i j : Nat} {q : PK}, ks[i]? = some q → q.out = false → xs[i]? = some (.at j) → j ∈ borIx ks xs
  | [], _, _, _, _, h, _, _ => by simp at h
  | _ :: _, [], _, _, _, _, _, h => by simp at h
  | q :: ks, x :: xs, i, j, q', h, ho, hx => by
    cases i with
    | zero =>
      rw [List.getElem?_cons_zero] at h hx
      cases h; cases hx
      unfold borIx
      rw [if_neg (by rw [ho]; exact Bool.false_ne_true)]
      exact List.mem_cons_self
    | succ i =>
      rw [List.getElem?_cons_succ] at h hx
      have := bor_mem h ho hx
      cases x with
      | d _ => exact this
      | «at» l =>
        unfold borIx
        split
        · exact this
        · exact List.mem_cons_of_mem _ this
theorem mem_out : ∀ {ks : List PK} {xs : List RV} {j : Nat}, j ∈ outIx ks xs → ∃ (i : Nat) (q : PK), ks[i]? = some q ∧ q.out = true ∧ xs[i]? = some (RV.at j)
  | [], _, _, h => by simp [outIx] at h
  | _ :: _, [], _, h => by simp [outIx] at h
  | q :: ks, .d _ :: xs, j, h => by
    obtain ⟨i, q', h1, h2, h3⟩ := mem_out (ks := ks) (xs := xs) h
    exact ⟨i + 1, q', h1, h2, h3⟩
  | q :: ks, .at l :: xs, j, h => by
    unfold outIx at h
    split at h
    · rename_i ho
      rcases List.mem_cons.mp h with rfl | h
      · exact ⟨0, q, rfl, ho, rfl⟩
      · obtain ⟨i, q', h1, h2, h3⟩ := mem_out (ks := ks) (xs := xs) h
        exact ⟨i + 1, q', h1, h2, h3⟩
    · obtain ⟨i, q', h1, h2, h3⟩ := mem_out (ks := ks) (xs := xs) h
      exact ⟨i + 1, q', h1, h2, h3⟩
theorem mem_bor : ∀ {ks : List PK} {xs : List RV} {j : Nat}, j ∈ borIx ks xs → ∃ (i : Nat) (q : PK), ks[i]? = some q ∧ q.out = false ∧ xs[i]? = some (RV.at j)
  | [], _, _, h => by simp [borIx] at h
  | _ :: _, [], _, h => by simp [borIx] at h
  | q :: ks, .d _ :: xs, j, h => by
    obtain ⟨i, q', h1, h2, h3⟩ := mem_bor (ks := ks) (xs := xs) h
    exact ⟨i + 1, q', h1, h2, h3⟩
  | q :: ks, .at l :: xs, j, h => by
    unfold borIx at h
    split at h
    · obtain ⟨i, q', h1, h2, h3⟩ := mem_bor (ks := ks) (xs := xs) h
      exact ⟨i + 1, q', h1, h2, h3⟩
    · rename_i ho
      rcases List.mem_cons.mp h with rfl | h
      · exact ⟨0, q, rfl, by cases e : q.out with | false => rfl | true => exact absurd e ho, rfl⟩
      · obtain ⟨i, q', h1, h2, h3⟩ := mem_bor (ks := ks) (xs := xs) h
        exact ⟨i + 1, q', h1, h2, h3⟩
theorem out_inj : ∀ {ks : List PK} {xs : List RV} {i i' j : Nat} {q q' : PK}, (outIx ks xs).Nodup → ks[i]? = some q → q.out = true → xs[i]? = some (.at j) → ks[i']? = some q' → q'.out = true → xs[i']? = some (.at j) → i = i'
  | [], _, _, _, _, _, _, _, h, _, _, _, _, _ => by simp at h
  | _ :: _, [], _, _, _, _, _, _, _, _, h, _, _, _ => by simp at h
  | p :: ks, x :: xs, i, i', j, q, q', nd, h1, h2, h3, g1, g2, g3 => by
    have nd' : (outIx ks xs).Nodup := by
      cases x with
      | d _ => exact nd
      | «at» l =>
        unfold outIx at nd
        split at nd
        · exact (List.nodup_cons.mp nd).2
        · exact nd
    have no : ∀ {i : Nat} {q : PK}, p.out = true → x = .at j → ks[i]? = some q → q.out = true → xs[i]? = some (.at j) → False := fun hp hx a b c => by
      subst hx
      unfold outIx at nd
      rw [if_pos hp] at nd
      exact (List.nodup_cons.mp nd).1 (out_mem a b c)
    cases i with
    | zero =>
      cases i' with
      | zero => rfl
      | succ i' =>
        rw [List.getElem?_cons_zero] at h1 h3
        rw [List.getElem?_cons_succ] at g1 g3
        cases h1; cases h3
        exact (no h2 rfl g1 g2 g3).elim
    | succ i =>
      cases i' with
      | zero =>
        rw [List.getElem?_cons_zero] at g1 g3
        rw [List.getElem?_cons_succ] at h1 h3
        cases g1; cases g3
        exact (no g2 rfl h1 h2 h3).elim
      | succ i' =>
        rw [List.getElem?_cons_succ] at h1 h3 g1 g3
        rw [out_inj nd' h1 h2 h3 g1 g2 g3]
theorem back_len : ∀ (ks : List PK) (xs : List RV) (os e : Ev), (back ks xs os e).length = e.length
  | [], _, _, _ => by unfold back; rfl
  | _ :: _, [], _, _ => by unfold back; rfl
  | _ :: _, .at _ :: _, [], _ => by unfold back; rfl
  | _ :: _, .d _ :: _, [], _ => by unfold back; rfl
  | _ :: ks, .d _ :: xs, _ :: os, e => by unfold back; exact back_len ks xs os e
  | q :: ks, .at j :: xs, s :: os, e => by
    unfold back
    split
    · rw [back_len ks xs os, List.length_set]
    · exact back_len ks xs os e
theorem back_get : ∀ {ks : List PK} {xs : List RV} {os e : Ev} {j : Nat} {t : Sl}, (outIx ks xs).Nodup → os.length = ks.length → xs.length = ks.length → (back ks xs os e)[j]? = some t → (j ∉ outIx ks xs ∧ e[j]? = some t) ∨ ∃ (i : Nat) (q : PK) (s : Sl), ks[i]? = some q ∧ q.out = true ∧ xs[i]? = some (RV.at j) ∧ os[i]? = some s ∧ t = s.outOnly
  | [], [], [], e, j, t, _, _, _, h => .inl ⟨by unfold outIx; exact List.not_mem_nil, by unfold back at h; exact h⟩
  | q :: ks, .d _ :: xs, s :: os, e, j, t, nd, h1, h2, h => by
    unfold back at h
    rcases back_get (ks := ks) (xs := xs) nd (Nat.succ.inj h1) (Nat.succ.inj h2) h with z | ⟨i, q', s', z⟩
    · exact .inl z
    · exact .inr ⟨i + 1, q', s', z⟩
  | q :: ks, .at l :: xs, s :: os, e, j, t, nd, h1, h2, h => by
    unfold back at h
    unfold outIx at nd ⊢
    by_cases ho : q.out = true
    · rw [if_pos ho] at h nd ⊢
      obtain ⟨n1, n2⟩ := List.nodup_cons.mp nd
      rcases back_get n2 (Nat.succ.inj h1) (Nat.succ.inj h2) h with ⟨z1, z2⟩ | ⟨i, q', s', z⟩
      · by_cases hj : l = j
        · subst hj
          refine .inr ⟨0, q, s, rfl, ho, rfl, rfl, ?_⟩
          have hl : l < e.length := by
            have := (List.getElem?_eq_some_iff.mp z2).1
            rw [List.length_set] at this
            exact this
          rw [List.getElem?_set_self hl] at z2
          exact (Option.some.inj z2).symm
        · rw [List.getElem?_set_ne hj] at z2
          exact .inl ⟨fun m => (List.mem_cons.mp m).elim (fun q => hj q.symm) z1, z2⟩
      · exact .inr ⟨i + 1, q', s', z⟩
    · rw [if_neg ho] at h nd ⊢
      rcases back_get nd (Nat.succ.inj h1) (Nat.succ.inj h2) h with z | ⟨i, q', s', z⟩
      · exact .inl z
      · exact .inr ⟨i + 1, q', s', z⟩
  | [], _ :: _, _, _, _, _, _, _, h, _ => by cases h
  | _ :: _, [], _, _, _, _, _, _, h, _ => by cases h
  | [], _, _ :: _, _, _, _, _, h, _, _ => by cases h
  | _ :: _, _, [], _, _, _, _, h, _, _ => by cases h
theorem Sl.outOnly_own {s t : Sl} (e : t = s.outOnly) (h : t.isOwn = true) : s = t := by
  unfold Sl.outOnly at e
  split at e
  · exact e.symm
  · subst e; cases h
open Classical in
/-- the store without the objects that are handed over -/
noncomputable def cutOut (H : Hp) (l : List Nat) (fp : Nat → List Addr) : Hp := fun b => if ∃ j ∈ l, b ∈ fp j then none else H b
open Classical in
/-- .. with the objects that are lent -/
noncomputable def lend (G H : Hp) (l : List Nat) (fp : Nat → List Addr) : Hp := fun b => if ∃ j ∈ l, b ∈ fp j then H b else G b
theorem cutOut_in {H : Hp} {l : List Nat} {fp : Nat → List Addr} {b : Addr} (h : ∃ j ∈ l, b ∈ fp j) : cutOut H l fp b = none := by unfold cutOut; rw [if_pos h]
theorem cutOut_no {H : Hp} {l : List Nat} {fp : Nat → List Addr} {b : Addr} (h : ¬ ∃ j ∈ l, b ∈ fp j) : cutOut H l fp b = H b := by unfold cutOut; rw [if_neg h]
theorem cutOut_same {H : Hp} {l : List Nat} {fp : Nat → List Addr} : L2.Same (cutOut H l fp) H := fun b o e => by
  unfold cutOut at e
  split at e
  · cases e
  · exact e
theorem lend_in {G H : Hp} {l : List Nat} {fp : Nat → List Addr} {b : Addr} (h : ∃ j ∈ l, b ∈ fp j) : lend G H l fp b = H b := by unfold lend; rw [if_pos h]
theorem lend_no {G H : Hp} {l : List Nat} {fp : Nat → List Addr} {b : Addr} (h : ¬ ∃ j ∈ l, b ∈ fp j) : lend G H l fp b = G b := by unfold lend; rw [if_neg h]
/-- what a call finds -/
theorem call_in {fp : Nat → List Addr} {ks : List PK} {xs : List RV} {vs : List V} {ds : List D} {e0 : Ev} (r : ERf k B G e σ H fp) (hx : VRs k G σ xs vs) (ok : okIx ks xs = true) (ha : argsOf e ks xs = some ds) (hi : inits ks ds = some e0) :
    vs.length = ks.length ∧ L2.Same G (lend G H (borIx ks xs) fp) ∧ ER (k.at (pinOf ks vs)) (cutOut H (outIx ks xs) fp) (lend G H (borIx ks xs) fp) e0 (vs.map some) H := by
  obtain ⟨hl1, hl2⟩ := args_len ha
  have hvl : vs.length = ks.length := hx.len.trans hl1
  unfold okIx at ok
  rw [Bool.and_eq_true] at ok
  obtain ⟨nd, dj⟩ := ok
  have nd : (outIx ks xs).Nodup := of_decide_eq_true nd
  have dj : ∀ j ∈ borIx ks xs, j ∉ outIx ks xs := fun j h m => by
    have := List.all_eq_true.mp dj j h
    rw [List.contains_iff_mem.mpr m] at this
    cases this
  have borOwn : ∀ j ∈ borIx ks xs, ∃ d, e[j]? = some (.own d) ∧ isTup d = false := fun j h => by
    obtain ⟨i, q, h1, h2, h3⟩ := mem_bor h
    have hi' : i < ds.length := by rw [hl2]; exact (List.getElem?_eq_some_iff.mp h1).1
    obtain ⟨x, g1, g2⟩ := args_get ha h1 (List.getElem?_eq_getElem hi')
    rw [h3] at g1
    cases g1
    cases q with
    | v =>
      have g2 : (match slD e[j]? with
        | some d => if isTup d = true then none else some d
        | none => none) = some ds[i] := g2
      cases q2 : e[j]? with
      | none => rw [q2] at g2; cases g2
      | some s =>
        rw [q2] at g2
        cases s with
        | own d =>
          refine ⟨d, rfl, ?_⟩
          cases ht : isTup d with
          | false => rfl
          | true =>
            have g2 : (if isTup d = true then none else some d) = some ds[i] := g2
            rw [ht, if_pos rfl] at g2
            cases g2
        | no => cases g2
        | val d => cases g2
        | heap zs s => cases g2
    | o => cases h2
    | h => cases h2
  have SG : L2.Same G (lend G H (borIx ks xs) fp) := fun b o eb => by
    by_cases hb : ∃ j ∈ borIx ks xs, b ∈ fp j
    · obtain ⟨j, hj, hbj⟩ := hb
      obtain ⟨d, h1, _⟩ := borOwn j hj
      rw [(r.free j _ b h1 rfl hbj).2] at eb
      cases eb
    · rw [lend_no hb]; exact eb
  -- an argument's slot
  have at_ : ∀ {i : Nat} {s : Sl}, e0[i]? = some s → ∃ q d x v, ks[i]? = some q ∧ xs[i]? = some x ∧ vs[i]? = some v ∧ VR k G σ x v ∧ ((q = .v ∧ de e x = some d ∧ s = .val d) ∨ (∃ j, q = .o ∧ x = .at j ∧ e[j]? = some (.own d) ∧ s = .own d) ∨ (∃ j zs z, q = .h ∧ x = .at j ∧ e[j]? = some (.heap zs z) ∧ s = .heap zs z)) := fun {i s} h => by
    obtain ⟨q, d, h1, h2, h3⟩ := inits_get hi h
    obtain ⟨x, g1, g2⟩ := args_get ha h1 h2
    obtain ⟨v, g3, g4⟩ := hx.get g1
    refine ⟨q, d, x, v, h1, g1, g3, g4, ?_⟩
    rcases arg_sl g2 with ⟨a, b, c⟩ | ⟨j, a, b, c, c'⟩ | ⟨j, zs, z, a, b, c, c'⟩
    · rw [c] at h3; exact .inl ⟨a, b, (Option.some.inj h3).symm⟩
    · rw [c'] at h3; exact .inr (.inl ⟨j, a, b, c, (Option.some.inj h3).symm⟩)
    · rw [c'] at h3; exact .inr (.inr ⟨j, zs, z, a, b, c, (Option.some.inj h3).symm⟩)
  have own_ : ∀ {i : Nat} {s : Sl}, e0[i]? = some s → s.isOwn = true → ∃ q j v, ks[i]? = some q ∧ q.out = true ∧ xs[i]? = some (RV.at j) ∧ vs[i]? = some v ∧ σ[j]? = some (some v) ∧ e[j]? = some s := fun {i s} h ho => by
    obtain ⟨q, d, x, v, h1, h2, h3, h4, h5⟩ := at_ h
    rcases h5 with ⟨_, _, rfl⟩ | ⟨j, rfl, rfl, g, rfl⟩ | ⟨j, zs, z, rfl, rfl, g, rfl⟩
    · cases ho
    · exact ⟨.o, j, v, h1, rfl, h2, h3, h4, g⟩
    · exact ⟨.h, j, v, h1, rfl, h2, h3, h4, g⟩
  refine ⟨hvl, SG, fun i => match xs[i]? with | some (.at j) => fp j | _ => [], by rw [List.length_map, inits_len hi, hvl], cutOut_same, fun b o eb => ?_, fun i d h => ?_, fun i s h ho => ?_, fun i s b h ho hb => ?_, fun i i' s t b ne h1 o1 h2 o2 hb hb' => ?_, fun i a h => ?_, fun _ _ _ _ q => by cases q⟩
  · by_cases hb : ∃ j ∈ borIx ks xs, b ∈ fp j
    · rw [lend_in hb] at eb; exact eb
    · rw [lend_no hb] at eb; exact r.vis b o eb
  · obtain ⟨q, d', x, v, h1, h2, h3, h4, h5⟩ := at_ h
    rcases h5 with ⟨rfl, g, z⟩ | ⟨j, _, _, _, z⟩ | ⟨j, zs, z', _, _, _, z⟩
    · cases z
      refine ⟨v, by rw [List.getElem?_map, h3]; rfl, ?_⟩
      cases x with
      | d x' =>
        cases g
        exact Rep.at (Rep.mono SG h4)
      | «at» j =>
        obtain ⟨d2, g1, g2⟩ := borOwn j (bor_mem h1 rfl h2)
        have gd : d2 = d := by
          have g : (match slD e[j]? with
            | some d => if isTup d = true then none else some d
            | none => none) = some d := g
          rw [g1] at g
          have g : (if isTup d2 = true then none else some d2) = some d := g
          rw [g2, if_neg Bool.false_ne_true] at g
          exact Option.some.inj g
        subst gd
        obtain ⟨a, k1, k2, o, k3, k4⟩ := r.own j _ g1 rfl
        rw [show σ[j]? = some (some v) from h4] at k1
        cases k1
        refine Rep.at ((k4.mono SG).rep ?_)
        rw [lend_in ⟨j, bor_mem h1 rfl h2, by rw [k2]; exact List.mem_cons_self⟩]
        exact k3
    · cases z
    · cases z
  · obtain ⟨q, j, v, h1, h2, h3, h4, h5, h6⟩ := own_ h ho
    obtain ⟨a, k1, k2⟩ := r.own j s h6 ho
    rw [h5] at k1
    cases k1
    refine ⟨a, by rw [List.getElem?_map, h4]; rfl, OwnR.at ?_⟩
    rw [h3]
    exact k2.keep SG fun _ _ _ q => q
  · obtain ⟨q, j, v, h1, h2, h3, h4, h5, h6⟩ := own_ h ho
    rw [h3] at hb
    have hb : b ∈ fp j := hb
    refine ⟨cutOut_in ⟨j, out_mem h1 h2 h3, hb⟩, ?_⟩
    by_cases hb2 : ∃ l ∈ borIx ks xs, b ∈ fp l
    · obtain ⟨l, hl, hbl⟩ := hb2
      obtain ⟨d, g1, _⟩ := borOwn l hl
      exact (r.sep j l s _ b (fun z => dj l hl (z ▸ out_mem h1 h2 h3)) h6 ho g1 rfl hb hbl).elim
    · rw [lend_no hb2]
      exact (r.free j s b h6 ho hb).2
  · obtain ⟨q, j, v, f1, f2, f3, f4, f5, f6⟩ := own_ h1 o1
    obtain ⟨q', j', v', g1, g2, g3, g4, g5, g6⟩ := own_ h2 o2
    rw [f3] at hb
    rw [g3] at hb'
    refine r.sep j j' s t b (fun z => ?_) f6 o1 g6 o2 hb hb'
    subst z
    exact ne (out_inj nd f1 f2 f3 g1 g2 g3)
  · have h : pinOf ks vs i = some a := h
    have : vs[i]? = some (V.ref a) := by
      unfold pinOf at h
      split at h
      · split at h
        · rename_i q; cases h; exact q
        · cases h
      · split at h
        · rename_i q; cases h; exact q
        · cases h
      · cases h
    rw [List.getElem?_map, this]
    rfl
end
end PD


set_option Elab.async false
set_option linter.all false
set_option maxRecDepth 100000
set_option maxHeartbeats 1000000
/-! PD13: behind a call; the rules for calls. -/
namespace PD
open PySem PySem.Spec PyProof.Rows L2 RK
section
variable {k : Kn} {B G H : Hp} {e : Ev} {σ : L2.St}
theorem none_of {H H' : Hp} (S : L2.Same H H') {a : Addr} (ha : H' a = none) : H a = none := by
  cases q : H a with
  | none => rfl
  | some u => rw [S _ _ q] at ha; cases ha
theorem okIx_dj {ks : List PK} {xs : List RV} (ok : okIx ks xs = true) : (outIx ks xs).Nodup ∧ ∀ j ∈ borIx ks xs, j ∉ outIx ks xs := by
  unfold okIx at ok
  rw [Bool.and_eq_true] at ok
  refine ⟨of_decide_eq_true ok.1, fun j h m => ?_⟩
  have := List.all_eq_true.mp ok.2 j h
  rw [List.contains_iff_mem.mpr m] at this
  cases this
theorem bor_own {ks : List PK} {xs : List RV} {ds : List D} (ha : argsOf e ks xs = some ds) : ∀ j ∈ borIx ks xs, ∃ d, e[j]? = some (.own d) ∧ isTup d = false := fun j h => by
  obtain ⟨hl1, hl2⟩ := args_len ha
  obtain ⟨i, q, h1, h2, h3⟩ := mem_bor h
  have hi' : i < ds.length := by rw [hl2]; exact (List.getElem?_eq_some_iff.mp h1).1
  obtain ⟨x, g1, g2⟩ := args_get ha h1 (List.getElem?_eq_getElem hi')
  rw [h3] at g1
  cases g1
  cases q with
  | v =>
    have g2 : (match slD e[j]? with
      | some d => if isTup d = true then none else some d
      | none => none) = some ds[i] := g2
    cases q2 : e[j]? with
    | none => rw [q2] at g2; cases g2
    | some s =>
      rw [q2] at g2
      cases s with
      | own d =>
        refine ⟨d, rfl, ?_⟩
        cases ht : isTup d with
        | false => rfl
        | true =>
          have g2 : (if isTup d = true then none else some d) = some ds[i] := g2
          rw [ht, if_pos rfl] at g2
          cases g2
      | no => cases g2
      | val d => cases g2
      | heap zs s => cases g2
  | o => cases h2
  | h => cases h2
theorem out_own {ks : List PK} {xs : List RV} {ds : List D} (ha : argsOf e ks xs = some ds) : ∀ j ∈ outIx ks xs, ∃ s, e[j]? = some s ∧ s.isOwn = true := fun j h => by
  obtain ⟨hl1, hl2⟩ := args_len ha
  obtain ⟨i, q, h1, h2, h3⟩ := mem_out h
  have hi' : i < ds.length := by rw [hl2]; exact (List.getElem?_eq_some_iff.mp h1).1
  obtain ⟨x, g1, g2⟩ := args_get ha h1 (List.getElem?_eq_getElem hi')
  rw [h3] at g1
  cases g1
  rcases arg_sl g2 with ⟨a, _⟩ | ⟨j', _, b, c, _⟩ | ⟨j', zs, z, _, b, c, _⟩
  · rw [a] at h2; cases h2
  · cases b; exact ⟨_, c, rfl⟩
  · cases b; exact ⟨_, c, rfl⟩
/-- the argument that hands a slot's object over -/
def Outs (ks : List PK) (xs : List RV) (j : Nat) : Prop := ∃ (i : Nat) (q : PK), ks[i]? = some q ∧ q.out = true ∧ xs[i]? = some (RV.at j)
open Classical in
noncomputable def fpOf (ks : List PK) (xs : List RV) (fpc fp : Nat → List Addr) : Nat → List Addr := fun j => if h : Outs ks xs j then fpc h.choose else fp j
theorem OwnR.lower {G' : Hp} (S : ∀ (b : Addr) (vs : List V), G b = some (.tup vs) → G' b = some (.tup vs)) {s : Sl} {a : Addr} {l : List Addr} (f : outFlat s = true) (h : OwnR k G H s a l) : OwnR k G' H s a l := by
  cases s with
  | own d => obtain ⟨h1, o, h2, h3⟩ := h; exact ⟨h1, o, h2, h3.lower S f⟩
  | heap zs s => exact h
  | no => exact h
  | val d => exact h
theorem call_out {fp : Nat → List Addr} {ks : List PK} {xs : List RV} {vs : List V} {ds : List D} (r : ERf k B G e σ H fp) (hx : VRs k G σ xs vs) (ok : okIx ks xs = true) (ha : argsOf e ks xs = some ds) {Bc Bn G2 H2 : Hp} {o2 : Ev}
    (rc : ER (k.at (pinOf ks vs)) Bc G2 o2 (vs.map some) H2) (g : Gr (cutOut H (outIx ks xs) fp) (lend G H (borIx ks xs) fp) G2) (S1 : L2.Same (cutOut H (outIx ks xs) fp) Bc) (S2 : L2.Same Bn Bc) (S3 : L2.Same B Bn)
    (hB : ∀ b u, Bn b = some u → B b = some u ∨ cutOut H (outIx ks xs) fp b = none) (hf : (borIx ks xs).isEmpty = true ∨ o2.all outFlat = true) :
    ∃ G3, ER k Bn G3 (back ks xs o2 e) σ H2 ∧ Gr B G G3 ∧ (∀ (b : Addr) (vs : List V), G2 b = some (.tup vs) → G3 b = some (.tup vs)) ∧ ((borIx ks xs).isEmpty = true → G3 = G2) ∧ ∀ b, G2 b = none → G3 b = none := by
  obtain ⟨nd, dj⟩ := okIx_dj ok
  obtain ⟨hl1, hl2⟩ := args_len ha
  have borOwn := bor_own (e := e) ha
  have outOwn := out_own (e := e) ha
  obtain ⟨_, SG, _⟩ := call_in r hx ok ha (args_inits ha).choose_spec
  obtain ⟨fpc, rc⟩ := rc
  have hol : o2.length = ks.length := by
    have := rc.len
    rw [List.length_map, hx.len, hl1] at this
    exact this.symm
  -- what stands nowhere in the objects handed over
  have kept : ∀ {b : Addr} {o : HO}, (¬ ∃ j ∈ outIx ks xs, b ∈ fp j) → H b = some o → H2 b = some o := fun {b o} hb eb => rc.base _ _ (S1 _ _ (by rw [cutOut_no hb]; exact eb))
  have nout : ∀ {i : Nat} {s : Sl} {b : Addr}, i ∉ outIx ks xs → e[i]? = some s → s.isOwn = true → b ∈ fp i → ¬ ∃ j ∈ outIx ks xs, b ∈ fp j := fun {i s b} hi h ho hb ⟨j, hj, hbj⟩ => by
    obtain ⟨t, h1, h2⟩ := outOwn j hj
    exact r.sep i j s t b (fun z => hi (z ▸ hj)) h ho h1 h2 hb hbj
  have there : ∀ {i : Nat} {s : Sl} {b : Addr}, e[i]? = some s → s.isOwn = true → b ∈ fp i → ∃ o, H b = some o := fun {i s b} h ho hb => by
    obtain ⟨a, _, h2⟩ := r.own i s h ho
    exact h2.there hb
  have SB : L2.Same B (cutOut H (outIx ks xs) fp) := fun b u eb => by
    rw [cutOut_no]
    · exact r.base _ _ eb
    · rintro ⟨j, hj, hbj⟩
      obtain ⟨t, h1, h2⟩ := outOwn j hj
      rw [(r.free j t b h1 h2 hbj).1] at eb
      cases eb
  have SGG : L2.Same G (cutOut G2 (borIx ks xs) fp) := fun b u eb => by
    rw [cutOut_no]
    · exact g.s _ _ (SG _ _ eb)
    · rintro ⟨j, hj, hbj⟩
      obtain ⟨d, h1, _⟩ := borOwn j hj
      rw [(r.free j _ b h1 rfl hbj).2] at eb
      cases eb
  have tups : ∀ (b : Addr) (vs : List V), G2 b = some (.tup vs) → cutOut G2 (borIx ks xs) fp b = some (.tup vs) := fun b us eb => by
    rw [cutOut_no]
    · exact eb
    · rintro ⟨j, hj, hbj⟩
      obtain ⟨d, h1, h2⟩ := borOwn j hj
      obtain ⟨a, _, h3, o, h4, h5⟩ := r.own j _ h1 rfl
      rw [h3, List.mem_singleton] at hbj
      subst hbj
      have := g.s b o (by rw [lend_in ⟨j, hj, by rw [h3]; exact List.mem_cons_self⟩]; exact h4)
      rw [eb] at this
      cases this
      cases h5
      cases h2
  have emp : (borIx ks xs).isEmpty = true → cutOut G2 (borIx ks xs) fp = G2 := fun h => by
    funext b
    rw [cutOut_no]
    rintro ⟨j, hj, _⟩
    rw [List.isEmpty_iff.mp h] at hj
    cases hj
  have pick : ∀ {j i : Nat} {q : PK}, ks[i]? = some q → q.out = true → xs[i]? = some (RV.at j) → ∀ (h : Outs ks xs j), h.choose = i := fun {j i q} h1 h2 h3 h => by
    obtain ⟨q', g1, g2, g3⟩ := h.choose_spec
    exact out_inj nd g1 g2 g3 h1 h2 h3
  have nopick : ∀ {j : Nat}, j ∉ outIx ks xs → ¬ Outs ks xs j := fun {j} hj ⟨i, q, h1, h2, h3⟩ => hj (out_mem h1 h2 h3)
  obtain ⟨fpn, fpe⟩ : ∃ fpn, fpn = fpOf ks xs fpc fp := ⟨_, rfl⟩
  have fpn_out : ∀ {j i : Nat} {q : PK}, ks[i]? = some q → q.out = true → xs[i]? = some (RV.at j) → fpn j = fpc i := fun {j i q} h1 h2 h3 => by
    have h : Outs ks xs j := ⟨i, q, h1, h2, h3⟩
    rw [fpe]
    unfold fpOf
    rw [dif_pos h, pick h1 h2 h3 h]
  have fpn_no : ∀ {j : Nat}, j ∉ outIx ks xs → fpn j = fp j := fun {j} hj => by
    rw [fpe]
    unfold fpOf
    rw [dif_neg (nopick hj)]
  have cls : ∀ {j : Nat} {t : Sl}, (back ks xs o2 e)[j]? = some t → t.isOwn = true → (j ∉ outIx ks xs ∧ e[j]? = some t ∧ fpn j = fp j) ∨ ∃ (i : Nat) (q : PK), ks[i]? = some q ∧ q.out = true ∧ xs[i]? = some (RV.at j) ∧ o2[i]? = some t ∧ fpn j = fpc i := fun {j t} h ho => by
    rcases back_get nd hol hl1 h with ⟨z1, z2⟩ | ⟨i, q, s, z1, z2, z3, z4, z5⟩
    · exact .inl ⟨z1, z2, fpn_no z1⟩
    · rw [Sl.outOnly_own z5 ho] at z4
      exact .inr ⟨i, q, z1, z2, z3, z4, fpn_out z1 z2 z3⟩
  refine ⟨cutOut G2 (borIx ks xs) fp, ⟨fpn, by rw [back_len]; exact r.len, S2.trans rc.base, cutOut_same.trans rc.vis, fun i d h => ?_, fun i s h ho => ?_, fun i s b h ho hb => ?_, fun i j s t b ne h1 o1 h2 o2' hb hb' => ?_, r.pin, fun dd f v d q => ⟨kept (fun ⟨j, hj, hbj⟩ => by
      obtain ⟨t, h1, h2⟩ := outOwn j hj
      obtain ⟨a, _, h3⟩ := r.own j t h1 h2
      exact h3.notX hbj (r.kept dd f v d q).1) (r.kept dd f v d q).1, (r.kept dd f v d q).2.mono SGG⟩⟩, ⟨SGG, fun b u eb => ?_⟩, tups, emp, fun b eb => ?_⟩
  · rcases back_get nd hol hl1 h with ⟨z1, z2⟩ | ⟨i', q, s, z1, z2, z3, z4, z5⟩
    · obtain ⟨v, h1, h2⟩ := r.val i d z2
      exact ⟨v, h1, h2.mono SGG⟩
    · unfold Sl.outOnly at z5
      split at z5
      · rename_i ho
        rw [← z5] at ho
        cases ho
      · cases z5
  · rcases cls h ho with ⟨z1, z2, z3⟩ | ⟨i', q, z1, z2, z3, z4, z5⟩
    · obtain ⟨a, h1, h2⟩ := r.own i s z2 ho
      rw [z3]
      exact ⟨a, h1, h2.keep SGG fun b hb o eo => kept (nout z1 z2 ho hb) eo⟩
    · obtain ⟨a, h1, h2⟩ := rc.own i' s z4 ho
      obtain ⟨v, g1, g2⟩ := hx.get z3
      rw [List.getElem?_map, g1] at h1
      cases h1
      refine ⟨a, g2, ?_⟩
      rw [z5]
      rcases hf with hf | hf
      · rw [emp hf]; exact OwnR.from h2
      · exact (OwnR.from h2).lower tups (List.all_eq_true.mp hf s (List.mem_of_getElem? z4))
  · rcases cls h ho with ⟨z1, z2, z3⟩ | ⟨i', q, z1, z2, z3, z4, z5⟩
    · rw [z3] at hb
      obtain ⟨f1, f2⟩ := r.free i s b z2 ho hb
      obtain ⟨u, hu⟩ := there z2 ho hb
      have hn := nout z1 z2 ho hb
      constructor
      · cases q : Bn b with
        | none => rfl
        | some w =>
          rcases hB b w q with z | z
          · rw [f1] at z; cases z
          · rw [cutOut_no hn, hu] at z; cases z
      · by_cases hb2 : ∃ j ∈ borIx ks xs, b ∈ fp j
        · exact cutOut_in hb2
        · rw [cutOut_no hb2]
          cases q : G2 b with
          | none => rfl
          | some w =>
            rcases g.n b w q with z | z
            · rw [lend_no hb2, f2] at z; cases z
            · rw [cutOut_no hn, hu] at z; cases z
    · rw [z5] at hb
      obtain ⟨f1, f2⟩ := rc.free i' s b z4 ho hb
      constructor
      · cases q : Bn b with
        | none => rfl
        | some w => rw [S2 _ _ q] at f1; cases f1
      · cases q : cutOut G2 (borIx ks xs) fp b with
        | none => rfl
        | some w => rw [cutOut_same _ _ q] at f2; cases f2
  · rcases cls h1 o1 with ⟨z1, z2, z3⟩ | ⟨i', q, z1, z2, z3, z4, z5⟩
    · rcases cls h2 o2' with ⟨y1, y2, y3⟩ | ⟨j', q', y1, y2, y3, y4, y5⟩
      · rw [z3] at hb
        rw [y3] at hb'
        exact r.sep i j s t b ne z2 o1 y2 o2' hb hb'
      · rw [z3] at hb
        rw [y5] at hb'
        obtain ⟨u, hu⟩ := there z2 o1 hb
        have := (rc.free j' t b y4 o2' hb').1
        rw [S1 b u (by rw [cutOut_no (nout z1 z2 o1 hb)]; exact hu)] at this
        cases this
    · rcases cls h2 o2' with ⟨y1, y2, y3⟩ | ⟨j', q', y1, y2, y3, y4, y5⟩
      · rw [z5] at hb
        rw [y3] at hb'
        obtain ⟨u, hu⟩ := there y2 o2' hb'
        have := (rc.free i' s b z4 o1 hb).1
        rw [S1 b u (by rw [cutOut_no (nout y1 y2 o2' hb')]; exact hu)] at this
        cases this
      · rw [z5] at hb
        rw [y5] at hb'
        refine rc.sep i' j' s t b (fun z => ?_) z4 o1 y4 o2' hb hb'
        subst z
        rw [z3] at y3
        cases y3
        exact ne rfl
  · have eb2 := cutOut_same _ _ eb
    have hb2 : ¬ ∃ j ∈ borIx ks xs, b ∈ fp j := fun h => by rw [cutOut_in h] at eb; cases eb
    rcases g.n b u eb2 with z | z
    · rw [lend_no hb2] at z; exact .inl z
    · refine .inr ?_
      cases q : B b with
      | none => rfl
      | some w => rw [SB _ _ q] at z; cases z
  · cases q : cutOut G2 (borIx ks xs) fp b with
    | none => rfl
    | some w => rw [cutOut_same _ _ q] at eb; cases eb
theorem base_cut {fp : Nat → List Addr} {ks : List PK} {xs : List RV} {ds : List D} (r : ERf k B G e σ H fp) (ha : argsOf e ks xs = some ds) : L2.Same B (cutOut H (outIx ks xs) fp) := fun b u eb => by
  rw [cutOut_no]
  · exact r.base _ _ eb
  · rintro ⟨j, hj, hbj⟩
    obtain ⟨t, h1, h2⟩ := out_own (e := e) ha j hj
    rw [(r.free j t b h1 h2 hbj).1] at eb
    cases eb
theorem Res.bind_assoc {α β γ : Type} (r : Res α) (f : α → Ev → Res β) (g : β → Ev → Res γ) : (r.bind f).bind g = r.bind fun x e => (f x e).bind g := by cases r <;> rfl
def callRes (fr : Bool) (ks : List PK) (F : List D → FR) (xs : List RV) (e1 : Ev) : Res D := if okIx ks xs = true then (match argsOf e1 ks xs with
    | some ds => (match F ds with
      | .ok z o => if (borIx ks xs).isEmpty || ((if fr = true then flatO z else flat z) && o.all outFlat) then .ok z (back ks xs o e1) else .bad
      | .err c x o => if (borIx ks xs).isEmpty || (flatX x && o.all outFlat) then .err c x (back ks xs o e1) else .bad
      | .bad => .bad)
    | none => .bad) else .bad
theorem eCallF_eq (fr : Bool) (ks : List PK) (F : List D → FR) (fs : Ev → Res (List RV)) (e : Ev) : eCallF fr ks F fs e = (fs e).bind (callRes fr ks F) := rfl
theorem Or.of_bool {a b : Bool} (h : (a || b) = true) : a = true ∨ b = true := by cases a <;> cases b <;> simp_all
theorem call_sp {W : WX} {Q : VK} {fr : Bool} {ks : List PK} {F : List D → FR} {xs : List RV} {vs : List V} (r : ER k B G e σ H) (hx : VRs k G σ xs vs)
    (p : match callRes fr ks F xs e with
      | .ok z e' => (fr = false → ∀ G' H' v, ER k B G' e' σ H' → Gr B G G' → Rep k G' z v → Q v H') ∧ (fr = true → ∀ G' H' a o, ER k (upd B a o) G' e' σ H' → Gr B G G' → B a = none → G' a = none → NodeO k G' z o → Q (.ref a) H')
      | .err c x e' => ∀ G' H' cls dd, ER k B G' e' σ H' → ExcAt k B G' H' c x cls dd → Gr B G G' → W cls dd σ H'
      | .bad => False) : spD k ks fr F vs H Q (WE W σ) := by
  obtain ⟨fp, r⟩ := r
  unfold callRes at p
  by_cases ok : okIx ks xs = true
  · rw [if_pos ok] at p
    cases ha : argsOf e ks xs with
    | none => rw [ha] at p; exact p.elim
    | some ds =>
      rw [ha] at p
      dsimp only at p
      obtain ⟨e0, hi⟩ := args_inits ha
      obtain ⟨hvl, SG, r0⟩ := call_in r hx ok ha hi
      have SB := base_cut r ha
      refine ⟨hvl, _, _, ds, e0, hi, r0, ?_⟩
      cases hF : F ds with
      | bad => rw [hF] at p; exact p.elim
      | ok z o =>
        rw [hF] at p
        dsimp only at p
        by_cases hc : ((borIx ks xs).isEmpty || ((if fr = true then flatO z else flat z) && o.all outFlat)) = true
        · rw [if_pos hc] at p
          have hf : (borIx ks xs).isEmpty = true ∨ o.all outFlat = true := (Or.of_bool hc).imp id fun h => ((Bool.and_eq_true _ _).mp h).2
          refine ⟨fun f G2 H2 v rc g hz => ?_, fun f G2 H2 a ob rc g hb hg n => ?_⟩
          · obtain ⟨G3, r3, g3, tups, emp, nn⟩ := call_out r hx ok ha rc g (L2.Same.refl _) SB (L2.Same.refl B) (fun b u q => .inl q) hf
            refine p.1 f G3 H2 v r3 g3 ?_
            rcases Or.of_bool hc with h | h
            · rw [emp h]; exact Rep.from hz
            · rw [f, if_neg Bool.false_ne_true] at h
              exact Rep.lower tups ((Bool.and_eq_true _ _).mp h).1 (Rep.from hz)
          · have ba : B a = none := by
              cases q : B a with
              | none => rfl
              | some u => rw [SB _ _ q] at hb; cases hb
            have S2 : L2.Same (upd B a ob) (upd (cutOut H (outIx ks xs) fp) a ob) := fun b u q => by
              by_cases h : b = a
              · subst h; rw [upd_same] at q ⊢; exact q
              · rw [upd_ne h] at q ⊢; exact SB _ _ q
            obtain ⟨G3, r3, g3, tups, emp, nn⟩ := call_out r hx ok ha rc g (RK.Same.upd hb) S2 (RK.Same.upd ba) (fun b u q => by
              by_cases h : b = a
              · subst h; exact .inr hb
              · rw [upd_ne h] at q; exact .inl q) hf
            refine p.2 f G3 H2 a ob r3 g3 ba (nn _ hg) ?_
            rcases Or.of_bool hc with h | h
            · rw [emp h]; exact NodeO.from n
            · rw [f, if_pos rfl] at h
              exact NodeO.lower tups ((Bool.and_eq_true _ _).mp h).1 (NodeO.from n)
        · rw [if_neg hc] at p; exact p.elim
      | err c x o =>
        rw [hF] at p
        dsimp only at p
        by_cases hc : ((borIx ks xs).isEmpty || (flatX x && o.all outFlat)) = true
        · rw [if_pos hc] at p
          have hf : (borIx ks xs).isEmpty = true ∨ o.all outFlat = true := (Or.of_bool hc).imp id fun h => ((Bool.and_eq_true _ _).mp h).2
          intro G2 H2 cls dd rc q g
          obtain ⟨G3, r3, g3, tups, emp, nn⟩ := call_out r hx ok ha rc g (L2.Same.refl _) SB (L2.Same.refl B) (fun b u q => .inl q) hf
          refine p G3 H2 cls dd r3 ⟨q.1, ?_⟩ g3
          cases x with
          | none => trivial
          | some y =>
            obtain ⟨n, a, f, v, h1, h2, h3, h4, h5, h6⟩ := q.2
            refine ⟨n, a, f, v, h1, h2, h3, h4, ?_, none_of SB h6⟩
            rcases Or.of_bool hc with h | h
            · rw [emp h]; exact Rep.from h5
            · exact Rep.lower tups ((Bool.and_eq_true _ _).mp h).1 (Rep.from h5)
        · rw [if_neg hc] at p; exact p.elim
  · rw [if_neg ok] at p; exact p.elim
variable {W : WX} {ks : List PK} {F : List D → FR} {fs : Ev → Res (List RV)} {Q : VK}
theorem call_semD (p : tD k W (eCall ks F fs) σ H Q) : tL k W fs σ H fun vs H1 => spD k ks false F vs H1 Q (WE W σ) := by
  obtain ⟨B, G, e, r, p⟩ := p
  refine ⟨B, G, e, r, ?_⟩
  unfold eCall at p
  rw [eCallF_eq, Res.bind_assoc] at p
  refine p.bind.imp fun G1 H1 e1 xs r1 S1 p1 vs hv => call_sp r1 hv ?_
  revert p1
  cases callRes false ks F xs e1 with
  | ok z e' => exact fun p1 => ⟨fun _ G' H' v r' S hz => p1 G' H' r' S v hz, fun q => by cases q⟩
  | err c x e' => exact fun p1 => p1
  | bad => exact fun p1 => p1
theorem call_semN (p : tN k W (eCallF true ks F fs) σ H Q) : tL k W fs σ H fun vs H1 => spD k ks true F vs H1 Q (WE W σ) := by
  obtain ⟨B, G, e, r, p⟩ := p
  refine ⟨B, G, e, r, ?_⟩
  rw [eCallF_eq] at p
  refine p.bind.imp fun G1 H1 e1 xs r1 S1 p1 vs hv => call_sp r1 hv ?_
  revert p1
  cases callRes true ks F xs e1 with
  | ok z e' => exact fun p1 => ⟨fun q => (by cases q), fun _ G' H' a o r' S h1 h2 n => p1 G' H' a o r' S h1 h2 n⟩
  | err c x e' => exact fun p1 => p1
  | bad => exact fun p1 => p1
variable {X : Cx} {j lv : Nat} {ps : List Str} {x : Str} {p0 pos : Pos} {a : Expr} {es : List Expr}
theorem pd_call (c : Cl X.prog X.w X.K X.mg X.base (CX X.prog X.w) lv x ps (spD k ks false F)) (hr : Room j X.A) (tk : Takes X W) (ha : PA X (a :: es) (tL k W fs)) (hk : lv ≤ j := by decide) (hg : Gl X x := by rfl) (hd : (x == ("__debug__" : Str)) = false := by decide +kernel)
    (he : starEach (a :: es) X.env = (false, eval a X.env) :: starEach es X.env := by rfl) (hp : (backTo pos (starEach es X.env)).any (·.1) = false := by rfl) : PE X (.Call (.Name x p0) (a :: es) [] pos) (tD k W (eCall ks F fs)) :=
  (pe_fS c hr hk (passAt tk) ha hg hd he hp).weak fun _ _ _ p => call_semD p
theorem pd_callN (c : Cl X.prog X.w X.K X.mg X.base (CX X.prog X.w) lv x ps (spD k ks true F)) (hr : Room j X.A) (tk : Takes X W) (ha : PA X (a :: es) (tL k W fs)) (hk : lv ≤ j := by decide) (hg : Gl X x := by rfl) (hd : (x == ("__debug__" : Str)) = false := by decide +kernel)
    (he : starEach (a :: es) X.env = (false, eval a X.env) :: starEach es X.env := by rfl) (hp : (backTo pos (starEach es X.env)).any (·.1) = false := by rfl) : PE X (.Call (.Name x p0) (a :: es) [] pos) (tN k W (eCallF true ks F fs)) :=
  (pe_fS c hr hk (passAt tk) ha hg hd he hp).weak fun _ _ _ p => call_semN p
end
end PD


set_option Elab.async false
set_option linter.all false
set_option maxRecDepth 100000
set_option maxHeartbeats 1000000
/-! PD14: methods, classes called, keywords. -/
namespace PD
open PySem PySem.Spec PyProof.Rows L2 RK
def tMeS (C : Addr) (m : Str) (sp : Sp) (E : L2.St → XK) (ta : TE) (t : TA) : TE := fun σ H Q => ta σ H fun x H1 => ∃ a dx fs, x = .ref a ∧ H1 a = some (.ins C dx fs) ∧ fs.lookup m = none ∧ t σ H1 fun vs H2 => sp (x :: vs) H2 Q (E σ)
def tMakeS (C : Addr) (sp : Sp) (E : L2.St → XK) (t : TA) : TE := fun σ H Q => t σ H fun vs H2 => ∀ x dx, H2 x = none → H2 dx = none → dx ≠ x →
  sp (.ref x :: vs) (upd (upd H2 dx (.own x)) x (.ins C dx [])) (fun v H3 => v = .non ∧ Q (.ref x) H3) (E σ)
section
variable {X : Cx} {CXt : CXT} {j k : Nat} {C : Addr} {ps : List Str} {sp : Sp} {m : Str} {pos apos : Pos} {o e : Expr} {es : List Expr} {ta : TE} {t : TA} {E : L2.St → XK}
theorem pe_meS {pl : Sem Bool} (c : Cm X.prog X.w X.K X.mg X.base CXt k C m ps sp) (cl : Cls X.K C) (hr : Room j X.A) (hk : k ≤ j) (hx : ∀ σ, PassesAt CXt X σ (E σ)) (he : PE X o ta) (ha : PA X (e :: es) t)
    (hst : starEach (e :: es) X.env = (false, eval e X.env) :: starEach es X.env := by rfl) (hpl : (backTo pos (starEach es X.env)).any (·.1) = false := by rfl)
    (ht : eval (.Call (.Attribute o m apos) (e :: es) [] pos) X.env = (do
      let ov ← eval o X.env
      standAt apos.atName
      let (f, first) ← holding [ov] (getMethod ov m pl)
      callWith pos f first (backTo pos (starEach (e :: es) X.env)) (backToKw pos (keywordEach [] X.env))) := by rfl) :
    PE X (.Call (.Attribute o m apos) (e :: es) [] pos) (tMeS C m sp E ta t) := by
  obtain ⟨f, fd, F, M, b⟩ := c.ex
  refine ⟨fun pins s σ H Q I h => ?_⟩
  rw [ht]
  refine wpAny_bind (thn (he.run pins s σ H _ I h) fun u s1 ⟨x, H1, I1, rx, a, dx, fs, ex, hah, hl, h2⟩ => ?_)
  subst ex
  cases (show u = Value.ref a from rx)
  obtain ⟨od, hi, hlk⟩ := ins_look (I1.hok a _ hah)
  have pg := cl.pg
  unfold PySem.W.plainGet at pg
  rw [Bool.and_eq_true, beq_iff_eq, beq_iff_eq] at pg
  refine wpAny_bind (wpAny_standAt (wpAny_bind (wpAny_holding (PySem.W.method_fn I1.kIn hi pg.1 pg.2 M.at_ ?_ ?_ ?_))))
  · exact beq_iff_eq.mp M.fn
  · show Option.map (fun x => x.isSome) (PySem.W.lookIn m od) = some false
    rw [hlk m hl]
    rfl
  · refine PySem.W.callWith_K (h₀ := X.base) I1.ok.mod.kin M.kp ?_ hst hpl
    refine thn (ha.run pos pins s1 σ H1 _ I1 h2) fun ws s2 ⟨zs, H2, I2, rz, q2⟩ => ⟨I2.kIn, ?_⟩
    exact run_fnS F (hr.mono hk) b (hx σ) I2 (.cons (show RelV (.ref a) (Value.ref a) from rfl) rz) q2
theorem pe_me0S {pl : Sem Bool} (c : Cm X.prog X.w X.K X.mg X.base CXt k C m ps sp) (cl : Cls X.K C) (hr : Room j X.A) (hk : k ≤ j) (hx : ∀ σ, PassesAt CXt X σ (E σ)) (he : PE X o ta)
    (ht : eval (.Call (.Attribute o m apos) [] [] pos) X.env = (do
      let ov ← eval o X.env
      standAt apos.atName
      let (f, first) ← holding [ov] (getMethod ov m pl)
      callWith pos f first (backTo pos (starEach [] X.env)) (backToKw pos (keywordEach [] X.env))) := by rfl) :
    PE X (.Call (.Attribute o m apos) [] [] pos) (tMeS C m sp E ta tNil) := by
  obtain ⟨f, fd, F, M, b⟩ := c.ex
  refine ⟨fun pins s σ H Q I h => ?_⟩
  rw [ht]
  refine wpAny_bind (thn (he.run pins s σ H _ I h) fun u s1 ⟨x, H1, I1, rx, a, dx, fs, ex, hah, hl, h2⟩ => ?_)
  subst ex
  cases (show u = Value.ref a from rx)
  obtain ⟨od, hi, hlk⟩ := ins_look (I1.hok a _ hah)
  have pg := cl.pg
  unfold PySem.W.plainGet at pg
  rw [Bool.and_eq_true, beq_iff_eq, beq_iff_eq] at pg
  refine wpAny_bind (wpAny_standAt (wpAny_bind (wpAny_holding (PySem.W.method_fn I1.kIn hi pg.1 pg.2 M.at_ ?_ ?_ ?_))))
  · exact beq_iff_eq.mp M.fn
  · show Option.map (fun x => x.isSome) (PySem.W.lookIn m od) = some false
    rw [hlk m hl]
    rfl
  · exact PySem.W.callWith_K0 I1.kIn M.kp (run_fnS F (hr.mono hk) b (hx σ) I1 (.cons (show RelV (.ref a) (Value.ref a) from rfl) .nil) h2)
variable {x : Str} {p : Pos}
theorem pe_clsS (c : Cc X.prog X.w X.K X.mg X.base CXt k x C ps sp) (hr : Room j X.A) (hk : k + 1 ≤ j) (hx : ∀ σ, PassesAt CXt X σ (E σ)) (ha : PA X (e :: es) t) (hg : Gl X x := by rfl) (hdb : (x == ("__debug__" : Str)) = false := by decide)
    (hst : starEach (e :: es) X.env = (false, eval e X.env) :: starEach es X.env := by rfl) (hpl : (backTo pos (starEach es X.env)).any (·.1) = false := by rfl) : PE X (.Call (.Name x p) (e :: es) [] pos) (tMakeS C sp E t) := by
  obtain ⟨f, fd, F, hm, M, b⟩ := c.ex
  refine ⟨fun pins s σ H Q I h => wpAny_Call_Name_kw (ld_glob I hg hm ?_ hdb)⟩
  refine PySem.W.callWith_K (h₀ := X.base) I.ok.mod.kin M.kp (thn (ha.run pos pins s σ H _ I h) fun ws s2 ⟨zs, H2, I2, rz, q2⟩ => ⟨I2.kIn, ?_⟩) hst hpl
  have q := q2 (s2.heap.objs.size + 1) s2.heap.objs.size (I2.hok.fresh (Nat.le_succ _)) (I2.hok.fresh (Nat.le_refl _)) (Nat.ne_of_lt (Nat.lt_succ_self _))
  have I3 := Inv.made (C := C) I2
  have r2 : Vals (V.ref (s2.heap.objs.size + 1) :: zs) (Value.ref (s2.heap.objs.size + 1) :: ws ++ []) := .cons rfl (by show Vals zs (ws ++ []); rw [List.append_nil]; exact rz)
  have hl : (Value.ref (s2.heap.objs.size + 1) :: ws ++ []).length = ps.length := r2.length.symm.trans (F.len _ _ _ _ q)
  refine wpAny_call (make_map (f := f) I2.kIn M.makes M.init (beq_iff_eq.mp M.fn) (codeAny_mono (F.run _ X.stack _ _ ⟨Value.ref (s2.heap.objs.size + 1) :: ws, []⟩ (Value.ref (s2.heap.objs.size + 1) :: ws ++ []) _ _ (E σ) ((hr.mono hk).make C ws [])
    (I3.env0.make C ws []) (b _ (Value.ref (s2.heap.objs.size + 1) :: ws) I3.kIn hl) r2 q) fun r s3 got => ?_))
  cases r with
  | error e => exact hx σ pins _ _ e s3 I3 got
  | ok fl =>
    cases fl with
    | ret u =>
      obtain ⟨v, H3, I4, rv, ev, q3⟩ := I3.after got
      subst ev
      exact ⟨rv, ⟨V.ref (s2.heap.objs.size + 1), H3, I4, rfl, q3⟩⟩
    | next => exact got.elim
    | brk => exact got.elim
    | cont => exact got.elim
end
/-! ### the store around a new instance -/
section
variable {k : Kn} {B G H : Hp} {e : Ev} {σ : L2.St}
theorem ER.fresh (r : ER k B G e σ H) {a : Addr} {o : HO} (ha : H a = none) : ER k (upd B a o) G e σ (upd H a o) := by
  obtain ⟨fp0, r0⟩ := r
  refine ⟨fp0, r0.len, fun c u q => ?_, r0.vis.trans (RK.Same.upd ha), fun i d h => r0.val i d h, fun i s h ho => ?_, fun i s c h ho hc => ?_, r0.sep, r0.pin, fun dd f v d q => ⟨RK.Same.upd ha _ _ (r0.kept dd f v d q).1, (r0.kept dd f v d q).2⟩⟩
  · by_cases hc : c = a
    · subst hc; rw [upd_same] at q ⊢; exact q
    · rw [upd_ne hc] at q ⊢; exact r0.base _ _ q
  · obtain ⟨a', h1, h2⟩ := r0.own i s h ho
    exact ⟨a', h1, h2.keep (L2.Same.refl G) fun c hc o' eo => RK.Same.upd ha _ _ eo⟩
  · obtain ⟨f1, f2⟩ := r0.free i s c h ho hc
    refine ⟨?_, f2⟩
    obtain ⟨a', _, h2⟩ := r0.own i s h ho
    obtain ⟨u, hu⟩ := h2.there hc
    rw [upd_ne (ne_of_none hu ha)]
    exact f1

theorem ER.none_ (r : ER k B G e σ H) {a : Addr} (ha : H a = none) : B a = none ∧ G a = none := ⟨none_of r.bs ha, none_of r.vis ha⟩
theorem set_end {α : Type} (x y : α) : ∀ l : List α, (l ++ [x]).set l.length y = l ++ [y]
  | [] => rfl
  | z :: l => congrArg (z :: ·) (set_end x y l)
/-- a slot's own object, taken out of its slot -/
theorem ER.take_ (r : ER k B G e σ H) {i : Nat} {d : D} (q : e[i]? = some (Sl.own d)) : ∃ a o, σ[i]? = some (some (.ref a)) ∧ H a = some o ∧ NodeO k G d o ∧ B a = none ∧ G a = none ∧ ER k (upd B a o) G (e.set i Sl.no) σ H := by
  obtain ⟨a, o, h1, h2, h3, h4, h5⟩ := r.own q
  refine ⟨a, o, h1, h2, h3, h4, h5, ?_⟩
  obtain ⟨fp, r0⟩ := r.drop i
  obtain ⟨fp1, r1⟩ := r
  refine ⟨fp1, ?_⟩
  have at_ : ∀ (j : Nat) (s : Sl), s ≠ .no → (e.set i Sl.no)[j]? = some s → j ≠ i ∧ e[j]? = some s := fun j s ho h => by
    by_cases hj : i = j
    · subst hj
      rw [List.getElem?_set_self (List.getElem?_eq_some_iff.mp q).1] at h; cases h; exact absurd rfl ho
    · rw [List.getElem?_set_ne hj] at h
      exact ⟨fun z => hj z.symm, h⟩
  have no : ∀ s : Sl, s.isOwn = true → s ≠ .no := fun s h z => by subst z; cases h
  have am : a ∈ fp1 i := by
    obtain ⟨a', g1, g2, _⟩ := r1.own i _ q rfl
    rw [h1] at g1
    cases g1
    rw [g2]
    exact List.mem_cons_self
  refine ⟨r0.len, fun b u qb => ?_, r1.vis, fun j d h => r1.val j d (at_ j _ (fun z => by cases z) h).2, fun j s h ho => r1.own j s (at_ j s (no s ho) h).2 ho, fun j s b h ho hb => ?_, fun j l s t b ne g1 ho1 g2 ho2 => r1.sep j l s t b ne (at_ j s (no s ho1) g1).2 ho1 (at_ l t (no t ho2) g2).2 ho2, r1.pin, r1.kept⟩
  · by_cases hb : b = a
    · subst hb; rw [upd_same] at qb; cases qb; exact h2
    · rw [upd_ne hb] at qb; exact r1.base _ _ qb
  · obtain ⟨hj, g2⟩ := at_ j s (no s ho) h
    have hba : b ≠ a := fun z => r1.sep j i s _ b hj g2 ho q rfl hb (z ▸ am)
    rw [upd_ne hba]
    exact r1.free j s b g2 ho hb
theorem ER.less {e0 : Ev} {σ0 : L2.St} {t : List (Option V)} (r : ER k B G e (σ0 ++ t) H) (he : e.take σ0.length = e0) (hp : ∀ (i : Nat) (a : Addr), k.pin i = some a → i < σ0.length) : ER k B G e0 σ0 H := by
  obtain ⟨fp, r⟩ := r
  have hl : (σ0 ++ t).length = e.length := r.len
  rw [List.length_append] at hl
  have at_ : ∀ {i : Nat} {s : Sl}, e0[i]? = some s → e[i]? = some s ∧ i < σ0.length := fun {i s} h => by
    rw [← he, List.getElem?_take] at h
    split at h
    · exact ⟨h, by assumption⟩
    · cases h
  have σ_ : ∀ {i : Nat} {v : Option V}, i < σ0.length → (σ0 ++ t)[i]? = some v → σ0[i]? = some v := fun {i v} hi h => by
    rw [List.getElem?_append_left hi] at h; exact h
  refine ⟨fp, by rw [← he, List.length_take]; omega, r.base, r.vis, fun i d h => ?_, fun i s h ho => ?_, fun i s b h ho => r.free i s b (at_ h).1 ho, fun i j s t' b ne h1 o1 h2 o2 => r.sep i j s t' b ne (at_ h1).1 o1 (at_ h2).1 o2, fun i a h => σ_ (hp i a h) (r.pin i a h), r.kept⟩
  · obtain ⟨v, h1, h2⟩ := r.val i d (at_ h).1
    exact ⟨v, σ_ (at_ h).2 h1, h2⟩
  · obtain ⟨a, h1, h2⟩ := r.own i s (at_ h).1 ho
    exact ⟨a, σ_ (at_ h).2 h1, h2⟩
theorem ER.pinned (r : ER k B G e σ H) : ∀ (i : Nat) (a : Addr), k.pin i = some a → i < σ.length := fun i a h => by
  obtain ⟨fp, r⟩ := r
  exact (List.getElem?_eq_some_iff.mp (r.pin i a h)).1
/-- one slot more, that holds a new object -/
theorem ER.slot {o : HO} {p : Addr} {d : D} (r : ER k (upd B p o) G e σ H) (hB : B p = none) (hG : G p = none) (n : NodeO k G d o) : ER k B G (e ++ [Sl.own d]) (σ ++ [some (.ref p)]) H := by
  have hl := r.len
  have hp : k.pin e.length = none := by
    cases q : k.pin e.length with
    | none => rfl
    | some a => have := r.pinned _ _ q; omega
  have h := (r.more 1).setOwn hB hG n e.length hp
  have e1 : (e ++ List.replicate 1 Sl.no).set e.length (Sl.own d) = e ++ [Sl.own d] := set_end _ _ e
  have e2 : (σ ++ List.replicate 1 (none : Option V)).set e.length (some (V.ref p)) = σ ++ [some (.ref p)] := by
    rw [← hl]; exact set_end _ _ σ
  rw [e1, e2] at h
  exact h
theorem VR.more {t : List (Option V)} {x : RV} {v : V} (h : VR k G σ x v) : VR k G (σ ++ t) x v := by
  cases x with
  | d x => exact h
  | «at» i =>
    have h : σ[i]? = some (some v) := h
    show (σ ++ t)[i]? = some (some v)
    rw [List.getElem?_append_left (List.getElem?_eq_some_iff.mp h).1]
    exact h
theorem VRs.more {t : List (Option V)} : ∀ {xs : List RV} {vs : List V}, VRs k G σ xs vs → VRs k G (σ ++ t) xs vs
  | [], _, h => h
  | _ :: _, _, ⟨v, ws, e, p, q⟩ => ⟨v, ws, e, p.more, q.more⟩
theorem RepF.look {f : Str} : ∀ {fs : List (Str × D)} {vs : List (Str × V)}, RepF k G fs vs → (∀ d, fs.lookup f = some d → ∃ v, vs.lookup f = some v ∧ Rep k G d v) ∧ (fs.lookup f = none → vs.lookup f = none)
  | _, _, .nil => ⟨fun d h => (by cases h), fun _ => rfl⟩
  | _, _, .cons (f := g) p q => by
    by_cases hf : (f == g) = true
    · simp only [List.lookup, hf]
      exact ⟨fun d h => (by cases h; exact ⟨_, rfl, p⟩), fun h => (by cases h)⟩
    · have hf : (f == g) = false := by cases z : (f == g) with | true => exact absurd z hf | false => rfl
      simp only [List.lookup, hf]
      exact q.look
end
end PD


set_option Elab.async false
set_option linter.all false
set_option maxRecDepth 100000
set_option maxHeartbeats 1000000
/-! PD15: methods, classes, keywords, fields, isinstance: by data. -/
namespace PD
open PySem PySem.Spec PyProof.Rows L2 RK
def recv (m : Str) (c : Str) (e : Ev) (x : RV) : Bool := match de e x with
  | some (.obj c' fs) => (c' == c) && (fs.lookup m).isNone
  | _ => false
/-- a method's call: the receiver is an instance of c -/
def eMethF (fr : Bool) (c m : Str) (ks : List PK) (F : List D → FR) (fo : Ev → Res RV) (fs : Ev → Res (List RV)) : Ev → Res D := fun e => (fo e).bind fun x e1 => if recv m c e1 x = true then (fs e1).bind fun xs e2 => callRes fr ks F (x :: xs) e2 else .bad
def eMeth (c m : Str) (ks : List PK) (F : List D → FR) (fo : Ev → Res RV) (fs : Ev → Res (List RV)) : Ev → Res RV := fun e => (eMethF false c m ks F fo fs e).bind fun z e1 => .ok (.d z) e1
def madeOf (n : Nat) : Res D → Res D
  | .ok .non e2 => (match e2[n]? with
    | some (.own d) => .ok d (e2.take n)
    | _ => .bad)
  | .err c x e2 => .err c x (e2.take n)
  | _ => .bad
def eMake (c : Str) (ks : List PK) (F : List D → FR) (fs : Ev → Res (List RV)) : Ev → Res D := fun e => (fs e).bind fun xs e1 => madeOf e1.length (callRes false (.o :: ks) F (.at e1.length :: xs) (e1 ++ [.own (.obj c [])]))
def lPerm (perm : List Nat) (fs : Ev → Res (List RV)) : Ev → Res (List RV) := fun e => (fs e).bind fun xs e1 => .ok (perm.filterMap (xs[·]?)) e1
section
variable {k : Kn} {B G H : Hp} {e : Ev} {σ : L2.St} {W : WX} {ks : List PK} {F : List D → FR} {fo : Ev → Res RV} {fs : Ev → Res (List RV)} {Q : VK} {C : Addr} {c m : Str}
theorem recv_node (r : ER k B G e σ H) {x : RV} {v : V} (hv : VR k G σ x v) (h : recv m c e x = true) (hc : k.cn c = some C) : ∃ a dx vs, v = .ref a ∧ H a = some (.ins C dx vs) ∧ vs.lookup m = none := by
  unfold recv at h
  split at h
  · rename_i c' fs q
    rw [Bool.and_eq_true] at h
    obtain ⟨a, C', dx, vs, h1, h2, h3, h4⟩ := (hv.de r q)
    have hcc : c' = c := beq_iff_eq.mp h.1
    subst hcc
    rw [hc] at h3
    cases h3
    refine ⟨a, dx, vs, h1, h2, h4.look.2 ?_⟩
    cases z : fs.lookup m with
    | none => rfl
    | some u => rw [z] at h; cases h.2
  · cases h
theorem meth_semD (hc : k.cn c = some C) (p : tD k W (eMeth c m ks F fo fs) σ H Q) : tMeS C m (spD k ks false F) (WE W) (tD k W fo) (tL k W fs) σ H Q := by
  obtain ⟨B, G, e, r, p⟩ := p
  refine ⟨B, G, e, r, ?_⟩
  unfold eMeth eMethF at p
  rw [Res.bind_assoc] at p
  refine p.bind.imp fun G1 H1 e1 x r1 S1 p1 v hv => ?_
  by_cases hr : recv m c e1 x = true
  · rw [if_pos hr, Res.bind_assoc] at p1
    obtain ⟨a, dx, vs, ev, ha, hl⟩ := recv_node r1 hv hr hc
    refine ⟨a, dx, vs, ev, ha, hl, B, G1, e1, r1, p1.bind.imp fun G2 H2 e2 xs r2 S2 p2 us hus => call_sp r2 (xs := x :: xs) ⟨v, us, rfl, hv.mono S2.s, hus⟩ ?_⟩
    revert p2
    cases callRes false ks F (x :: xs) e2 with
    | ok z e' => exact fun p2 => ⟨fun _ G' H' w r' S hz => p2 G' H' r' S w hz, fun q => by cases q⟩
    | err c x e' => exact fun p2 => p2
    | bad => exact fun p2 => p2
  · rw [if_neg hr] at p1; exact p1.elim
theorem meth_semN (hc : k.cn c = some C) (p : tN k W (eMethF true c m ks F fo fs) σ H Q) : tMeS C m (spD k ks true F) (WE W) (tD k W fo) (tL k W fs) σ H Q := by
  obtain ⟨B, G, e, r, p⟩ := p
  refine ⟨B, G, e, r, ?_⟩
  unfold eMethF at p
  refine p.bind.imp fun G1 H1 e1 x r1 S1 p1 v hv => ?_
  by_cases hr : recv m c e1 x = true
  · rw [if_pos hr] at p1
    obtain ⟨a, dx, vs, ev, ha, hl⟩ := recv_node r1 hv hr hc
    refine ⟨a, dx, vs, ev, ha, hl, B, G1, e1, r1, p1.bind.imp fun G2 H2 e2 xs r2 S2 p2 us hus => call_sp r2 (xs := x :: xs) ⟨v, us, rfl, hv.mono S2.s, hus⟩ ?_⟩
    revert p2
    cases callRes true ks F (x :: xs) e2 with
    | ok z e' => exact fun p2 => ⟨fun q => (by cases q), fun _ G' H' a o r' S h1 h2 n => p2 G' H' a o r' S h1 h2 n⟩
    | err c x e' => exact fun p2 => p2
    | bad => exact fun p2 => p2
  · rw [if_neg hr] at p1; exact p1.elim
theorem make_sem (hc : k.cn c = some C) (p : tN k W (eMake c ks F fs) σ H Q) : tMakeS C (spD k (.o :: ks) false F) (WE W) (tL k W fs) σ H Q := by
  obtain ⟨B, G, e, r, p⟩ := p
  refine ⟨B, G, e, r, ?_⟩
  unfold eMake at p
  refine p.bind.imp fun G1 H1 e1 xs r1 S1 p1 us hus x dx hx hdx hne => ?_
  have S2 : L2.Same H1 (upd H1 dx (.own x)) := RK.Same.upd hdx
  have hx2 : (upd H1 dx (.own x)) x = none := by rw [upd_ne (Ne.symm hne)]; exact hx
  have r2 : ER k B G1 e1 σ (upd H1 dx (.own x)) := r1.ext (Ext.hid r1.vis hdx)
  have r3 := r2.fresh (o := .ins C dx []) hx2
  obtain ⟨bx, gx⟩ := r2.none_ hx2
  have n0 : NodeO k G1 (.obj c []) (.ins C dx []) := .obj hc .nil
  have r4 := r3.slot bx gx n0
  have hl : σ.length = e1.length := r1.len
  have vx : VR k G1 (σ ++ [some (.ref x)]) (.at e1.length) (.ref x) := by
    show (σ ++ [some (V.ref x)])[e1.length]? = _
    rw [List.getElem?_append_right (by omega), ← hl, Nat.sub_self]; rfl
  have pins := r1.pinned
  refine call_sp (W := fun cls dd _ H' => W cls dd σ H') (xs := .at e1.length :: xs) r4 ⟨.ref x, us, rfl, vx, hus.more⟩ ?_
  revert p1
  generalize callRes false (.o :: ks) F (.at e1.length :: xs) (e1 ++ [.own (.obj c [])]) = z
  cases z with
  | bad => exact fun p1 => p1
  | err c' x' e2 => exact fun p1 G' H' cls dd r' q S => p1 G' H' cls dd (r'.less (by rw [hl]) pins) q S
  | ok z e2 =>
    intro p1
    refine ⟨fun _ G' H' v r' S hz => ?_, fun q => by cases q⟩
    cases z with
    | non =>
      cases hz
      refine ⟨rfl, ?_⟩
      have p1 : PostN k B σ W Q G1 (match e2[e1.length]? with
        | some (.own d) => .ok d (e2.take e1.length)
        | _ => .bad) := p1
      cases q : e2[e1.length]? with
      | none => rw [q] at p1; exact p1.elim
      | some s =>
        rw [q] at p1
        cases s with
        | own d =>
          obtain ⟨a, o, h1, h2, h3, h4, h5, r5⟩ := r'.take_ q
          have ea : a = x := by
            rw [show (σ ++ [some (V.ref x)])[e1.length]? = some (some (V.ref x)) from vx] at h1
            cases h1; rfl
          subst ea
          refine p1 G' H' a o (r5.less ?_ pins) S h4 h5 h3
          rw [hl, List.take_set_of_le (Nat.le_refl _)]
        | no => exact p1.elim
        | val d => exact p1.elim
        | heap zs s => exact p1.elim
    | _ => exact p1.elim
theorem VRs.perm {xs : List RV} {vs : List V} (h : VRs k G σ xs vs) : ∀ perm : List Nat, VRs k G σ (perm.filterMap (xs[·]?)) (perm.filterMap (vs[·]?))
  | [] => rfl
  | i :: perm => by
    have ih := VRs.perm h perm
    rw [List.filterMap_cons, List.filterMap_cons]
    by_cases hi : i < xs.length
    · obtain ⟨v, h1, h2⟩ := h.get (List.getElem?_eq_getElem hi)
      rw [List.getElem?_eq_getElem hi, h1]
      exact ⟨v, _, rfl, h2, ih⟩
    · rw [List.getElem?_eq_none (by omega), List.getElem?_eq_none (by rw [h.len]; omega)]
      exact ih
theorem perm_sem {perm : List Nat} {P : List V → Hp → Prop} (p : tL k W (lPerm perm fs) σ H P) : tL k W fs σ H fun zs H1 => P (perm.filterMap (zs[·]?)) H1 := by
  obtain ⟨B, G, e, r, p⟩ := p
  exact ⟨B, G, e, r, p.bind.imp fun G1 H1 e1 xs r1 S1 p1 vs hvs => p1 G1 H1 r1 (Gr.refl B G1) _ (hvs.perm perm)⟩
theorem tL_mono {P P' : List V → Hp → Prop} (p : tL k W fs σ H P) (w : ∀ vs H', P vs H' → P' vs H') : tL k W fs σ H P' := by
  obtain ⟨B, G, e, r, p⟩ := p
  exact ⟨B, G, e, r, p.imp fun G' H' e' x r' S q vs hv => w _ _ (q vs hv)⟩
variable {X : Cx} {j lv : Nat} {ps kws : List Str} {x : Str} {p0 pos apos : Pos} {o a : Expr} {es : List Expr} {kwl : List Keyword} {gV : List V → List V → List V} {perm : List Nat}
theorem pdk_nil : L2.PK X [] (tL k W lNil) := ⟨fun pos pins s σ H Q I q => pk_nil.run pos pins s σ H Q I (let ⟨B, G, e, r0, p⟩ := q; p G H r0 (Gr.refl B G) [] rfl)⟩
theorem pdk_cons {kpos : Pos} {nm : Option Str} {f : Ev → Res RV} (ha : PE X a (tD k W f)) (hr : L2.PK X kwl (tL k W fs)) : L2.PK X ({ arg := nm, value := a, pos := kpos } :: kwl) (tL k W (lCons f fs)) :=
  ⟨fun pos pins s σ H Q I q => (pk_cons ha hr).run pos pins s σ H Q I (by
    obtain ⟨B, G, e, r0, p⟩ := q
    exact ⟨B, G, e, r0, p.bind.imp fun G1 H1 e1 x r1 S1 p1 v hv => ⟨B, G1, e1, r1, p1.bind.imp fun G2 H2 e2 xs r2 S2 p2 vs hvs => p2 G2 H2 r2 (Gr.refl B G2) _ ⟨v, vs, rfl, hv.mono S2.s, hvs⟩⟩⟩)⟩
/-- a def called by keywords -/
theorem pd_kcall (c : Ck X.prog X.w X.K X.mg X.base (CX X.prog X.w) lv x ps kws gV (spD k ks false F)) (hr : Room j X.A) (tk : Takes X W) (ha : L2.PK X kwl (tL k W fs)) (hgv : ∀ zs, gV [] zs = perm.filterMap (zs[·]?)) (hk : lv ≤ j := by decide) (hg : Gl X x := by rfl)
    (hall : (backToKw pos (keywordEach kwl X.env)).all (·.1.isSome) = true := by rfl) (hks : (backToKw pos (keywordEach kwl X.env)).filterMap (·.1) = kws := by rfl) (hd : (x == ("__debug__" : Str)) = false := by decide +kernel)
    (hpl : ((backTo pos (starEach [] X.env)).any (·.1) || (backToKw pos (keywordEach kwl X.env)).any (·.1.isNone)) = false := by rfl) : PE X (.Call (.Name x p0) [] kwl pos) (tD k W (eCall ks F (lPerm perm fs))) :=
  (pe_kS c hr hk (passAt tk) ha hg hall hks hd hpl).weak fun σ H Q p => tL_mono (perm_sem (call_semD p)) fun vs H' q => by rw [hgv]; exact q
theorem pd_kcallN (c : Ck X.prog X.w X.K X.mg X.base (CX X.prog X.w) lv x ps kws gV (spD k ks true F)) (hr : Room j X.A) (tk : Takes X W) (ha : L2.PK X kwl (tL k W fs)) (hgv : ∀ zs, gV [] zs = perm.filterMap (zs[·]?)) (hk : lv ≤ j := by decide) (hg : Gl X x := by rfl)
    (hall : (backToKw pos (keywordEach kwl X.env)).all (·.1.isSome) = true := by rfl) (hks : (backToKw pos (keywordEach kwl X.env)).filterMap (·.1) = kws := by rfl) (hd : (x == ("__debug__" : Str)) = false := by decide +kernel)
    (hpl : ((backTo pos (starEach [] X.env)).any (·.1) || (backToKw pos (keywordEach kwl X.env)).any (·.1.isNone)) = false := by rfl) : PE X (.Call (.Name x p0) [] kwl pos) (tN k W (eCallF true ks F (lPerm perm fs))) :=
  (pe_kS c hr hk (passAt tk) ha hg hall hks hd hpl).weak fun σ H Q p => tL_mono (perm_sem (call_semN p)) fun vs H' q => by rw [hgv]; exact q
theorem pd_meth {pl : Sem Bool} (cm : Cm X.prog X.w X.K X.mg X.base (CX X.prog X.w) lv C m ps (spD k ks false F)) (cl : L2.Cls X.K C) (hc : k.cn c = some C) (hr : Room j X.A) (tk : Takes X W) (ho : PE X o (tD k W fo)) (ha : PA X (a :: es) (tL k W fs)) (hk : lv ≤ j := by decide)
    (hst : starEach (a :: es) X.env = (false, eval a X.env) :: starEach es X.env := by rfl) (hpl : (backTo pos (starEach es X.env)).any (·.1) = false := by rfl)
    (ht : eval (.Call (.Attribute o m apos) (a :: es) [] pos) X.env = (do
      let ov ← eval o X.env
      standAt apos.atName
      let (f, first) ← holding [ov] (getMethod ov m pl)
      callWith pos f first (backTo pos (starEach (a :: es) X.env)) (backToKw pos (keywordEach [] X.env))) := by rfl) : PE X (.Call (.Attribute o m apos) (a :: es) [] pos) (tD k W (eMeth c m ks F fo fs)) :=
  (pe_meS cm cl hr hk (passAt tk) ho ha hst hpl ht).weak fun _ _ _ p => meth_semD hc p
theorem nil_sem {P : List V → Hp → Prop} (p : tL k W lNil σ H P) : tNil σ H P := let ⟨B, G, e, r0, p⟩ := p; p G H r0 (Gr.refl B G) [] rfl
theorem pd_meth0 {pl : Sem Bool} (cm : Cm X.prog X.w X.K X.mg X.base (CX X.prog X.w) lv C m ps (spD k ks false F)) (cl : L2.Cls X.K C) (hc : k.cn c = some C) (hr : Room j X.A) (tk : Takes X W) (ho : PE X o (tD k W fo)) (hk : lv ≤ j := by decide)
    (ht : eval (.Call (.Attribute o m apos) [] [] pos) X.env = (do
      let ov ← eval o X.env
      standAt apos.atName
      let (f, first) ← holding [ov] (getMethod ov m pl)
      callWith pos f first (backTo pos (starEach [] X.env)) (backToKw pos (keywordEach [] X.env))) := by rfl) : PE X (.Call (.Attribute o m apos) [] [] pos) (tD k W (eMeth c m ks F fo lNil)) :=
  (pe_me0S cm cl hr hk (passAt tk) ho ht).weak fun σ H Q p => by
    obtain ⟨B, G, e, r, p⟩ := meth_semD hc p
    exact ⟨B, G, e, r, p.imp fun G' H' e' x r' S q v hv => let ⟨a, dx, fs, q1, q2, q3, q4⟩ := q v hv; ⟨a, dx, fs, q1, q2, q3, nil_sem q4⟩⟩
theorem pd_make (cc : Cc X.prog X.w X.K X.mg X.base (CX X.prog X.w) lv x C ps (spD k (.o :: ks) false F)) (hc : k.cn c = some C) (hr : Room j X.A) (tk : Takes X W) (ha : PA X (a :: es) (tL k W fs)) (hk : lv + 1 ≤ j := by decide) (hg : Gl X x := by rfl) (hd : (x == ("__debug__" : Str)) = false := by decide +kernel)
    (he : starEach (a :: es) X.env = (false, eval a X.env) :: starEach es X.env := by rfl) (hp : (backTo pos (starEach es X.env)).any (·.1) = false := by rfl) : PE X (.Call (.Name x p0) (a :: es) [] pos) (tN k W (eMake c ks F fs)) :=
  (pe_clsS cc hr hk (passAt tk) ha hg hd he hp).weak fun _ _ _ p => make_sem hc p
end
end PD


set_option Elab.async false
set_option linter.all false
set_option maxRecDepth 100000
set_option maxHeartbeats 1000000
/-! PD16: fields, isinstance, an own ==, raise. -/
namespace PD
open PySem PySem.Spec PyProof.Rows L2 RK
/-! ### fields -/
def fldD (cs : List Str) (f : Str) : D → Option D
  | .obj c fs => if cs.contains c = true then fs.lookup f else none
  | _ => none
def eFld (cs : List Str) (f : Str) (fo : Ev → Res RV) : Ev → Res RV := fun e => (fo e).bind fun x e1 => ofOpt ((de e1 x).bind fun d => (fldD cs f d).map RV.d) e1
structure FldOk (K : PySem.W.Frag) (cn : Str → Option Addr) (cs : List Str) (f : Str) : Prop where
  ok : ∀ c ∈ cs, ∀ C, cn c = some C → L2.Cls K C ∧ NoAttr K C f
def putFD (f : Str) (d : D) : List (Str × D) → List (Str × D)
  | [] => [(f, d)]
  | (g, x) :: r => if g = f then (g, d) :: r else (g, x) :: putFD f d r
def putFld (i : Nat) (cs : List Str) (f : Str) (e1 : Ev) (dv : D) : Option Sl → SR
  | some (.own (.obj c fs)) => if cs.contains c = true ∧ fs.length < 1000 then .nx (e1.set i (.own (.obj c (putFD f dv fs)))) else .bad
  | _ => .bad
def sFld (i : Nat) (cs : List Str) (f : Str) (g : Ev → Res RV) : Ev → SR := fun e => (g e).andS fun y e1 => match y with
  | .d dv => putFld i cs f e1 dv e1[i]?
  | .at _ => .bad
section
variable {k : Kn} {B G H : Hp} {e : Ev} {σ : L2.St} {W : WX} {fr : Bool} {Q : VK} {X : Cx} {a b o : Expr} {pos pos' apos : Pos} {f : Ev → Res RV} {g : Ev → Res RV}
theorem pd_fld {cs : List Str} {n : Str} (ho : PE X o (tD k W f)) (ok : FldOk k.K k.cn cs n) (hK : X.K = k.K) (ha : attributeBase o n X.env (eval o X.env) = eval o X.env := by rfl) : PE X (.Attribute o n pos) (tD k W (eFld cs n f)) :=
  (pe_fldK k.K ho ha hK).weak fun σ H Q ⟨B, G, e, r0, p⟩ => ⟨B, G, e, r0, p.bind.imp fun G1 H1 e1 x r1 S1 p1 v hv => by
    obtain ⟨z, q, p2⟩ := ofOpt_post p1
    rw [Option.bind_eq_some_iff] at q
    obtain ⟨d, q1, q⟩ := q
    rw [Option.map_eq_some_iff] at q
    obtain ⟨w, q, rfl⟩ := q
    have nd := hv.de r1 q1
    cases d with
    | obj c fs =>
      obtain ⟨a, C, dx, vs, h1, h2, h3, h4⟩ := nd
      have q : (if cs.contains c = true then fs.lookup n else none) = some w := q
      split at q
      · rename_i hc
        obtain ⟨u, h5, h6⟩ := h4.look.1 _ q
        obtain ⟨c1, c2⟩ := ok.ok c (List.contains_iff_mem.mp hc) C h3
        exact ⟨a, C, dx, vs, u, h1, h2, c1, c2, h5, p2 G1 H1 r1 (Gr.refl B G1) u h6⟩
      · cases q
    | _ => cases q⟩
theorem repF_put {n : Str} {d : D} {v : V} (h : Rep k G d v) : ∀ {fs : List (Str × D)} {vs : List (Str × V)}, RepF k G fs vs → RepF k G (putFD n d fs) (putF n v vs)
  | _, _, .nil => .cons h .nil
  | _, _, .cons (f := g) p q => by
    unfold putFD putF
    split
    · exact .cons h q
    · exact .cons p (repF_put h q)
theorem repF_len : ∀ {fs : List (Str × D)} {vs : List (Str × V)}, RepF k G fs vs → fs.length = vs.length
  | _, _, .nil => rfl
  | _, _, .cons _ q => congrArg (· + 1) (repF_len q)
theorem pds_fld {i : Nat} {cs : List Str} {n x : Str} {p0 : Pos} (hN : X.N[i]? = some x) (hv : Vis X.env.scope x) (hg : PE X b (tD k W g)) (ok : FldOk k.K k.cn cs n) (hK : X.K = k.K) (hs : swapsWith b (some (.Attribute (.Name x p0) n pos')) pos.line X.env = pure false := by rfl)
    (hd : (x == ("__debug__" : Str)) = false := by decide) (hcd : (x == ("__classdict__" : Str)) = false := by decide) : PS X (.Assign [.Attribute (.Name x p0) n pos'] b pos) (tS k W fr (sFld i cs n g)) :=
  (ps_fld (pe_var hN hv hd hcd) hg hs).weak fun D σ H ⟨B, G, e, r0, p⟩ => ⟨B, G, e, r0, p.bind.imp fun G1 H1 e1 y r1 S1 p1 v hv => by
    rw [hK]
    cases y with
    | «at» j => exact p1.elim
    | d dv =>
      have p1 : PostS k B W fr D G1 (putFld i cs n e1 dv e1[i]?) := p1
      cases q : e1[i]? with
      | none => rw [q] at p1; exact p1.elim
      | some s =>
        rw [q] at p1
        cases s with
        | no => exact p1.elim
        | val d => exact p1.elim
        | heap zs z => exact p1.elim
        | own d =>
          cases d with
          | obj c fs =>
            have p1 : PostS k B W fr D G1 (if cs.contains c = true ∧ fs.length < 1000 then .nx (e1.set i (.own (.obj c (putFD n dv fs)))) else .bad) := p1
            split at p1
            · rename_i hc
              obtain ⟨a, o, h1, h2, h3, h4, h5⟩ := r1.own q
              cases h3 with
              | obj hC hF =>
                rename_i C dx vs
                obtain ⟨c1, c2⟩ := ok.ok c (List.contains_iff_mem.mp hc.1) C hC
                exact ⟨_, h1, a, C, dx, vs, rfl, h2, c1, c2, by rw [← repF_len hF]; exact hc.2, p1 σ G1 _ (r1.write q h1 (.obj hC (repF_put hv hF))) (Gr.refl B G1)⟩
            · exact p1.elim
          | _ => exact p1.elim⟩
/-! ### isinstance -/
inductive DT where
  | ty (n : String) | cls (c : Str)
  deriving DecidableEq
def tyD : D → Option DT
  | .non => some (.ty "NoneType")
  | .bl _ => some (.ty "bool")
  | .int _ => some (.ty "int")
  | .str _ => some (.ty "str")
  | .tup _ => some (.ty "tuple")
  | .lst _ => some (.ty "list")
  | .dic _ _ => some (.ty "dict")
  | .obj c _ => some (.cls c)
  | _ => none
def tyNames : List String := ["NoneType", "bool", "int", "str", "tuple", "list", "dict"]
structure InsOk (K : PySem.W.Frag) (cn : Str → Option Addr) : Prop where
  ok : ∀ c C, cn c = some C → L2.Cls K C ∧ PySem.W.findIn K (.ref C) "__class__" = some (some (.builtin "object.__class__")) ∧ PySem.W.mroIn K C (.type "object") = some true
  sp : PySem.W.specialIn K (.builtin "object.__class__") "__get__" = some (some (.builtin "getset_descriptor.__get__"))
  tk : PySem.W.takesIn K (.builtin "object.__class__") = some true
structure IsOk (K : PySem.W.Frag) (cn : Str → Option Addr) (u : Value) (g : DT → Bool) : Prop where
  ty : ∀ n ∈ tyNames, PySem.W.kitOne K (.type n) u = some (g (.ty n))
  own : ∀ c C, cn c = some C → PySem.W.kitOne K (.ref C) u = some (g (.cls c))
theorem node_ty (io : InsOk k.K k.cn) {G H : Hp} {d : D} {v : V} {t : DT} (n : Node k G H d v) (S : L2.Same G H) (q : tyD d = some t) : ∃ T, TyX k.K H v T ∧ (match t with | .ty m => m ∈ tyNames ∧ T = .type m | .cls c => ∃ C, k.cn c = some C ∧ T = .ref C) := by
  cases d with
  | non => cases n; cases q; exact ⟨_, .base .non, by decide, rfl⟩
  | bl b => cases n; cases q; exact ⟨_, .base (.bl b), by decide, rfl⟩
  | int i => cases n; cases q; exact ⟨_, .base (.int i), by decide, rfl⟩
  | str s => cases n; cases q; exact ⟨_, .base (.str s), by decide, rfl⟩
  | tup ds => cases n with | tup a b c => cases q; exact ⟨_, .base (.tup (S _ _ a)), by decide, rfl⟩
  | lst ds => obtain ⟨a, vs, rfl, h, _⟩ := n; cases q; exact ⟨_, .base (.lst h), by decide, rfl⟩
  | dic t ks => obtain ⟨a, rfl, ⟨rfl, vs, h, _⟩ | ⟨rfl, vs, h, _⟩⟩ := n <;> cases q; exact ⟨_, .base (.dK h), by decide, rfl⟩; exact ⟨_, .base (.dT h), by decide, rfl⟩
  | obj c fs =>
    obtain ⟨a, C, dx, vs, rfl, h, hc, _⟩ := n
    cases q
    obtain ⟨o1, o2, o3⟩ := io.ok c C hc
    exact ⟨_, .base (.ins h o1 o2 io.sp io.tk o3), C, hc, rfl⟩
  | scr ns => cases q
def eIsi (g : DT → Bool) (f : Ev → Res RV) : Ev → Res RV := fun e => (f e).bind fun x e1 => ofOpt ((de e1 x).bind fun d => (tyD d).map fun t => RV.d (.bl (g t))) e1
theorem pd_isi {u : V} {uv : Value} {gT : DT → Bool} {x : Str} {p0 : Pos} (io : InsOk k.K k.cn) (ok : IsOk k.K k.cn uv gT) (hc : ClsV u uv) (ha : PE X a (tD k W f)) (hb : PE X b (tC u)) (hK : X.K = k.K) (hx : x = ("isinstance" : Str)) (hm : X.mg x = none) (hg : Gl X x := by rfl)
    (he : starEach [a, b] X.env = (false, eval a X.env) :: starEach [b] X.env := by rfl) (he2 : starEach [b] X.env = (false, eval b X.env) :: starEach [] X.env := by rfl) (hpl : (backTo pos (starEach [b] X.env)).any (·.1) = false := by rfl) : PE X (.Call (.Name x p0) [a, b] [] pos) (tD k W (eIsi gT f)) := by
  subst hx
  refine (pe_callB call_isi hg hm boot_isinstance (pa_cons ha (pa_cons hb pa_nil (hs := he2)) (hs := he)) (by decide) (by decide) he hpl).weak fun σ H Q ⟨B, G, e, r0, p⟩ => ⟨B, G, e, r0, p.bind.imp fun G1 H1 e1 x r1 S1 p1 v hv => ?_⟩
  obtain ⟨z, q, p2⟩ := ofOpt_post p1
  rw [Option.bind_eq_some_iff] at q
  obtain ⟨d, q1, q⟩ := q
  rw [Option.map_eq_some_iff] at q
  obtain ⟨t, q, rfl⟩ := q
  obtain ⟨T, h1, h2⟩ := node_ty io (hv.de r1 q1) r1.vis q
  refine ⟨v, u, T, uv, gT t, rfl, hc, hK ▸ h1, ?_, p2 G1 H1 r1 (Gr.refl B G1) _ (.bl _)⟩
  rw [hK]
  cases t with
  | ty m => obtain ⟨h2, rfl⟩ := h2; exact ok.ty m h2
  | cls c => obtain ⟨C, h2, rfl⟩ := h2; exact ok.own c C h2
end
end PD


set_option Elab.async false
set_option linter.all false
set_option maxRecDepth 100000
set_option maxHeartbeats 1000000
/-! PD17: an own ==, raise. -/
namespace PD
open PySem PySem.Spec PyProof.Rows L2 RK
theorem passesNo {X : Cx} : Passes (CX X.prog X.w) X (fun _ _ _ => False) := fun pins σ H s e s' I h => by
  obtain ⟨a, B, H', cls, d, _, _, _, _, _, _, _, f⟩ := h
  exact f.elim
/-! ### an own == -/
def tyO : D → Option DT
  | .non => some (.ty "NoneType")
  | .int _ => some (.ty "int")
  | .str _ => some (.ty "str")
  | .tup _ => some (.ty "tuple")
  | .lst _ => some (.ty "list")
  | .obj c _ => some (.cls c)
  | _ => none
def oNames : List String := ["NoneType", "int", "str", "tuple", "list"]
structure EqOk (K : PySem.W.Frag) (cn : Str → Option Addr) (C : Addr) : Prop where
  ty : ∀ n ∈ oNames, PySem.W.notFirst K C (.type n) = true
  own : ∀ c' C', cn c' = some C' → PySem.W.notFirst K C (.ref C') = true
def isC (c : Str) : D → Bool
  | .obj c' _ => c' == c
  | _ => false
def ownRes (neg : Bool) : Res D → Res RV
  | .ok (.bl b) e => .ok (.d (.bl (if neg = true then !b else b))) e
  | _ => .bad
def okTy (o : Option D) : Bool := ((o.bind tyO).isSome)
def eOwnEq (c : Str) (neg : Bool) (F : List D → FR) (f g : Ev → Res RV) : Ev → Res RV := fun e => (f e).bind fun x e1 => (g e1).bind fun y e2 =>
  if ((de e2 x).any (isC c) && okTy (de e2 y)) = true then ownRes neg (callRes false [.v, .v] F [x, y] e2) else .bad
section
variable {k : Kn} {B G H : Hp} {e : Ev} {σ : L2.St} {W : WX} {fr : Bool} {Q : VK} {X : Cx} {a b o : Expr} {pos pos' apos : Pos} {f : Ev → Res RV} {g : Ev → Res RV}
theorem node_tyO {d : D} {v : V} {t : DT} (n : Node k G H d v) (S : L2.Same G H) (q : tyO d = some t) : ∃ T, TyO H v T ∧ (match t with | .ty m => m ∈ oNames ∧ T = .type m | .cls c => ∃ C, k.cn c = some C ∧ T = .ref C) := by
  cases d with
  | non => cases n; cases q; exact ⟨_, .non, by decide, rfl⟩
  | int i => cases n; cases q; exact ⟨_, .int i, by decide, rfl⟩
  | str s => cases n; cases q; exact ⟨_, .str s, by decide, rfl⟩
  | tup ds => cases n with | tup a b c => cases q; exact ⟨_, .tup (S _ _ a), by decide, rfl⟩
  | lst ds => obtain ⟨a, vs, rfl, h, _⟩ := n; cases q; exact ⟨_, .lst h, by decide, rfl⟩
  | obj c fs =>
    obtain ⟨a, C, dx, vs, rfl, h, hc, _⟩ := n
    cases q
    exact ⟨_, .ins h, C, hc, rfl⟩
  | _ => cases q
theorem own_sem {C : Addr} {c : Str} {neg : Bool} {F : List D → FR} (hc : k.cn c = some C) (ok : EqOk k.K k.cn C) (hK : X.K = k.K) (p : tD k W (eOwnEq c neg F f g) σ H Q) : tOp (rOwnEq X.K C (spD k [.v, .v] false F) (fun _ _ _ => False) neg) (tD k W f) (tD k W g) σ H Q := by
  obtain ⟨B, G, e, r0, p⟩ := p
  refine ⟨B, G, e, r0, p.bind.imp fun G1 H1 e1 x r1 S1 p1 v hv => ⟨B, G1, e1, r1, p1.bind.imp fun G2 H2 e2 y r2 S2 p2 w hw => ?_⟩⟩
  by_cases hq : ((de e2 x).any (isC c) && okTy (de e2 y)) = true
  · rw [if_pos hq] at p2
    rw [Bool.and_eq_true] at hq
    obtain ⟨q1, q2⟩ := hq
    have hv2 := hv.mono S2.s
    cases z1 : de e2 x with
    | none => rw [z1] at q1; cases q1
    | some d1 =>
      cases z2 : de e2 y with
      | none => rw [z2] at q2; cases q2
      | some d2 =>
        rw [z1] at q1
        rw [z2] at q2
        have n1 := hv2.de r2 z1
        have n2 := hw.de r2 z2
        obtain ⟨t, ht⟩ := Option.isSome_iff_exists.mp (show (tyO d2).isSome = true from q2)
        obtain ⟨T, h1, h2⟩ := node_tyO n2 r2.vis ht
        cases d1 with
        | obj c' fs =>
          have q1 : (c' == c) = true := q1
          have hcc := beq_iff_eq.mp q1
          subst hcc
          obtain ⟨a, C', dx, vs, g1, g2, g3, g4⟩ := n1
          rw [hc] at g3
          cases g3
          refine ⟨a, dx, vs, T, g1, g2, h1, ?_, ?_⟩
          · rw [hK]
            cases t with
            | ty m => obtain ⟨h2, rfl⟩ := h2; exact ok.ty m h2
            | cls c => obtain ⟨C, h2, rfl⟩ := h2; exact ok.own c C h2
          · subst g1
            refine call_sp (W := fun _ _ _ _ => False) r2 (xs := [x, y]) ⟨_, _, rfl, hv2, w, [], rfl, hw, rfl⟩ ?_
            revert p2
            cases callRes false [.v, .v] F [x, y] e2 with
            | bad => exact fun p2 => p2
            | err c x e' => exact fun p2 => p2.elim
            | ok z e' =>
              intro p2
              refine ⟨fun _ G' H' v r' S hz => ?_, fun q => by cases q⟩
              cases z with
              | bl b =>
                cases hz
                exact ⟨b, rfl, p2 G' H' r' S _ (.bl _)⟩
              | _ => exact p2.elim
        | _ => cases q1
  · rw [if_neg hq] at p2; exact p2.elim
variable {C : Addr} {c : Str} {F : List D → FR} {j lv : Nat} {ps : List Str}
theorem pd_ownEq (ce : Ce X.prog X.w X.K X.mg X.base (CX X.prog X.w) lv C ps (spD k [.v, .v] false F)) (hc : k.cn c = some C) (ok : EqOk k.K k.cn C) (hK : X.K = k.K) (hr : Room j X.A) (ha : PE X a (tD k W f)) (hb : PE X b (tD k W g)) (hm : behindInMarks .Eq b = false) (hk : lv + 1 ≤ j := by decide) :
    PE X (.Compare a [.Eq] [b] pos) (tD k W (eOwnEq c false F f g)) := (pe_cmpR (op_eqO ce hr hk passesNo) ha hb hm).weak fun _ _ _ p => own_sem hc ok hK p
theorem pd_ownNe (ce : Ce X.prog X.w X.K X.mg X.base (CX X.prog X.w) lv C ps (spD k [.v, .v] false F)) (hc : k.cn c = some C) (ok : EqOk k.K k.cn C) (hK : X.K = k.K) (hr : Room j X.A) (ha : PE X a (tD k W f)) (hb : PE X b (tD k W g)) (hm : behindInMarks .NotEq b = false) (hk : lv + 1 ≤ j := by decide) :
    PE X (.Compare a [.NotEq] [b] pos) (tD k W (eOwnEq c true F f g)) := (pe_cmpR (op_neO ce hr hk passesNo) ha hb hm).weak fun _ _ _ p => own_sem hc ok hK p
theorem pdt_ownEq (ce : Ce X.prog X.w X.K X.mg X.base (CX X.prog X.w) lv C ps (spD k [.v, .v] false F)) (hc : k.cn c = some C) (ok : EqOk k.K k.cn C) (hK : X.K = k.K) (hr : Room j X.A) (ha : PE X a (tD k W f)) (hb : PE X b (tD k W g)) (hm : behindInMarks .Eq b = false) (hk : lv + 1 ≤ j := by decide) :
    PT X (.Compare a [.Eq] [b] pos) (tQ k W (qB (eOwnEq c false F f g))) := (pt_cmpR (op_eqO ce hr hk passesNo) ha hb hm).weak fun _ _ _ p => own_sem hc ok hK (q_of_d p)
theorem pdt_ownNe (ce : Ce X.prog X.w X.K X.mg X.base (CX X.prog X.w) lv C ps (spD k [.v, .v] false F)) (hc : k.cn c = some C) (ok : EqOk k.K k.cn C) (hK : X.K = k.K) (hr : Room j X.A) (ha : PE X a (tD k W f)) (hb : PE X b (tD k W g)) (hm : behindInMarks .NotEq b = false) (hk : lv + 1 ≤ j := by decide) :
    PT X (.Compare a [.NotEq] [b] pos) (tQ k W (qB (eOwnEq c true F f g))) := (pt_cmpR (op_neO ce hr hk passesNo) ha hb hm).weak fun _ _ _ p => own_sem hc ok hK (q_of_d p)
/-! ### raise -/
def sRaise (c : Str) (g : Ev → Res RV) : Ev → SR := fun e => (g e).andS fun y e1 => match y with
  | .d dv => .err (.own c) (some dv) e1
  | .at _ => .bad
theorem raise_sem {n : Str} (hc : k.en c = some C) (hf : k.fd c = some n) (ox : OexC X.K C) (no : PySem.W.findIn X.K (.ref C) n = some none) {D : Ends} (p : tS k W fr (sRaise c g) D σ H) :
    tMkO C (spIni X.K n) [] (tCons (tD k W g) tNil) σ H fun cls d H' => W cls d σ H' := by
  obtain ⟨B, G, e, r0, p⟩ := p
  refine ⟨B, G, e, r0, p.bind.imp fun G1 H1 e1 y r1 S1 p1 v hv => ⟨(by show 1 ≤ 1000; decide), fun a ha => ?_⟩⟩
  cases y with
  | «at» j => exact p1.elim
  | d dv =>
    refine ⟨a, C, v, rfl, ox, no, upd_same, fun dx hdx hne => ⟨rfl, dx, [(n, v)], upd_same, ?_, ?_, ?_⟩⟩
    · rw [upd_ne hne, upd_same]
    · rw [upd_ne hne] at hdx
      exact hdx
    · rw [upd_ne hne] at hdx
      have eH : upd (del (upd (upd (upd H1 a (exo a C none)) dx (exd dx [(n, v)])) a (exo a C (some dx))) a) dx (HO.xd [(n, v)]) = upd H1 dx (HO.xd [(n, v)]) := by
        funext b
        by_cases hb : b = dx
        · subst hb; rw [upd_same, upd_same]
        · rw [upd_ne hb, upd_ne hb]
          unfold del
          by_cases hba : b = a
          · subst hba; rw [if_pos rfl, ha]
          · rw [if_neg hba, upd_ne hba, upd_ne hb, upd_ne hba]
      rw [eH]
      have hv : Rep k G1 dv v := hv
      exact p1 σ G1 _ _ _ (r1.ext (Ext.hid r1.vis hdx)) ⟨⟨C, hc, rfl⟩, c, dx, n, v, rfl, hf, rfl, upd_same, hv, (r1.none_ hdx).1⟩ (Gr.refl B G1)
variable {fI : Addr} {fd : FuncData} {n x : Str} {p0 : Pos} {CXt : CXT}
theorem pds_raise (T : ErrC X.K X.mg x n C fI) (F1 : FnOk X.prog X.w X.K X.mg X.base CX0 lv fI fd ["self", n] (spIni X.K n)) (hb : L2.Binds X.K fd ["self", n] []) (hc : k.en c = some C) (hf : k.fd c = some n) (hr : Room j X.A) (hcalm : X.calm = true) (tk : Takes X W) (he : PE X a (tD k W g)) (hk : lv + 1 ≤ j := by decide)
    (hg : Gl X x := by rfl) (hd : (x == ("__debug__" : Str)) = false := by decide) (hst : starEach [a] X.env = (false, eval a X.env) :: starEach [] X.env := by rfl) (hpl : (backTo pos (starEach [] X.env)).any (·.1) = false := by rfl) :
    PS X (.Raise (some (.Call (.Name x p0) [a] [] pos)) none pos') (tS k W fr (sRaise c g)) :=
  (ps_raise1 T F1 (hr.mono hk) hb (fun _ _ _ _ _ _ _ h => h.elim) hcalm tk he hg hd hst hpl).weak fun _ _ _ p => raise_sem hc hf T.oex T.no p
end
end PD


set_option Elab.async false
set_option linter.all false
set_option maxRecDepth 100000
set_option maxHeartbeats 1000000
/-! PD18: try. -/
namespace PD
open PySem PySem.Spec PyProof.Rows L2 RK
structure Hd where
  sel : Str → Bool
  slot : Option Nat
  g : Str → Option D → Ev → SR
def slotNo (i : Option Nat) (e : Ev) : Ev := match i with
  | some j => e.set j .no
  | none => e
def slotIn (i : Option Nat) (e : Ev) : Bool := match i with
  | some j => decide (j < e.length)
  | none => true
def finE (i : Option Nat) : SR → SR
  | .nx e => .nx (slotNo i e)
  | .bk e => .bk (slotNo i e)
  | .ct e => .ct (slotNo i e)
  | .rt z e => .rt z e
  | _ => .bad
def handle : List Hd → Str → Option D → Ev → SR
  | [], c, x, e => .err (.own c) x e
  | h :: hs, c, x, e => if h.sel c = true then (if slotIn h.slot e = true then finE h.slot (h.g c x (slotNo h.slot e)) else .bad) else handle hs c x e
def sTry (b : Ev → SR) (hs : List Hd) : Ev → SR := fun e => match b e with
  | .err (.own c) x e1 => handle hs c x e1
  | .err (.blt _) _ _ => .bad
  | r => r
def pinE (p : Nat → Option Addr) (i : Option Nat) (a : Addr) : Nat → Option Addr := match i with
  | some j => fun l => if l = j then some a else p l
  | none => p
def KpOk (k : Kn) (c : Str) (x : Option D) (d : Option Addr) (kp : Option (Addr × Str × V × D)) : Prop := match x with
  | none => kp = none
  | some y => ∃ dd f v, d = some dd ∧ k.fd c = some f ∧ kp = some (dd, f, v, y)
/-- inside a clause -/
abbrev Kn.cl (k : Kn) (i : Option Nat) (a : Addr) (kp : Option (Addr × Str × V × D)) : Kn := { k with pin := pinE k.pin i a, kp := kp }
section
variable {k : Kn} {B G H : Hp} {e : Ev} {σ : L2.St} {W Wout : WX} {fr : Bool} {X : Cx}
theorem ER.cv {k' : Kn} (hK : k'.K = k.K) (hC : k'.cn = k.cn) (hp : ∀ j a, k'.pin j = some a → σ[j]? = some (some (.ref a))) (hk : ∀ dd f v d, k'.kp = some (dd, f, v, d) → H dd = some (.xd [(f, v)]) ∧ Rep k' G d v) (r : ER k B G e σ H) : ER k' B G e σ H := by
  obtain ⟨fp, r⟩ := r
  refine ⟨fp, r.len, r.base, r.vis, fun i d h => ?_, fun i s h ho => ?_, r.free, r.sep, hp, hk⟩
  · obtain ⟨v, h1, h2⟩ := r.val i d h
    exact ⟨v, h1, h2.cv hK hC⟩
  · obtain ⟨a, h1, h2⟩ := r.own i s h ho
    exact ⟨a, h1, h2.cv hK hC⟩
/-- a slot that holds no data -/
theorem ER.any (r : ER k B G e σ H) (i : Nat) (x : Option V) (hp : k.pin i = none) : ER k B G (e.set i .no) (σ.set i x) H :=
  (r.drop i).agr (vs := [i]) ⟨List.length_set, fun j hj => List.getElem?_set_ne fun z => hj (by rw [z]; exact List.mem_cons_self)⟩ (fun j hj s hs => by
    rw [List.mem_singleton] at hj
    subst hj
    by_cases hl : j < e.length
    · rw [List.getElem?_set_self hl] at hs; cases hs; rfl
    · rw [List.getElem?_eq_none (by rw [List.length_set]; omega)] at hs; cases hs) (fun j hj => by rw [List.mem_singleton] at hj; rw [hj]; exact hp)
def pinFreeE (k : Kn) (i : Option Nat) : Prop := match i with
  | some j => k.pin j = none
  | none => True
/-- into a clause -/
theorem ER.into {i : Option Nat} {a : Addr} {c : Str} {x : Option D} {cls : Value} {d : Option Addr} (r : ER k B G e σ H) (hi : slotIn i e = true) (hpf : pinFreeE k i) (q : ExcAt k B G H (.own c) x cls d) :
    ∃ kp, KpOk k c x d kp ∧ ER (k.cl i a kp) B G (slotNo i e) (putE i (some (.ref a)) σ) H := by
  have key : ∀ kp, (∀ dd f v y, kp = some (dd, f, v, y) → H dd = some (.xd [(f, v)]) ∧ Rep k G y v) → ER (k.cl i a kp) B G (slotNo i e) (putE i (some (.ref a)) σ) H := fun kp hkp => by
    cases i with
    | none => exact ER.cv (k := k) (k' := k.cl none a kp) rfl rfl (by obtain ⟨fp, r⟩ := r; exact r.pin) (fun dd f v y e => ⟨(hkp dd f v y e).1, Rep.cv (k := k) (k' := k.cl none a kp) rfl rfl (hkp dd f v y e).2⟩) r
    | some j =>
      have r1 := r.any j (some (.ref a)) hpf
      refine ER.cv (k := k) (k' := k.cl (some j) a kp) rfl rfl (fun l b hl => ?_) (fun dd f v y e => ⟨(hkp dd f v y e).1, Rep.cv (k := k) (k' := k.cl (some j) a kp) rfl rfl (hkp dd f v y e).2⟩) r1
      have hl : (if l = j then some a else k.pin l) = some b := hl
      by_cases hj : l = j
      · rw [if_pos hj] at hl
        cases hl
        rw [hj]
        exact List.getElem?_set_self (by rw [r.len]; exact of_decide_eq_true hi)
      · rw [if_neg hj] at hl
        obtain ⟨fp, r1⟩ := r1
        exact r1.pin l b hl
  cases x with
  | none => exact ⟨none, rfl, key none fun _ _ _ _ z => by cases z⟩
  | some y =>
    obtain ⟨n, dd, f, v, h1, h2, h3, h4, h5, _⟩ := q.2
    cases h1
    exact ⟨some (dd, f, v, y), ⟨dd, f, v, h3, h2, rfl⟩, key _ fun dd' f' v' y' z => by cases z; exact ⟨h4, h5⟩⟩
/-- and out of it -/
theorem ER.outof {i : Option Nat} {a : Addr} {kp : Option (Addr × Str × V × D)} (hpf : pinFreeE k i) (hkp : k.kp = none) (r : ER (k.cl i a kp) B G e σ H) : ER k B G e σ H := by
  refine ER.cv (k := k.cl i a kp) (k' := k) rfl rfl (fun j b hj => ?_) (fun dd f v d z => by rw [hkp] at z; cases z) r
  obtain ⟨fp, r⟩ := r
  refine r.pin j b ?_
  cases i with
  | none => exact hj
  | some l =>
    have hpf : k.pin l = none := hpf
    show (if j = l then some a else k.pin j) = some b
    by_cases hl : j = l
    · subst hl; rw [hpf] at hj; cases hj
    · rw [if_neg hl]; exact hj
theorem ER.leaveE {i : Option Nat} {a : Addr} {kp : Option (Addr × Str × V × D)} (hpf : pinFreeE k i) (hkp : k.kp = none) (r : ER (k.cl i a kp) B G e σ H) : ER k B G (slotNo i e) (putE i none σ) H := by
  have r1 : ER k B G e σ H := r.outof hpf hkp
  cases i with
  | none => exact r1
  | some j => exact r1.any j none hpf
theorem PostS.outof {i : Option Nat} {a : Addr} {kp : Option (Addr × Str × V × D)} {D : Ends} (hpf : pinFreeE k i) (hkp : k.kp = none) {r : SR} (p : PostS k B W fr D G (finE i r)) : PostS (k.cl i a kp) B (fun _ _ _ _ => False) fr (endsE i D) G r := by
  cases r with
  | nx e' => exact fun σ' G' H' r S => p _ G' H' (r.leaveE hpf hkp) S
  | bk e' => exact fun σ' G' H' r S => p _ G' H' (r.leaveE hpf hkp) S
  | ct e' => exact fun σ' G' H' r S => p _ G' H' (r.leaveE hpf hkp) S
  | rt z e' => exact ⟨fun f σ' G' H' v r S hz => p.1 f σ' G' H' v (r.outof hpf hkp) S (Rep.cv (k := k.cl i a kp) (k' := k) rfl rfl hz), fun f σ' G' H' b o r S h1 h2 n => p.2 f σ' G' H' b o (r.outof hpf hkp) S h1 h2 (NodeO.cv (k := k.cl i a kp) (k' := k) rfl rfl n)⟩
  | err c x e' => exact p.elim
  | bad => exact p.elim
/-- a clause's reading -/
def tCl (k : Kn) (fr : Bool) (h : Hd) (a : Addr) (cls : Value) (d : Option Addr) : TS := fun D σ H => ∃ c C x kp, h.sel c = true ∧ k.en c = some C ∧ cls = .ref C ∧ KpOk k c x d kp ∧ tS (k.cl h.slot a kp) (fun _ _ _ _ => False) fr (h.g c x) D σ H
def clzs (k : Kn) (fr : Bool) : List Hd → List Value → List Clz
  | h :: hs, v :: vs => (v, h.slot, tCl k fr h) :: clzs k fr hs vs
  | _, _ => []
inductive HdsOk (X : Cx) (k : Kn) (fr : Bool) : List ExceptHandler → List Hd → List Value → Prop
  | nil : HdsOk X k fr [] [] []
  | cons {x : Str} {n : Option Str} {h : Hd} {b₀ : Stmt} {suite : List Stmt} {np pos' : Pos} {hds : List ExceptHandler} {l : List Hd} {cv : Value} {cvs : List Value} (hc : Names X x cv) (sl : SlotOf X n h.slot) (hp : pinFreeE k h.slot)
      (hx : ∀ c C, k.en c = some C → PySem.W.exmOne X.K (.ref C) cv = some (h.sel c))
      (hsu : ∀ (a : Addr) (oe : Obj) (cls : Value) (d : Option Addr) (pn : List (Addr × Obj)) (c : Str) (C : Addr) (x : Option D) (kp : Option (Addr × Str × V × D)), Zc cls d oe → (∃ vs, oe.data = .fields vs) → h.sel c = true → k.en c = some C → cls = .ref C → KpOk k c x d kp →
        PSs (X.suite a ((a, oe) :: pn)) (b₀ :: suite) (tS (k.cl h.slot a kp) (fun _ _ _ _ => False) fr (h.g c x))) (r : HdsOk X k fr hds l cvs) :
      HdsOk X k fr (.ExceptHandler (some (.Name x np)) n (b₀ :: suite) pos' :: hds) (h :: l) (cv :: cvs)
theorem HdsOk.clz {es : List ExceptHandler} {hs : List Hd} {cvs : List Value} (h : HdsOk X k fr es hs cvs) : ClzOk X es (clzs k fr hs cvs) := by
  induction h with
  | nil => exact .nil
  | cons hc sl hp hx hsu r ih =>
    exact .cons hc sl (fun a oe cls d pn hz hf => ⟨fun pins s σ H D I ⟨c, C, x, kp, h1, h2, h3, h4, h5⟩ => (hsu a oe cls d pn c C x kp hz hf h1 h2 h3 h4).run pins s σ H D I h5⟩) ih
theorem handle_sem {es : List ExceptHandler} {hs : List Hd} {cvs : List Value} (ok : HdsOk X k fr es hs cvs) (hkp : k.kp = none) {D : Ends} {c : Str} {x : Option PD.D} {cls : Value} {d : Option Addr} (r : ER k B G e σ H) (q : ExcAt k B G H (.own c) x cls d) (p : PostS k B Wout fr D G (handle hs c x e)) :
    wClz X.K Wout D (clzs k fr hs cvs) cls d σ H := by
  induction ok with
  | nil => exact p σ G H cls d r q (Gr.refl B G)
  | @cons x' n h b₀ suite np pos' hds l cv cvs hc sl hp hx hsu rr ih =>
    obtain ⟨C, h1, h2⟩ := q.1
    refine ⟨h.sel c, by rw [h2]; exact hx c C h1, fun hs => ?_, fun hs => ?_⟩
    · have p : PostS k B Wout fr D G (if h.sel c = true then (if slotIn h.slot e = true then finE h.slot (h.g c x (slotNo h.slot e)) else .bad) else handle l c x e) := p
      rw [if_pos hs] at p
      split at p
      · rename_i hi
        intro a ha
        obtain ⟨kp, k1, k2⟩ := r.into (a := a) hi hp q
        exact ⟨c, C, x, kp, hs, h1, h2, k1, B, G, _, k2, p.outof hp hkp⟩
      · exact p.elim
    · have p : PostS k B Wout fr D G (if h.sel c = true then (if slotIn h.slot e = true then finE h.slot (h.g c x (slotNo h.slot e)) else .bad) else handle l c x e) := p
      rw [if_neg (by rw [hs]; exact Bool.false_ne_true)] at p
      exact ih p
theorem pds_try {body : List Stmt} {k0 : ExceptHandler} {ks : List ExceptHandler} {hs : List Hd} {cvs : List Value} {pos : Pos} {gb : Ev → SR} (stk : X.stack = X.env :: X.outer) (frm : X.env.frame = some X.env.locals) (nd : X.N.Nodup) (tk : Takes X Wout) (hkp : k.kp = none)
    (hb : ∀ (W : WX) (pn : List (Addr × Obj)) (xe : Value → Shared → Prop), Takes (X.tr pn xe) W → PassesOwn (model X.prog X.w) X.A X.env xe → PSs (X.tr pn xe) body (tS k W fr gb)) (hh : HdsOk X k fr (k0 :: ks) hs cvs) : PS X (.Try body (k0 :: ks) [] [] pos) (tS k Wout fr (sTry gb hs)) :=
  (ps_try_clz (tb := fun W => tS k W fr gb) stk frm nd tk hb hh.clz).weak fun D σ H ⟨B, G, e, r, p⟩ => by
    refine ⟨B, G, e, r, ?_⟩
    unfold sTry at p
    revert p
    cases gb e with
    | err c x e' =>
      cases c with
      | blt n => exact fun p => p.elim
      | own c => exact fun p σ' G' H' cls dd r' q S => handle_sem hh hkp r' q (p.mono S)
    | nx e' => exact fun p => p
    | bk e' => exact fun p => p
    | ct e' => exact fun p => p
    | rt z e' => exact fun p => p
    | bad => exact fun p => p
end
end PD


set_option Elab.async false
set_option linter.all false
set_option maxRecDepth 100000
set_option maxHeartbeats 1000000
/-! PD19: comprehensions with two loops, of dicts. -/
namespace PD
open PySem PySem.Spec PyProof.Rows L2 RK
open Classical in
/-- the inner loop -/
noncomputable def lcI (s : D → Ev → Option Ev) (q : Ev → Res Bool) (h : Ev → Res RV) (ck : Ev → Prop) (vs : List Nat) : List D → List D → Ev → Res (List D)
  | [], acc, e => .ok acc e
  | d :: ds, acc, e => match s d e with
    | none => .bad
    | some e1 => match q e1 with
      | .ok b e2 => if b = true then (match h e2 with
          | .ok (.d z) e3 => if ck (wipeE e3 vs) ∧ acc.length < 10000000 then lcI s q h ck vs ds (acc ++ [z]) (wipeE e3 vs) else .bad
          | _ => .bad)
        else if ck (wipeE e2 vs) then lcI s q h ck vs ds acc (wipeE e2 vs) else .bad
      | _ => .bad
noncomputable def lcIs (s : D → Ev → Option Ev) (q : Ev → Res Bool) (h : Ev → Res RV) (vs : List Nat) (acc : List D) (x : List D × Src) (e : Ev) : Res (List D) := match x.2 with
  | .seen => lcI s q h (fun _ => True) vs x.1 acc (wipeE e vs)
  | .own _ _ => .bad
open Classical in
/-- the outer loop -/
noncomputable def lcO (s : D → Ev → Option Ev) (q : Ev → Res Bool) (f1 : Ev → Res (List D × Src)) (s1 : D → Ev → Option Ev) (q1 : Ev → Res Bool) (h : Ev → Res RV) (ck : Ev → Prop) (vs vs1 : List Nat) : List D → List D → Ev → Res D
  | [], acc, e => .ok (.lst acc) e
  | d :: ds, acc, e => match s d e with
    | none => .bad
    | some e1 => match q e1 with
      | .ok b e2 => if b = true then (match f1 e2 with
          | .ok x e3 => (match lcIs s1 q1 h vs1 acc x e3 with
            | .ok acc' e4 => if ck (wipeE e4 vs) ∧ acc'.length ≤ 10000000 then lcO s q f1 s1 q1 h ck vs vs1 ds acc' (wipeE e4 vs) else .bad
            | _ => .bad)
          | _ => .bad)
        else if ck (wipeE e2 vs) then lcO s q f1 s1 q1 h ck vs vs1 ds acc (wipeE e2 vs) else .bad
      | _ => .bad
open Classical in
noncomputable def eLc2 (f : Ev → Res (List D × Src)) (s : D → Ev → Option Ev) (q : Ev → Res Bool) (f1 : Ev → Res (List D × Src)) (s1 : D → Ev → Option Ev) (q1 : Ev → Res Bool) (h : Ev → Res RV) (vs vs1 : List Nat) : Ev → Res D := fun e => (f e).bind fun x e1 => match x.2 with
  | .seen => lcO s q f1 s1 q1 h (fun _ => True) vs vs1 x.1 [] (wipeE e1 vs)
  | .own j d => if j ∈ vs then .bad else lcO s q f1 s1 q1 h (fun e => e[j]? = some (Sl.own d)) vs vs1 x.1 [] (wipeE e1 vs)
section
variable {k : Kn} {X : Cx} {W : WX} {fr : Bool}
/-- behind an inner loop -/
def PostI (k : Kn) (B : Hp) (σ : L2.St) (Dl : Addr) (Nx : Hp → Prop) (G : Hp) : Res (List D) → Prop
  | .ok acc e' => ∀ G' H' ws, ER k (upd B Dl (.lst ws)) G' e' σ H' → Gr B G G' → G' Dl = none → RepAll k G' acc ws → Nx H'
  | _ => False
theorem PostI.mono {B : Hp} {σ : L2.St} {Dl : Addr} {Nx : Hp → Prop} {G G' : Hp} {r : Res (List D)} (S : Gr B G G') (h : PostI k B σ Dl Nx G r) : PostI k B σ Dl Nx G' r := by
  cases r with
  | ok acc e' => exact fun G2 H2 ws r S2 => h G2 H2 ws r (S.trans S2)
  | err c x e' => exact h
  | bad => exact h
theorem lcI_sem {J : It} {ds : List D} {C : Hp → Ev → L2.St → Prop} {ck : Ev → Prop} (it : ItD k J ds C) {s : D → Ev → Option Ev} {ws vs : List Nat} {q : Ev → Res Bool} {h : Ev → Res RV} {B G : Hp} {e : Ev} {σ : L2.St} {H1 : Hp} {Dl : Addr} {acc0 : List D} {ws0 : List V} {Nx : Hp → Prop}
    (cm : ∀ G1 G2 e1 e2, L2.Same G1 G2 → ck e2 → C G1 e1 (wipe σ vs) → C G2 e2 (wipe σ vs)) (sub : ∀ i ∈ ws, i ∈ vs) (pn : ∀ i ∈ vs, k.pin i = none)
    (r : ER k (upd B Dl (.lst ws0)) G (wipeE e vs) (wipe σ vs) H1) (bD : B Dl = none) (gD0 : G Dl = none) (ra0 : RepAll k G acc0 ws0) (hc : C G (wipeE e vs) (wipe σ vs)) (p : PostI k B (wipe σ vs) Dl Nx G (lcI s q h ck vs ds acc0 (wipeE e vs))) :
    ∃ Wv : Nat → Nat → Hp → Prop, (∃ m, Wv 0 m H1) ∧ ∀ i m H, Wv i m H →
      (J.stop i H ∧ Nx H) ∨ (J.go i H ∧ ∃ Nx1 : Hp → Prop, (∀ H', Nx1 H' → ∃ m', m' < m ∧ Wv (i + 1) m' H') ∧ ∀ x H', J.yld i H x H' → gD k s ws x (wipe σ vs) H' fun σ2 H2 => wipe σ2 vs = wipe σ vs ∧ tQ k W0 q σ2 H2 fun b H3 =>
        if b = true then tD k W0 h σ2 H3 fun y H4 => ∃ acc, H4 Dl = some (.lst acc) ∧ acc.length < sizeLine ∧ Nx1 (upd H4 Dl (.lst (acc ++ [y]))) else Nx1 H3) := by
  have SB : ∀ {o : HO}, L2.Same B (upd B Dl o) := RK.Same.upd bD
  let St := fun (i : Nat) (H : Hp) => ∃ G' e' acc ws', ER k (upd B Dl (.lst ws')) G' e' (wipe σ vs) H ∧ G' Dl = none ∧ RepAll k G' acc ws' ∧ (∀ j ∈ vs, ∀ s : Sl, e'[j]? = some s → s = .no) ∧ C G' e' (wipe σ vs) ∧ PostI k B (wipe σ vs) Dl Nx G' (lcI s q h ck vs (ds.drop i) acc e')
  refine ⟨fun i m H => m = ds.length - i ∧ i ≤ ds.length ∧ St i H, ⟨_, rfl, Nat.zero_le _, G, wipeE e vs, acc0, ws0, r, gD0, ra0, fun j hj s hs => wipeE_no hj hs, hc, p⟩, ?_⟩
  rintro i m Hi ⟨rfl, hi, G1, e1, acc, ws', r1, g1, ra, no, c1, p1⟩
  by_cases hlt : i < ds.length
  · refine .inr ⟨it.go r1 c1 hlt, St (i + 1), fun H' st => ⟨_, by omega, rfl, hlt, st⟩, fun x H2 y => ?_⟩
    obtain ⟨d, G2, hd, ext, hx⟩ := it.yld r1 c1 hlt y
    obtain ⟨_, hd'⟩ := List.getElem?_eq_some_iff.mp hd
    rw [List.drop_eq_getElem_cons hlt, hd'] at p1
    unfold lcI at p1
    cases qs : s d e1 with
    | none => rw [qs] at p1; exact p1.elim
    | some e2 =>
      rw [qs] at p1
      dsimp only at p1
      have S2 : Gr (upd B Dl (.lst ws')) G1 G2 := Gr.ext r1 ext
      have nD : ∀ {G3 : Hp}, Gr (upd B Dl (.lst ws')) G1 G3 → G3 Dl = none := fun {G3} S => by
        cases z : G3 Dl with
        | none => rfl
        | some u =>
          rcases S.n _ _ z with z | z
          · rw [g1] at z; cases z
          · rw [upd_same] at z; cases z
      refine ⟨_, G2, e1, d, e2, r1.ext ext, hx, qs, fun σ2 r2 ag => ⟨wipe_agr sub ag, _, G2, e2, r2, ?_⟩⟩
      have ag2 : Agr vs σ2 (wipe σ vs) := ⟨ag.1.symm, fun j hj => (ag.2 j fun z => hj (sub j z)).symm⟩
      cases qq : q e2 with
      | err c x e' => rw [qq] at p1; exact p1.elim
      | bad => rw [qq] at p1; exact p1.elim
      | ok b e3 =>
        rw [qq] at p1
        dsimp only at p1
        intro G3 H3 r3 S3
        have S13 := S2.trans S3
        cases b with
        | false =>
          rw [if_neg Bool.false_ne_true] at p1
          refine iteF ?_
          split at p1
          · rename_i hk
            exact ⟨G3, wipeE e3 vs, acc, ws', r3.wipe.agr ag2 (fun j hj s hs => wipeE_no hj hs) pn, nD S13, ra.mono S13.s, fun j hj s hs => wipeE_no hj hs, cm _ _ _ _ S13.s hk c1, p1.mono (Gr.base SB S13)⟩
          · exact p1.elim
        | true =>
          rw [if_pos rfl] at p1
          refine iteT ⟨_, G3, e3, r3, ?_⟩
          cases qh : h e3 with
          | err c x e' => rw [qh] at p1; exact p1.elim
          | bad => rw [qh] at p1; exact p1.elim
          | ok z e4 =>
            rw [qh] at p1
            cases z with
            | «at» j => exact p1.elim
            | d z =>
              dsimp only at p1
              intro G4 H4 r4 S4 v hv
              have S14 := S13.trans S4
              have hv : Rep k G4 z v := hv
              split at p1
              · rename_i hk
                refine ⟨ws', r4.bs _ _ upd_same, by rw [← ra.len, sizeLine_eq]; omega, G4, wipeE e4 vs, acc ++ [z], ws' ++ [v], ?_, nD S14, (ra.mono S14.s).app (.cons hv .nil), fun j hj s hs => wipeE_no hj hs, cm _ _ _ _ S14.s hk.1 c1, p1.mono (Gr.base SB S14)⟩
                exact (r4.over (nD S14)).wipe.agr ag2 (fun j hj s hs => wipeE_no hj hs) pn
              · exact p1.elim
  · have e0 : i = ds.length := by omega
    subst e0
    rw [List.drop_length] at p1
    exact .inl ⟨it.stop r1 c1 rfl, p1 G1 Hi ws' r1 (Gr.refl B G1) g1 ra⟩
open Classical in
theorem lc2_sem {J : It} {ds : List D} {C : Hp → Ev → L2.St → Prop} {ck : Ev → Prop} (it : ItD k J ds C) {s s1 : D → Ev → Option Ev} {ws ws1 vs vs1 : List Nat} {q q1 : Ev → Res Bool} {f1 : Ev → Res (List D × Src)} {h : Ev → Res RV} {B G : Hp} {e : Ev} {σ : L2.St} {H1 : Hp} {Q : VK} {Dl : Addr}
    (cm : ∀ G1 G2 e1 e2, L2.Same G1 G2 → ck e2 → C G1 e1 (wipe σ vs) → C G2 e2 (wipe σ vs)) (sub : ∀ i ∈ ws, i ∈ vs) (sub1 : ∀ i ∈ ws1, i ∈ vs1) (hv : ∀ i ∈ vs1, i ∈ vs) (pn : ∀ i ∈ vs, k.pin i = none) (hz : ds.length ≤ sizeLine)
    (r : ER k B G (wipeE e vs) σ H1) (hc : C G (wipeE e vs) (wipe σ vs)) (hD : H1 Dl = none) (p : PostN k B σ W Q G (lcO s q f1 s1 q1 h ck vs vs1 ds [] (wipeE e vs))) :
    ∃ Wv : Nat → Nat → Hp → Prop, (∃ m, Wv 0 m (upd H1 Dl (.lst []))) ∧ ∀ i m H, Wv i m H →
      (J.stop i H ∧ Q (.ref Dl) H) ∨ (J.go i H ∧ ∃ Nx : Hp → Prop, (∀ H', Nx H' → ∃ m', m' < m ∧ Wv (i + 1) m' H') ∧ ∀ x H', J.yld i H x H' → gD k s ws x (wipe σ vs) H' fun σ2 H2 => wipe σ2 vs = wipe σ vs ∧ tQ k W0 q σ2 H2 fun b H3 =>
        if b = true then tI k W0 f1 σ2 H3 (fun J1 H4 => ∃ W1 : Nat → Nat → Hp → Prop, (∃ m, W1 0 m H4) ∧ ∀ j m H, W1 j m H → (J1.stop j H ∧ Nx H) ∨ (J1.go j H ∧ ∃ Nx1 : Hp → Prop, (∀ H', Nx1 H' → ∃ m', m' < m ∧ W1 (j + 1) m' H') ∧ ∀ x H', J1.yld j H x H' → gD k s1 ws1 x (wipe σ2 vs1) H' fun σ3 H5 => wipe σ3 vs1 = wipe σ2 vs1 ∧ tQ k W0 q1 σ3 H5 fun b H6 =>
          if b = true then tD k W0 h σ3 H6 fun y H7 => ∃ acc, H7 Dl = some (.lst acc) ∧ acc.length < sizeLine ∧ Nx1 (upd H7 Dl (.lst (acc ++ [y]))) else Nx1 H6)) else Nx H3) := by
  obtain ⟨bD, gD0⟩ := r.none_ hD
  have SB : ∀ {o : HO}, L2.Same B (upd B Dl o) := RK.Same.upd bD
  let St := fun (i : Nat) (H : Hp) => ∃ G' e' acc ws', ER k (upd B Dl (.lst ws')) G' e' (wipe σ vs) H ∧ G' Dl = none ∧ RepAll k G' acc ws' ∧ (∀ j ∈ vs, ∀ s : Sl, e'[j]? = some s → s = .no) ∧ C G' e' (wipe σ vs) ∧ PostN k B σ W Q G' (lcO s q f1 s1 q1 h ck vs vs1 (ds.drop i) acc e') ∧ acc.length ≤ sizeLine
  refine ⟨fun i m H => m = ds.length - i ∧ i ≤ ds.length ∧ St i H, ⟨_, rfl, Nat.zero_le _, G, wipeE e vs, [], [], ?_, gD0, .nil, fun j hj s hs => wipeE_no hj hs, hc, p, Nat.zero_le _⟩, ?_⟩
  · exact (r.agr (σ' := wipe σ vs) (wipe_agr0 (vs := vs)) (fun j hj s hs => wipeE_no hj hs) pn).fresh hD
  rintro i m Hi ⟨rfl, hi, G1, e1, acc, ws', r1, g1, ra, no, c1, p1, hl⟩
  by_cases hlt : i < ds.length
  · refine .inr ⟨it.go r1 c1 hlt, St (i + 1), fun H' st => ⟨_, by omega, rfl, hlt, st⟩, fun x H2 y => ?_⟩
    obtain ⟨d, G2, hd, ext, hx⟩ := it.yld r1 c1 hlt y
    obtain ⟨_, hd'⟩ := List.getElem?_eq_some_iff.mp hd
    rw [List.drop_eq_getElem_cons hlt, hd'] at p1
    unfold lcO at p1
    cases qs : s d e1 with
    | none => rw [qs] at p1; exact p1.elim
    | some e2 =>
      rw [qs] at p1
      dsimp only at p1
      have S2 : Gr (upd B Dl (.lst ws')) G1 G2 := Gr.ext r1 ext
      have nD : ∀ {G3 : Hp}, Gr (upd B Dl (.lst ws')) G1 G3 → G3 Dl = none := fun {G3} S => by
        cases z : G3 Dl with
        | none => rfl
        | some u =>
          rcases S.n _ _ z with z | z
          · rw [g1] at z; cases z
          · rw [upd_same] at z; cases z
      refine ⟨_, G2, e1, d, e2, r1.ext ext, hx, qs, fun σ2 r2 ag => ⟨wipe_agr sub ag, _, G2, e2, r2, ?_⟩⟩
      have ag2 : Agr vs σ2 (wipe σ vs) := ⟨ag.1.symm, fun j hj => (ag.2 j fun z => hj (sub j z)).symm⟩
      cases qq : q e2 with
      | err c x e' => rw [qq] at p1; exact p1.elim
      | bad => rw [qq] at p1; exact p1.elim
      | ok b e3 =>
        rw [qq] at p1
        dsimp only at p1
        intro G3 H3 r3 S3
        have S13 := S2.trans S3
        cases b with
        | false =>
          rw [if_neg Bool.false_ne_true] at p1
          refine iteF ?_
          split at p1
          · rename_i hk
            exact ⟨G3, wipeE e3 vs, acc, ws', r3.wipe.agr ag2 (fun j hj s hs => wipeE_no hj hs) pn, nD S13, ra.mono S13.s, fun j hj s hs => wipeE_no hj hs, cm _ _ _ _ S13.s hk c1, p1.mono (Gr.base SB S13), hl⟩
          · exact p1.elim
        | true =>
          rw [if_pos rfl] at p1
          refine iteT ⟨_, G3, e3, r3, ?_⟩
          cases qf : f1 e3 with
          | err c x e' => rw [qf] at p1; exact p1.elim
          | bad => rw [qf] at p1; exact p1.elim
          | ok x1 e4 =>
            rw [qf] at p1
            dsimp only at p1
            intro G4 H4 r4 S4
            have S14 := S13.trans S4
            obtain ⟨ds1, src⟩ := x1
            cases src with
            | own j1 d1 => exact p1.elim
            | seen =>
              intro hz1 J1 C1 it1 hc1 cm1
              have r5 : ER k (upd B Dl (.lst ws')) G4 (wipeE e4 vs1) (wipe σ2 vs1) H4 := r4.wipe.agr wipe_agr0 (fun j hj s hs => wipeE_no hj hs) fun j hj => pn j (hv j hj)
              refine lcI_sem it1 (ck := fun _ => True) (fun G1 G2 e1 e2 S _ c => cm1 _ _ _ _ _ _ S c) sub1 (fun j hj => pn j (hv j hj)) r5 bD (nD S14) (ra.mono S14.s) (cm1 _ _ _ _ _ _ (L2.Same.refl _) hc1) ?_
              have p1 : PostN k B σ W Q G1 (match lcI s1 q1 h (fun _ => True) vs1 ds1 acc (wipeE e4 vs1) with
                | .ok acc' e4 => if ck (wipeE e4 vs) ∧ acc'.length ≤ 10000000 then lcO s q f1 s1 q1 h ck vs vs1 (ds.drop (i + 1)) acc' (wipeE e4 vs) else .bad
                | _ => .bad) := p1
              cases qi : lcI s1 q1 h (fun _ => True) vs1 ds1 acc (wipeE e4 vs1) with
              | err c x e' => rw [qi] at p1; exact p1.elim
              | bad => rw [qi] at p1; exact p1.elim
              | ok acc' e5 =>
                rw [qi] at p1
                dsimp only at p1
                intro G5 H5 ws5 r6 S6 g5 ra5
                split at p1
                · rename_i hk
                  have ag3 : Agr vs (wipe σ2 vs1) (wipe σ vs) := ⟨by rw [wipe_length σ2 vs1]; exact ag2.1, fun j hj => by rw [wipe_get fun z => hj (hv j z)]; exact ag2.2 j hj⟩
                  have S15 : Gr B G1 G5 := (Gr.base SB S14).trans S6
                  exact ⟨G5, wipeE e5 vs, acc', ws5, r6.wipe.agr ag3 (fun j hj s hs => wipeE_no hj hs) pn, g5, ra5, fun j hj s hs => wipeE_no hj hs, cm _ _ _ _ S15.s hk.1 c1, p1.mono S15, by have := hk.2; rw [sizeLine_eq]; omega⟩
                · exact p1.elim
  · have e0 : i = ds.length := by omega
    subst e0
    rw [List.drop_length] at p1
    have r2 := r1.agr (σ' := σ) (vs := vs) ⟨(wipe_length σ vs).symm, fun j hj => (wipe_get hj).symm⟩ no pn
    exact .inl ⟨it.stop r1 c1 rfl, p1 G1 Hi Dl _ r2 (Gr.refl B G1) bD g1 (.lst (by rw [← ra.len]; exact hl) ra)⟩
theorem tlc2_sem {f f1 : Ev → Res (List D × Src)} {s s1 : D → Ev → Option Ev} {ws ws1 vs vs1 : List Nat} {q q1 : Ev → Res Bool} {h : Ev → Res RV} {σ : L2.St} {H : Hp} {Q : VK} (sub : ∀ i ∈ ws, i ∈ vs) (sub1 : ∀ i ∈ ws1, i ∈ vs1) (hv : ∀ i ∈ vs1, i ∈ vs) (pn : ∀ i ∈ vs, k.pin i = none) (p : tN k W (eLc2 f s q f1 s1 q1 h vs vs1) σ H Q) :
    tLc2 (tI k W f) (gD k s ws) (tQ k W0 q) (tI k W0 f1) (gD k s1 ws1) (tQ k W0 q1) (tD k W0 h) vs vs1 σ H Q := by
  obtain ⟨B, G, e, r, p⟩ := p
  refine ⟨B, G, e, r, p.bind.imp fun G1 H1 e1 x r1 S1 p1 => ?_⟩
  obtain ⟨ds, src⟩ := x
  cases src with
  | seen => exact fun hz J C it c cm Dl hD => lc2_sem it (fun _ _ _ _ S _ c => cm _ _ _ _ _ _ S c) sub sub1 hv pn hz r1.wipe (cm _ _ _ _ _ _ (L2.Same.refl _) c) hD p1
  | own j d =>
    intro hz qj J a hj it _ Dl hD
    dsimp only at p1
    split at p1
    · exact p1.elim
    · rename_i nj
      exact lc2_sem it (fun _ _ _ _ S hk c => ⟨hk, c.2⟩) sub sub1 hv pn hz r1.wipe ⟨by rw [wipeE_get nj]; exact qj, by rw [wipe_get nj]; exact hj⟩ hD p1
variable {elt tg iter tg1 iter1 : Expr} {ifs ifs1 : List Expr} {scope : Scope} {own : List (Str × Nat)} {pos : Pos} {f f1 : Ev → Res (List D × Src)} {s s1 : D → Ev → Option Ev} {ws ws1 vs1 : List Nat} {q q1 : Ev → Res Bool} {h : Ev → Res RV}
theorem pd_lc2 (hc : X.calm = true) (hN : X.N.Nodup) (hi : PI X tg iter (tI k W f)) (ok : BlkOk X.N X.env.scope scope own) (hv : ∀ i ∈ vs1, i ∈ own.map (·.2))
    (hg : ∀ (s0 : Shared) (H : Hp) (C : Addr) (cl : List (Str × Addr)) (fp : List Addr), PG (X.blk s0 H scope (compEnvC scope cl C X.env) fp) tg (gD k s ws)) (ht : ∀ (s0 : Shared) (H : Hp) (C : Addr) (cl : List (Str × Addr)) (fp : List Addr), PTs (X.blk s0 H scope (compEnvC scope cl C X.env) fp) ifs (tQ k W0 q))
    (hi1 : ∀ (s0 : Shared) (H : Hp) (C : Addr) (cl : List (Str × Addr)) (fp : List Addr), PI (X.blk s0 H scope (compEnvC scope cl C X.env) fp) tg1 iter1 (tI k W0 f1))
    (hg1 : ∀ (s0 : Shared) (H : Hp) (C : Addr) (cl : List (Str × Addr)) (fp : List Addr), PG (X.blk s0 H scope (compEnvC scope cl C X.env) fp) tg1 (gD k s1 ws1)) (ht1 : ∀ (s0 : Shared) (H : Hp) (C : Addr) (cl : List (Str × Addr)) (fp : List Addr), PTs (X.blk s0 H scope (compEnvC scope cl C X.env) fp) ifs1 (tQ k W0 q1))
    (he : ∀ (s0 : Shared) (H : Hp) (C : Addr) (cl : List (Str × Addr)) (fp : List Addr), PE (X.blk s0 H scope (compEnvC scope cl C X.env) fp) elt (tD k W0 h)) (sub : ∀ i ∈ ws, i ∈ own.map (·.2)) (sub1 : ∀ i ∈ ws1, i ∈ vs1) (pn : ∀ i ∈ own.map (·.2), k.pin i = none)
    (hs : ∀ x, foldedSetIterable iter X.env x = pure x := by intro _; rfl) (hs1 : ∀ env x, foldedSetIterable iter1 env x = pure x := by intro _ _; rfl) :
    PE X (.ListComp elt [⟨tg, iter, ifs, 0⟩, ⟨tg1, iter1, ifs1, 0⟩] scope pos) (tN k W (eLc2 f s q f1 s1 q1 h (own.map (·.2)) vs1)) :=
  (pe_lc2 hc hN hi ok hv hg ht hi1 hg1 ht1 he hs hs1).weak fun _ _ _ p => tlc2_sem sub sub1 hv pn p
end
end PD


set_option Elab.async false
set_option linter.all false
set_option maxRecDepth 100000
set_option maxHeartbeats 1000000
/-! PD20: comprehensions of dicts. -/
namespace PD
open PySem PySem.Spec PyProof.Rows L2 RK
open Classical in
noncomputable def dcL (s : D → Ev → Option Ev) (q : Ev → Res Bool) (hk h : Ev → Res RV) (ck : Ev → Prop) (vs : List Nat) : List D → List (D × D) → Ev → Res D
  | [], acc, e => .ok (.dic false acc) e
  | d :: ds, acc, e => match s d e with
    | none => .bad
    | some e1 => match q e1 with
      | .ok b e2 => if b = true then (match hk e2 with
          | .ok (.d y) e3 => (match h e3 with
            | .ok (.d z) e4 => (match keyK y with
              | some x => if ck (wipeE e4 vs) ∧ acc.length < 10000000 then dcL s q hk h ck vs ds (putA keyK acc x y z) (wipeE e4 vs) else .bad
              | none => .bad)
            | _ => .bad)
          | _ => .bad)
        else if ck (wipeE e2 vs) then dcL s q hk h ck vs ds acc (wipeE e2 vs) else .bad
      | _ => .bad
open Classical in
noncomputable def eDc (f : Ev → Res (List D × Src)) (s : D → Ev → Option Ev) (q : Ev → Res Bool) (hk h : Ev → Res RV) (vs : List Nat) : Ev → Res D := fun e => (f e).bind fun x e1 => match x.2 with
  | .seen => dcL s q hk h (fun _ => True) vs x.1 [] (wipeE e1 vs)
  | .own j d => if j ∈ vs then .bad else dcL s q hk h (fun e => e[j]? = some (Sl.own d)) vs x.1 [] (wipeE e1 vs)
section
variable {k : Kn} {X : Cx} {W : WX} {fr : Bool}
theorem dc_sem {J : It} {ds : List D} {C : Hp → Ev → L2.St → Prop} {ck : Ev → Prop} (it : ItD k J ds C) {s : D → Ev → Option Ev} {ws vs : List Nat} {q : Ev → Res Bool} {hk h : Ev → Res RV} {B G : Hp} {e : Ev} {σ : L2.St} {H1 : Hp} {Q : VK} {Dl : Addr}
    (cm : ∀ G1 G2 e1 e2, L2.Same G1 G2 → ck e2 → C G1 e1 (wipe σ vs) → C G2 e2 (wipe σ vs)) (sub : ∀ i ∈ ws, i ∈ vs) (pn : ∀ i ∈ vs, k.pin i = none)
    (r : ER k B G (wipeE e vs) σ H1) (hc : C G (wipeE e vs) (wipe σ vs)) (hD : H1 Dl = none) (p : PostN k B σ W Q G (dcL s q hk h ck vs ds [] (wipeE e vs))) :
    ∃ Wv : Nat → Nat → Hp → Prop, (∃ m, Wv 0 m (upd H1 Dl (.dK []))) ∧ ∀ i m H, Wv i m H →
      (J.stop i H ∧ Q (.ref Dl) H) ∨ (J.go i H ∧ ∃ Nx : Hp → Prop, (∀ H', Nx H' → ∃ m', m' < m ∧ Wv (i + 1) m' H') ∧ ∀ x H', J.yld i H x H' → gD k s ws x (wipe σ vs) H' fun σ2 H2 => wipe σ2 vs = wipe σ vs ∧ tQ k W0 q σ2 H2 fun b H3 =>
        if b = true then tD k W0 hk σ2 H3 fun y H4 => tD k W0 h σ2 H4 fun z H5 => ∃ kvs x, y = kV x ∧ H5 Dl = some (.dK kvs) ∧ kvs.length < sizeLine ∧ Nx (upd H5 Dl (.dK (putK kvs x z))) else Nx H3) := by
  obtain ⟨bD, gD0⟩ := r.none_ hD
  have SB : ∀ {o : HO}, L2.Same B (upd B Dl o) := RK.Same.upd bD
  let St := fun (i : Nat) (H : Hp) => ∃ G' e' acc ws', ER k (upd B Dl (.dK ws')) G' e' (wipe σ vs) H ∧ G' Dl = none ∧ RepK k G' acc ws' ∧ (∀ j ∈ vs, ∀ s : Sl, e'[j]? = some s → s = .no) ∧ C G' e' (wipe σ vs) ∧ PostN k B σ W Q G' (dcL s q hk h ck vs (ds.drop i) acc e')
  refine ⟨fun i m H => m = ds.length - i ∧ i ≤ ds.length ∧ St i H, ⟨_, rfl, Nat.zero_le _, G, wipeE e vs, [], [], ?_, gD0, .nil, fun j hj s hs => wipeE_no hj hs, hc, p⟩, ?_⟩
  · exact (r.agr (σ' := wipe σ vs) (wipe_agr0 (vs := vs)) (fun j hj s hs => wipeE_no hj hs) pn).fresh hD
  rintro i m Hi ⟨rfl, hi, G1, e1, acc, ws', r1, g1, ra, no, c1, p1⟩
  by_cases hlt : i < ds.length
  · refine .inr ⟨it.go r1 c1 hlt, St (i + 1), fun H' st => ⟨_, by omega, rfl, hlt, st⟩, fun x H2 y => ?_⟩
    obtain ⟨d, G2, hd, ext, hx⟩ := it.yld r1 c1 hlt y
    obtain ⟨_, hd'⟩ := List.getElem?_eq_some_iff.mp hd
    rw [List.drop_eq_getElem_cons hlt, hd'] at p1
    unfold dcL at p1
    cases qs : s d e1 with
    | none => rw [qs] at p1; exact p1.elim
    | some e2 =>
      rw [qs] at p1
      dsimp only at p1
      have S2 : Gr (upd B Dl (.dK ws')) G1 G2 := Gr.ext r1 ext
      have nD : ∀ {G3 : Hp}, Gr (upd B Dl (.dK ws')) G1 G3 → G3 Dl = none := fun {G3} S => by
        cases z : G3 Dl with
        | none => rfl
        | some u =>
          rcases S.n _ _ z with z | z
          · rw [g1] at z; cases z
          · rw [upd_same] at z; cases z
      refine ⟨_, G2, e1, d, e2, r1.ext ext, hx, qs, fun σ2 r2 ag => ⟨wipe_agr sub ag, _, G2, e2, r2, ?_⟩⟩
      have ag2 : Agr vs σ2 (wipe σ vs) := ⟨ag.1.symm, fun j hj => (ag.2 j fun z => hj (sub j z)).symm⟩
      cases qq : q e2 with
      | err c x e' => rw [qq] at p1; exact p1.elim
      | bad => rw [qq] at p1; exact p1.elim
      | ok b e3 =>
        rw [qq] at p1
        dsimp only at p1
        intro G3 H3 r3 S3
        have S13 := S2.trans S3
        cases b with
        | false =>
          rw [if_neg Bool.false_ne_true] at p1
          refine iteF ?_
          split at p1
          · rename_i hk
            exact ⟨G3, wipeE e3 vs, acc, ws', r3.wipe.agr ag2 (fun j hj s hs => wipeE_no hj hs) pn, nD S13, ra.mono S13.s, fun j hj s hs => wipeE_no hj hs, cm _ _ _ _ S13.s hk c1, p1.mono (Gr.base SB S13)⟩
          · exact p1.elim
        | true =>
          rw [if_pos rfl] at p1
          refine iteT ⟨_, G3, e3, r3, ?_⟩
          cases qk : hk e3 with
          | err c x e' => rw [qk] at p1; exact p1.elim
          | bad => rw [qk] at p1; exact p1.elim
          | ok yd e4 =>
            rw [qk] at p1
            cases yd with
            | «at» j => exact p1.elim
            | d yd =>
              dsimp only at p1
              intro G4 H4 r4 S4 y hy
              have hy : Rep k G4 yd y := hy
              refine ⟨_, G4, e4, r4, ?_⟩
              cases qh : h e4 with
              | err c x e' => rw [qh] at p1; exact p1.elim
              | bad => rw [qh] at p1; exact p1.elim
              | ok z e5 =>
                rw [qh] at p1
                cases z with
                | «at» j => exact p1.elim
                | d z =>
                  dsimp only at p1
                  intro G5 H5 r5 S5 v hv
                  have hv : Rep k G5 z v := hv
                  have S15 := (S13.trans S4).trans S5
                  cases kx : keyK yd with
                  | none => rw [kx] at p1; exact p1.elim
                  | some xk =>
                    rw [kx] at p1
                    dsimp only at p1
                    obtain ⟨e6, okx⟩ := rep_key hy kx
                    split at p1
                    · rename_i hck
                      rw [keyK_eq kx] at p1
                      refine ⟨ws', xk, e6, r5.bs _ _ upd_same, by rw [← repK_len ra, sizeLine_eq]; omega, G5, wipeE e5 vs, putA keyK acc xk (keyD xk) z, putK ws' xk v, ?_, nD S15, repK_put (ra.mono S15.s) okx hv, fun j hj s hs => wipeE_no hj hs, cm _ _ _ _ S15.s hck.1 c1, p1.mono (Gr.base SB S15)⟩
                      exact (r5.over (nD S15)).wipe.agr ag2 (fun j hj s hs => wipeE_no hj hs) pn
                    · exact p1.elim
  · have e0 : i = ds.length := by omega
    subst e0
    rw [List.drop_length] at p1
    have r2 := r1.agr (σ' := σ) (vs := vs) ⟨(wipe_length σ vs).symm, fun j hj => (wipe_get hj).symm⟩ no pn
    exact .inl ⟨it.stop r1 c1 rfl, p1 G1 Hi Dl _ r2 (Gr.refl B G1) bD g1 (.dK ra)⟩
theorem tdc_sem {f : Ev → Res (List D × Src)} {s : D → Ev → Option Ev} {ws vs : List Nat} {q : Ev → Res Bool} {hk h : Ev → Res RV} {σ : L2.St} {H : Hp} {Q : VK} (sub : ∀ i ∈ ws, i ∈ vs) (pn : ∀ i ∈ vs, k.pin i = none) (p : tN k W (eDc f s q hk h vs) σ H Q) : tDc (tI k W f) (gD k s ws) (tQ k W0 q) (tD k W0 hk) (tD k W0 h) vs σ H Q := by
  obtain ⟨B, G, e, r, p⟩ := p
  refine ⟨B, G, e, r, p.bind.imp fun G1 H1 e1 x r1 S1 p1 => ?_⟩
  obtain ⟨ds, src⟩ := x
  cases src with
  | seen => exact fun hz J C it c cm Dl hD => dc_sem it (fun _ _ _ _ S _ c => cm _ _ _ _ _ _ S c) sub pn r1.wipe (cm _ _ _ _ _ _ (L2.Same.refl _) c) hD p1
  | own j d =>
    intro hz qj J a hj it _ Dl hD
    dsimp only at p1
    split at p1
    · exact p1.elim
    · rename_i nj
      exact dc_sem it (fun _ _ _ _ S hk c => ⟨hk, c.2⟩) sub pn r1.wipe ⟨by rw [wipeE_get nj]; exact qj, by rw [wipe_get nj]; exact hj⟩ hD p1
variable {kx vx tg iter : Expr} {ifs : List Expr} {scope : Scope} {own : List (Str × Nat)} {pos : Pos} {f : Ev → Res (List D × Src)} {s : D → Ev → Option Ev} {ws : List Nat} {q : Ev → Res Bool} {hk h : Ev → Res RV}
theorem pd_dc (hc : X.calm = true) (hN : X.N.Nodup) (hi : PI X tg iter (tI k W f)) (ok : BlkOk X.N X.env.scope scope own)
    (hg : ∀ (s0 : Shared) (H : Hp) (C : Addr) (cl : List (Str × Addr)) (fp : List Addr), PG (X.blk s0 H scope (compEnvC scope cl C X.env) fp) tg (gD k s ws)) (ht : ∀ (s0 : Shared) (H : Hp) (C : Addr) (cl : List (Str × Addr)) (fp : List Addr), PTs (X.blk s0 H scope (compEnvC scope cl C X.env) fp) ifs (tQ k W0 q))
    (hk' : ∀ (s0 : Shared) (H : Hp) (C : Addr) (cl : List (Str × Addr)) (fp : List Addr), PE (X.blk s0 H scope (compEnvC scope cl C X.env) fp) kx (tD k W0 hk))
    (he : ∀ (s0 : Shared) (H : Hp) (C : Addr) (cl : List (Str × Addr)) (fp : List Addr), PE (X.blk s0 H scope (compEnvC scope cl C X.env) fp) vx (tD k W0 h)) (sub : ∀ i ∈ ws, i ∈ own.map (·.2)) (pn : ∀ i ∈ own.map (·.2), k.pin i = none) (hs : ∀ x, foldedSetIterable iter X.env x = pure x := by intro _; rfl) :
    PE X (.DictComp kx vx [⟨tg, iter, ifs, 0⟩] scope pos) (tN k W (eDc f s q hk h (own.map (·.2)))) :=
  (pe_dc hc hN hi ok hg ht hk' he hs).weak fun _ _ _ p => tdc_sem sub pn p
end
end PD


set_option Elab.async false
set_option linter.all false
set_option maxRecDepth 100000
set_option maxHeartbeats 1000000
/-! PDR: the rules by data, in the form that the generator prints. -/
namespace PD
open PySem PySem.Spec PyProof.Rows L2 RK
section
variable {k : Kn} {X : Cx} {W : WX} {fr : Bool} {f g h : Ev → Res RV} {a b c : Expr} {es rest : List Expr} {pos apos cpos p0 : Pos} {fs : Ev → Res (List RV)} {x : Str}
theorem pdv (i : Nat) (hN : X.N[i]? = some x := by rfl) (hv : Vis X.env.scope x := by first | exact Or.inl rfl | exact Or.inr (Or.inl rfl) | exact Or.inr (Or.inr rfl)) (hd : (x == ("__debug__" : Str)) = false := by decide) (hcd : (x == ("__classdict__" : Str)) = false := by decide) : PE X (.Name x pos) (tD k W (eVar i)) := pd_var hN hv hd hcd
theorem pdg {v : V} {d : D} (hg : Gl X x) (hm : ∃ u, X.mg x = some u ∧ RelV v u) (hr : ∀ G, Rep k G d v) (hd : (x == ("__debug__" : Str)) = false := by decide) : PE X (.Name x pos) (tD k W (eC d)) := pd_c (C8.pe_gc hg hm hd) hr
theorem pdNon {kk : Nat} : PE X (.Constant .none kk pos) (tD k W (eC .non)) := pd_c pe_non fun _ => .non
theorem pdBl {kk : Nat} {z : Bool} : PE X (.Constant (.bool z) kk pos) (tD k W (eC (.bl z))) := pd_c pe_bl fun _ => .bl _
theorem pdInt {kk : Nat} {z : Int} : PE X (.Constant (.int z) kk pos) (tD k W (eC (.int z))) := pd_c pe_int fun _ => .int _
theorem pdStr {kk : Nat} {z : Str} (ok : PyData.strOk z = true := by decide +kernel) : PE X (.Constant (.str z) kk pos) (tD k W (eC (.str z))) := pd_c pe_str fun _ => .str _ ok
theorem o_eq (hu : X.A.units + 64 < cLine) (hK : X.K = k.K) : OpR X (compareOp .Eq) (rEqD k.K) := by
  rw [← hK]
  exact op_eqD hu
theorem pdc_eq (hu : X.A.units + 64 < cLine) (ha : PE X a (tD k W f)) (hb : PE X b (tD k W g))  (hK : X.K = k.K := by rfl) : PE X (.Compare a [.Eq] [b] pos) (tD k W (eOp dEq f g)) := pd_cmp (o_eq hu hK) c_eq ha hb (nomark _)
theorem pdq_eq (hu : X.A.units + 64 < cLine) (ha : PE X a (tD k W f)) (hb : PE X b (tD k W g))  (hK : X.K = k.K := by rfl) : PT X (.Compare a [.Eq] [b] pos) (tQ k W (qB (eOp dEq f g))) := pdt_cmp (o_eq hu hK) c_eq ha hb (nomark _)
theorem o_ne (hu : X.A.units + 64 < cLine) (hK : X.K = k.K) : OpR X (compareOp .NotEq) (rNeD k.K) := by
  rw [← hK]
  exact op_neD hu
theorem pdc_ne (hu : X.A.units + 64 < cLine) (ha : PE X a (tD k W f)) (hb : PE X b (tD k W g))  (hK : X.K = k.K := by rfl) : PE X (.Compare a [.NotEq] [b] pos) (tD k W (eOp dNe f g)) := pd_cmp (o_ne hu hK) c_ne ha hb (nomark _)
theorem pdq_ne (hu : X.A.units + 64 < cLine) (ha : PE X a (tD k W f)) (hb : PE X b (tD k W g))  (hK : X.K = k.K := by rfl) : PT X (.Compare a [.NotEq] [b] pos) (tQ k W (qB (eOp dNe f g))) := pdt_cmp (o_ne hu hK) c_ne ha hb (nomark _)
theorem o_lt (hu : X.A.units + 64 < cLine) (hK : X.K = k.K) : OpR X (compareOp .Lt) (rOrd k.K PySem.W.dataLt) := by
  rw [← hK]
  exact op_ltD hu
theorem pdc_lt (hu : X.A.units + 64 < cLine) (ha : PE X a (tD k W f)) (hb : PE X b (tD k W g))  (hK : X.K = k.K := by rfl) : PE X (.Compare a [.Lt] [b] pos) (tD k W (eOp dLt f g)) := pd_cmp (o_lt hu hK) c_lt ha hb (nomark _)
theorem pdq_lt (hu : X.A.units + 64 < cLine) (ha : PE X a (tD k W f)) (hb : PE X b (tD k W g))  (hK : X.K = k.K := by rfl) : PT X (.Compare a [.Lt] [b] pos) (tQ k W (qB (eOp dLt f g))) := pdt_cmp (o_lt hu hK) c_lt ha hb (nomark _)
theorem o_gt (hu : X.A.units + 64 < cLine) (hK : X.K = k.K) : OpR X (compareOp .Gt) (rOrd k.K fun d e => PySem.W.dataLt e d) := by
  rw [← hK]
  exact op_gtD hu
theorem pdc_gt (hu : X.A.units + 64 < cLine) (ha : PE X a (tD k W f)) (hb : PE X b (tD k W g))  (hK : X.K = k.K := by rfl) : PE X (.Compare a [.Gt] [b] pos) (tD k W (eOp dGt f g)) := pd_cmp (o_gt hu hK) c_gt ha hb (nomark _)
theorem pdq_gt (hu : X.A.units + 64 < cLine) (ha : PE X a (tD k W f)) (hb : PE X b (tD k W g))  (hK : X.K = k.K := by rfl) : PT X (.Compare a [.Gt] [b] pos) (tQ k W (qB (eOp dGt f g))) := pdt_cmp (o_gt hu hK) c_gt ha hb (nomark _)
theorem o_le (hu : X.A.units + 64 < cLine) (hK : X.K = k.K) : OpR X (compareOp .LtE) (rOrd k.K fun d e => !PySem.W.dataLt e d) := by
  rw [← hK]
  exact op_leD hu
theorem pdc_le (hu : X.A.units + 64 < cLine) (ha : PE X a (tD k W f)) (hb : PE X b (tD k W g))  (hK : X.K = k.K := by rfl) : PE X (.Compare a [.LtE] [b] pos) (tD k W (eOp dLe f g)) := pd_cmp (o_le hu hK) c_le ha hb (nomark _)
theorem pdq_le (hu : X.A.units + 64 < cLine) (ha : PE X a (tD k W f)) (hb : PE X b (tD k W g))  (hK : X.K = k.K := by rfl) : PT X (.Compare a [.LtE] [b] pos) (tQ k W (qB (eOp dLe f g))) := pdt_cmp (o_le hu hK) c_le ha hb (nomark _)
theorem o_ge (hu : X.A.units + 64 < cLine) (hK : X.K = k.K) : OpR X (compareOp .GtE) (rOrd k.K fun d e => !PySem.W.dataLt d e) := by
  rw [← hK]
  exact op_geD hu
theorem pdc_ge (hu : X.A.units + 64 < cLine) (ha : PE X a (tD k W f)) (hb : PE X b (tD k W g))  (hK : X.K = k.K := by rfl) : PE X (.Compare a [.GtE] [b] pos) (tD k W (eOp dGe f g)) := pd_cmp (o_ge hu hK) c_ge ha hb (nomark _)
theorem pdq_ge (hu : X.A.units + 64 < cLine) (ha : PE X a (tD k W f)) (hb : PE X b (tD k W g))  (hK : X.K = k.K := by rfl) : PT X (.Compare a [.GtE] [b] pos) (tQ k W (qB (eOp dGe f g))) := pdt_cmp (o_ge hu hK) c_ge ha hb (nomark _)
theorem o_in (hu : X.A.units + 64 < cLine) (hK : X.K = k.K) : OpR X (compareOp .In) (rMem k.K false) := by
  rw [← hK]
  exact op_inM hu
theorem pdc_in (hu : X.A.units + 64 < cLine) (ha : PE X a (tD k W f)) (hb : PE X b (tD k W g)) (hm : behindInMarks .In b = false := by rfl) (hK : X.K = k.K := by rfl) : PE X (.Compare a [.In] [b] pos) (tD k W (eOp dIn f g)) := pd_cmp (o_in hu hK) c_in ha hb hm
theorem pdq_in (hu : X.A.units + 64 < cLine) (ha : PE X a (tD k W f)) (hb : PE X b (tD k W g)) (hm : behindInMarks .In b = false := by rfl) (hK : X.K = k.K := by rfl) : PT X (.Compare a [.In] [b] pos) (tQ k W (qB (eOp dIn f g))) := pdt_cmp (o_in hu hK) c_in ha hb hm
theorem o_notin (hu : X.A.units + 64 < cLine) (hK : X.K = k.K) : OpR X (compareOp .NotIn) (rMem k.K true) := by
  rw [← hK]
  exact op_notInM hu
theorem pdc_notin (hu : X.A.units + 64 < cLine) (ha : PE X a (tD k W f)) (hb : PE X b (tD k W g)) (hm : behindInMarks .NotIn b = false := by rfl) (hK : X.K = k.K := by rfl) : PE X (.Compare a [.NotIn] [b] pos) (tD k W (eOp dNotIn f g)) := pd_cmp (o_notin hu hK) c_notIn ha hb hm
theorem pdq_notin (hu : X.A.units + 64 < cLine) (ha : PE X a (tD k W f)) (hb : PE X b (tD k W g)) (hm : behindInMarks .NotIn b = false := by rfl) (hK : X.K = k.K := by rfl) : PT X (.Compare a [.NotIn] [b] pos) (tQ k W (qB (eOp dNotIn f g))) := pdt_cmp (o_notin hu hK) c_notIn ha hb hm
theorem o_is (hu : X.A.units + 64 < cLine) (hK : X.K = k.K) : OpR X (compareOp .Is) (rIs) := op_is
theorem pdc_is (hu : X.A.units + 64 < cLine) (ha : PE X a (tD k W f)) (hb : PE X b (tD k W g))  (hK : X.K = k.K := by rfl) : PE X (.Compare a [.Is] [b] pos) (tD k W (eOp dIs f g)) := pd_cmp (o_is hu hK) c_is ha hb (nomark _)
theorem pdq_is (hu : X.A.units + 64 < cLine) (ha : PE X a (tD k W f)) (hb : PE X b (tD k W g))  (hK : X.K = k.K := by rfl) : PT X (.Compare a [.Is] [b] pos) (tQ k W (qB (eOp dIs f g))) := pdt_cmp (o_is hu hK) c_is ha hb (nomark _)
theorem o_isnot (hu : X.A.units + 64 < cLine) (hK : X.K = k.K) : OpR X (compareOp .IsNot) (rIsNot) := op_isNot
theorem pdc_isnot (hu : X.A.units + 64 < cLine) (ha : PE X a (tD k W f)) (hb : PE X b (tD k W g))  (hK : X.K = k.K := by rfl) : PE X (.Compare a [.IsNot] [b] pos) (tD k W (eOp dIsNot f g)) := pd_cmp (o_isnot hu hK) c_isNot ha hb (nomark _)
theorem pdq_isnot (hu : X.A.units + 64 < cLine) (ha : PE X a (tD k W f)) (hb : PE X b (tD k W g))  (hK : X.K = k.K := by rfl) : PT X (.Compare a [.IsNot] [b] pos) (tQ k W (qB (eOp dIsNot f g))) := pdt_cmp (o_isnot hu hK) c_isNot ha hb (nomark _)
theorem pdc_lt_lt (hu : X.A.units + 64 < cLine) (ha : PE X a (tD k W f)) (hb : PE X b (tD k W g)) (hh : PE X c (tD k W h)) (hm : lastMarks [.Lt, .Lt] [b, c] = false := by with_unfolding_all rfl) (hK : X.K = k.K := by rfl) : PE X (.Compare a [.Lt, .Lt] [b, c] pos) (tD k W (eChain dLt dLt f g h)) := pd_chain (o_lt hu hK) (o_lt hu hK) c_lt c_lt ha hb hh hm
theorem pdq_lt_lt (hu : X.A.units + 64 < cLine) (ha : PE X a (tD k W f)) (hb : PE X b (tD k W g)) (hh : PE X c (tD k W h)) (hm : lastMarks [.Lt, .Lt] [b, c] = false := by with_unfolding_all rfl) (hK : X.K = k.K := by rfl) : PT X (.Compare a [.Lt, .Lt] [b, c] pos) (tQ k W (qB (eChain dLt dLt f g h))) := pdt_chain (o_lt hu hK) (o_lt hu hK) c_lt c_lt ha hb hh hm
theorem pdc_lt_gt (hu : X.A.units + 64 < cLine) (ha : PE X a (tD k W f)) (hb : PE X b (tD k W g)) (hh : PE X c (tD k W h)) (hm : lastMarks [.Lt, .Gt] [b, c] = false := by with_unfolding_all rfl) (hK : X.K = k.K := by rfl) : PE X (.Compare a [.Lt, .Gt] [b, c] pos) (tD k W (eChain dLt dGt f g h)) := pd_chain (o_lt hu hK) (o_gt hu hK) c_lt c_gt ha hb hh hm
theorem pdq_lt_gt (hu : X.A.units + 64 < cLine) (ha : PE X a (tD k W f)) (hb : PE X b (tD k W g)) (hh : PE X c (tD k W h)) (hm : lastMarks [.Lt, .Gt] [b, c] = false := by with_unfolding_all rfl) (hK : X.K = k.K := by rfl) : PT X (.Compare a [.Lt, .Gt] [b, c] pos) (tQ k W (qB (eChain dLt dGt f g h))) := pdt_chain (o_lt hu hK) (o_gt hu hK) c_lt c_gt ha hb hh hm
theorem pdc_lt_le (hu : X.A.units + 64 < cLine) (ha : PE X a (tD k W f)) (hb : PE X b (tD k W g)) (hh : PE X c (tD k W h)) (hm : lastMarks [.Lt, .LtE] [b, c] = false := by with_unfolding_all rfl) (hK : X.K = k.K := by rfl) : PE X (.Compare a [.Lt, .LtE] [b, c] pos) (tD k W (eChain dLt dLe f g h)) := pd_chain (o_lt hu hK) (o_le hu hK) c_lt c_le ha hb hh hm
theorem pdq_lt_le (hu : X.A.units + 64 < cLine) (ha : PE X a (tD k W f)) (hb : PE X b (tD k W g)) (hh : PE X c (tD k W h)) (hm : lastMarks [.Lt, .LtE] [b, c] = false := by with_unfolding_all rfl) (hK : X.K = k.K := by rfl) : PT X (.Compare a [.Lt, .LtE] [b, c] pos) (tQ k W (qB (eChain dLt dLe f g h))) := pdt_chain (o_lt hu hK) (o_le hu hK) c_lt c_le ha hb hh hm
theorem pdc_lt_ge (hu : X.A.units + 64 < cLine) (ha : PE X a (tD k W f)) (hb : PE X b (tD k W g)) (hh : PE X c (tD k W h)) (hm : lastMarks [.Lt, .GtE] [b, c] = false := by with_unfolding_all rfl) (hK : X.K = k.K := by rfl) : PE X (.Compare a [.Lt, .GtE] [b, c] pos) (tD k W (eChain dLt dGe f g h)) := pd_chain (o_lt hu hK) (o_ge hu hK) c_lt c_ge ha hb hh hm
theorem pdq_lt_ge (hu : X.A.units + 64 < cLine) (ha : PE X a (tD k W f)) (hb : PE X b (tD k W g)) (hh : PE X c (tD k W h)) (hm : lastMarks [.Lt, .GtE] [b, c] = false := by with_unfolding_all rfl) (hK : X.K = k.K := by rfl) : PT X (.Compare a [.Lt, .GtE] [b, c] pos) (tQ k W (qB (eChain dLt dGe f g h))) := pdt_chain (o_lt hu hK) (o_ge hu hK) c_lt c_ge ha hb hh hm
theorem pdc_gt_lt (hu : X.A.units + 64 < cLine) (ha : PE X a (tD k W f)) (hb : PE X b (tD k W g)) (hh : PE X c (tD k W h)) (hm : lastMarks [.Gt, .Lt] [b, c] = false := by with_unfolding_all rfl) (hK : X.K = k.K := by rfl) : PE X (.Compare a [.Gt, .Lt] [b, c] pos) (tD k W (eChain dGt dLt f g h)) := pd_chain (o_gt hu hK) (o_lt hu hK) c_gt c_lt ha hb hh hm
theorem pdq_gt_lt (hu : X.A.units + 64 < cLine) (ha : PE X a (tD k W f)) (hb : PE X b (tD k W g)) (hh : PE X c (tD k W h)) (hm : lastMarks [.Gt, .Lt] [b, c] = false := by with_unfolding_all rfl) (hK : X.K = k.K := by rfl) : PT X (.Compare a [.Gt, .Lt] [b, c] pos) (tQ k W (qB (eChain dGt dLt f g h))) := pdt_chain (o_gt hu hK) (o_lt hu hK) c_gt c_lt ha hb hh hm
theorem pdc_gt_gt (hu : X.A.units + 64 < cLine) (ha : PE X a (tD k W f)) (hb : PE X b (tD k W g)) (hh : PE X c (tD k W h)) (hm : lastMarks [.Gt, .Gt] [b, c] = false := by with_unfolding_all rfl) (hK : X.K = k.K := by rfl) : PE X (.Compare a [.Gt, .Gt] [b, c] pos) (tD k W (eChain dGt dGt f g h)) := pd_chain (o_gt hu hK) (o_gt hu hK) c_gt c_gt ha hb hh hm
theorem pdq_gt_gt (hu : X.A.units + 64 < cLine) (ha : PE X a (tD k W f)) (hb : PE X b (tD k W g)) (hh : PE X c (tD k W h)) (hm : lastMarks [.Gt, .Gt] [b, c] = false := by with_unfolding_all rfl) (hK : X.K = k.K := by rfl) : PT X (.Compare a [.Gt, .Gt] [b, c] pos) (tQ k W (qB (eChain dGt dGt f g h))) := pdt_chain (o_gt hu hK) (o_gt hu hK) c_gt c_gt ha hb hh hm
theorem pdc_gt_le (hu : X.A.units + 64 < cLine) (ha : PE X a (tD k W f)) (hb : PE X b (tD k W g)) (hh : PE X c (tD k W h)) (hm : lastMarks [.Gt, .LtE] [b, c] = false := by with_unfolding_all rfl) (hK : X.K = k.K := by rfl) : PE X (.Compare a [.Gt, .LtE] [b, c] pos) (tD k W (eChain dGt dLe f g h)) := pd_chain (o_gt hu hK) (o_le hu hK) c_gt c_le ha hb hh hm
theorem pdq_gt_le (hu : X.A.units + 64 < cLine) (ha : PE X a (tD k W f)) (hb : PE X b (tD k W g)) (hh : PE X c (tD k W h)) (hm : lastMarks [.Gt, .LtE] [b, c] = false := by with_unfolding_all rfl) (hK : X.K = k.K := by rfl) : PT X (.Compare a [.Gt, .LtE] [b, c] pos) (tQ k W (qB (eChain dGt dLe f g h))) := pdt_chain (o_gt hu hK) (o_le hu hK) c_gt c_le ha hb hh hm
theorem pdc_gt_ge (hu : X.A.units + 64 < cLine) (ha : PE X a (tD k W f)) (hb : PE X b (tD k W g)) (hh : PE X c (tD k W h)) (hm : lastMarks [.Gt, .GtE] [b, c] = false := by with_unfolding_all rfl) (hK : X.K = k.K := by rfl) : PE X (.Compare a [.Gt, .GtE] [b, c] pos) (tD k W (eChain dGt dGe f g h)) := pd_chain (o_gt hu hK) (o_ge hu hK) c_gt c_ge ha hb hh hm
theorem pdq_gt_ge (hu : X.A.units + 64 < cLine) (ha : PE X a (tD k W f)) (hb : PE X b (tD k W g)) (hh : PE X c (tD k W h)) (hm : lastMarks [.Gt, .GtE] [b, c] = false := by with_unfolding_all rfl) (hK : X.K = k.K := by rfl) : PT X (.Compare a [.Gt, .GtE] [b, c] pos) (tQ k W (qB (eChain dGt dGe f g h))) := pdt_chain (o_gt hu hK) (o_ge hu hK) c_gt c_ge ha hb hh hm
theorem pdc_le_lt (hu : X.A.units + 64 < cLine) (ha : PE X a (tD k W f)) (hb : PE X b (tD k W g)) (hh : PE X c (tD k W h)) (hm : lastMarks [.LtE, .Lt] [b, c] = false := by with_unfolding_all rfl) (hK : X.K = k.K := by rfl) : PE X (.Compare a [.LtE, .Lt] [b, c] pos) (tD k W (eChain dLe dLt f g h)) := pd_chain (o_le hu hK) (o_lt hu hK) c_le c_lt ha hb hh hm
theorem pdq_le_lt (hu : X.A.units + 64 < cLine) (ha : PE X a (tD k W f)) (hb : PE X b (tD k W g)) (hh : PE X c (tD k W h)) (hm : lastMarks [.LtE, .Lt] [b, c] = false := by with_unfolding_all rfl) (hK : X.K = k.K := by rfl) : PT X (.Compare a [.LtE, .Lt] [b, c] pos) (tQ k W (qB (eChain dLe dLt f g h))) := pdt_chain (o_le hu hK) (o_lt hu hK) c_le c_lt ha hb hh hm
theorem pdc_le_gt (hu : X.A.units + 64 < cLine) (ha : PE X a (tD k W f)) (hb : PE X b (tD k W g)) (hh : PE X c (tD k W h)) (hm : lastMarks [.LtE, .Gt] [b, c] = false := by with_unfolding_all rfl) (hK : X.K = k.K := by rfl) : PE X (.Compare a [.LtE, .Gt] [b, c] pos) (tD k W (eChain dLe dGt f g h)) := pd_chain (o_le hu hK) (o_gt hu hK) c_le c_gt ha hb hh hm
theorem pdq_le_gt (hu : X.A.units + 64 < cLine) (ha : PE X a (tD k W f)) (hb : PE X b (tD k W g)) (hh : PE X c (tD k W h)) (hm : lastMarks [.LtE, .Gt] [b, c] = false := by with_unfolding_all rfl) (hK : X.K = k.K := by rfl) : PT X (.Compare a [.LtE, .Gt] [b, c] pos) (tQ k W (qB (eChain dLe dGt f g h))) := pdt_chain (o_le hu hK) (o_gt hu hK) c_le c_gt ha hb hh hm
theorem pdc_le_le (hu : X.A.units + 64 < cLine) (ha : PE X a (tD k W f)) (hb : PE X b (tD k W g)) (hh : PE X c (tD k W h)) (hm : lastMarks [.LtE, .LtE] [b, c] = false := by with_unfolding_all rfl) (hK : X.K = k.K := by rfl) : PE X (.Compare a [.LtE, .LtE] [b, c] pos) (tD k W (eChain dLe dLe f g h)) := pd_chain (o_le hu hK) (o_le hu hK) c_le c_le ha hb hh hm
theorem pdq_le_le (hu : X.A.units + 64 < cLine) (ha : PE X a (tD k W f)) (hb : PE X b (tD k W g)) (hh : PE X c (tD k W h)) (hm : lastMarks [.LtE, .LtE] [b, c] = false := by with_unfolding_all rfl) (hK : X.K = k.K := by rfl) : PT X (.Compare a [.LtE, .LtE] [b, c] pos) (tQ k W (qB (eChain dLe dLe f g h))) := pdt_chain (o_le hu hK) (o_le hu hK) c_le c_le ha hb hh hm
theorem pdc_le_ge (hu : X.A.units + 64 < cLine) (ha : PE X a (tD k W f)) (hb : PE X b (tD k W g)) (hh : PE X c (tD k W h)) (hm : lastMarks [.LtE, .GtE] [b, c] = false := by with_unfolding_all rfl) (hK : X.K = k.K := by rfl) : PE X (.Compare a [.LtE, .GtE] [b, c] pos) (tD k W (eChain dLe dGe f g h)) := pd_chain (o_le hu hK) (o_ge hu hK) c_le c_ge ha hb hh hm
theorem pdq_le_ge (hu : X.A.units + 64 < cLine) (ha : PE X a (tD k W f)) (hb : PE X b (tD k W g)) (hh : PE X c (tD k W h)) (hm : lastMarks [.LtE, .GtE] [b, c] = false := by with_unfolding_all rfl) (hK : X.K = k.K := by rfl) : PT X (.Compare a [.LtE, .GtE] [b, c] pos) (tQ k W (qB (eChain dLe dGe f g h))) := pdt_chain (o_le hu hK) (o_ge hu hK) c_le c_ge ha hb hh hm
theorem pdc_ge_lt (hu : X.A.units + 64 < cLine) (ha : PE X a (tD k W f)) (hb : PE X b (tD k W g)) (hh : PE X c (tD k W h)) (hm : lastMarks [.GtE, .Lt] [b, c] = false := by with_unfolding_all rfl) (hK : X.K = k.K := by rfl) : PE X (.Compare a [.GtE, .Lt] [b, c] pos) (tD k W (eChain dGe dLt f g h)) := pd_chain (o_ge hu hK) (o_lt hu hK) c_ge c_lt ha hb hh hm
theorem pdq_ge_lt (hu : X.A.units + 64 < cLine) (ha : PE X a (tD k W f)) (hb : PE X b (tD k W g)) (hh : PE X c (tD k W h)) (hm : lastMarks [.GtE, .Lt] [b, c] = false := by with_unfolding_all rfl) (hK : X.K = k.K := by rfl) : PT X (.Compare a [.GtE, .Lt] [b, c] pos) (tQ k W (qB (eChain dGe dLt f g h))) := pdt_chain (o_ge hu hK) (o_lt hu hK) c_ge c_lt ha hb hh hm
theorem pdc_ge_gt (hu : X.A.units + 64 < cLine) (ha : PE X a (tD k W f)) (hb : PE X b (tD k W g)) (hh : PE X c (tD k W h)) (hm : lastMarks [.GtE, .Gt] [b, c] = false := by with_unfolding_all rfl) (hK : X.K = k.K := by rfl) : PE X (.Compare a [.GtE, .Gt] [b, c] pos) (tD k W (eChain dGe dGt f g h)) := pd_chain (o_ge hu hK) (o_gt hu hK) c_ge c_gt ha hb hh hm
theorem pdq_ge_gt (hu : X.A.units + 64 < cLine) (ha : PE X a (tD k W f)) (hb : PE X b (tD k W g)) (hh : PE X c (tD k W h)) (hm : lastMarks [.GtE, .Gt] [b, c] = false := by with_unfolding_all rfl) (hK : X.K = k.K := by rfl) : PT X (.Compare a [.GtE, .Gt] [b, c] pos) (tQ k W (qB (eChain dGe dGt f g h))) := pdt_chain (o_ge hu hK) (o_gt hu hK) c_ge c_gt ha hb hh hm
theorem pdc_ge_le (hu : X.A.units + 64 < cLine) (ha : PE X a (tD k W f)) (hb : PE X b (tD k W g)) (hh : PE X c (tD k W h)) (hm : lastMarks [.GtE, .LtE] [b, c] = false := by with_unfolding_all rfl) (hK : X.K = k.K := by rfl) : PE X (.Compare a [.GtE, .LtE] [b, c] pos) (tD k W (eChain dGe dLe f g h)) := pd_chain (o_ge hu hK) (o_le hu hK) c_ge c_le ha hb hh hm
theorem pdq_ge_le (hu : X.A.units + 64 < cLine) (ha : PE X a (tD k W f)) (hb : PE X b (tD k W g)) (hh : PE X c (tD k W h)) (hm : lastMarks [.GtE, .LtE] [b, c] = false := by with_unfolding_all rfl) (hK : X.K = k.K := by rfl) : PT X (.Compare a [.GtE, .LtE] [b, c] pos) (tQ k W (qB (eChain dGe dLe f g h))) := pdt_chain (o_ge hu hK) (o_le hu hK) c_ge c_le ha hb hh hm
theorem pdc_ge_ge (hu : X.A.units + 64 < cLine) (ha : PE X a (tD k W f)) (hb : PE X b (tD k W g)) (hh : PE X c (tD k W h)) (hm : lastMarks [.GtE, .GtE] [b, c] = false := by with_unfolding_all rfl) (hK : X.K = k.K := by rfl) : PE X (.Compare a [.GtE, .GtE] [b, c] pos) (tD k W (eChain dGe dGe f g h)) := pd_chain (o_ge hu hK) (o_ge hu hK) c_ge c_ge ha hb hh hm
theorem pdq_ge_ge (hu : X.A.units + 64 < cLine) (ha : PE X a (tD k W f)) (hb : PE X b (tD k W g)) (hh : PE X c (tD k W h)) (hm : lastMarks [.GtE, .GtE] [b, c] = false := by with_unfolding_all rfl) (hK : X.K = k.K := by rfl) : PT X (.Compare a [.GtE, .GtE] [b, c] pos) (tQ k W (qB (eChain dGe dGe f g h))) := pdt_chain (o_ge hu hK) (o_ge hu hK) c_ge c_ge ha hb hh hm
theorem pdb_add (ha : PE X a (tD k W f)) (hb : PE X b (tD k W g)) (hK : X.K = k.K := by rfl) : PE X (.BinOp a .Add b pos) (tD k W (eOp dAdd f g)) := pd_op (r := rAddD k.K) (by rw [← hK]; exact op_addD) c_add ha hb
theorem pdb_sub (ha : PE X a (tD k W f)) (hb : PE X b (tD k W g)) (hK : X.K = k.K := by rfl) : PE X (.BinOp a .Sub b pos) (tD k W (eOp dSub f g)) := pd_op (op_subD) c_sub ha hb
theorem pdb_mul (ha : PE X a (tD k W f)) (hb : PE X b (tD k W g)) (hK : X.K = k.K := by rfl) : PE X (.BinOp a .Mult b pos) (tD k W (eOp dMul f g)) := pd_op (op_mulD) c_mul ha hb
theorem pdb_fdiv (ha : PE X a (tD k W f)) (hb : PE X b (tD k W g)) (hK : X.K = k.K := by rfl) : PE X (.BinOp a .FloorDiv b pos) (tD k W (eOp dFdiv f g)) := pd_op (op_fdivA) c_fdiv ha hb
theorem pdb_mod (ha : PE X a (tD k W f)) (hb : PE X b (tD k W g)) (hK : X.K = k.K := by rfl) : PE X (.BinOp a .Mod b pos) (tD k W (eOp dMod f g)) := pd_op (op_modN) c_mod ha hb
theorem pdb_pow (ha : PE X a (tD k W f)) (hb : PE X b (tD k W g)) (hK : X.K = k.K := by rfl) : PE X (.BinOp a .Pow b pos) (tD k W (eOp dPow f g)) := pd_op (op_pow) c_pow ha hb
theorem pdb_shl (ha : PE X a (tD k W f)) (hb : PE X b (tD k W g)) (hK : X.K = k.K := by rfl) : PE X (.BinOp a .LShift b pos) (tD k W (eOp dShl f g)) := pd_op (op_shl) c_shl ha hb
theorem pdb_shr (ha : PE X a (tD k W f)) (hb : PE X b (tD k W g)) (hK : X.K = k.K := by rfl) : PE X (.BinOp a .RShift b pos) (tD k W (eOp dShr f g)) := pd_op (op_shr) c_shr ha hb
theorem pdb_band (ha : PE X a (tD k W f)) (hb : PE X b (tD k W g)) (hK : X.K = k.K := by rfl) : PE X (.BinOp a .BitAnd b pos) (tD k W (eOp dBand f g)) := pd_op (op_bandD) c_band ha hb
theorem pdb_bor (ha : PE X a (tD k W f)) (hb : PE X b (tD k W g)) (hK : X.K = k.K := by rfl) : PE X (.BinOp a .BitOr b pos) (tD k W (eOp dBor f g)) := pd_op (op_borD) c_bor ha hb
theorem pdb_cat (ha : PE X a (tD k W f)) (hb : PE X b (tD k W g)) : PE X (.BinOp a .Add b pos) (tN k W (eOpN dCat f g)) := pd_opN op_cat c_cat ha hb
theorem pdu_neg (ha : PE X a (tD k W f)) : PE X (.UnaryOp .USub a pos) (tD k W (eUn dNeg f)) := pd_un un_neg c_neg ha
theorem pdn_not (ha : PE X a (tD k W f)) (hK : X.K = k.K := by rfl) : PE X (.UnaryOp .Not a pos) (tD k W (eNot f)) := pd_not hK ha
theorem pdn_and (ha : PE X a (tD k W f)) (hb : PE X (.BoolOp .And (b :: rest) pos) (tD k W g)) (hK : X.K = k.K := by rfl) : PE X (.BoolOp .And (a :: b :: rest) pos) (tD k W (eAnd f g)) := pd_and hK ha hb
theorem pdn_or (ha : PE X a (tD k W f)) (hb : PE X (.BoolOp .Or (b :: rest) pos) (tD k W g)) (hK : X.K = k.K := by rfl) : PE X (.BoolOp .Or (a :: b :: rest) pos) (tD k W (eOr f g)) := pd_or hK ha hb
theorem pdn_one {o : BoolOp} (ha : PE X a (tD k W f)) : PE X (.BoolOp o [a] pos) (tD k W f) := pe_one ha
theorem pdq_tru (ha : PE X a (tD k W f)) (he : ∀ whole, isTrue a X.env whole = (do let v ← whole; standAt a.pos; holding [v] (PySem.truthy v)) := by intro _; rfl) (hK : X.K = k.K := by rfl) : PT X a (tQ k W (qTru f)) := pdt_tru hK ha he
theorem pdf_len (hm : X.mg "len" = none) (ha : PA X (a :: es) (tL k W fs)) (hg : Gl X "len" := by rfl) (he : starEach (a :: es) X.env = (false, eval a X.env) :: starEach es X.env := by rfl) (hpl : (backTo pos (starEach es X.env)).any (·.1) = false := by rfl) (hK : X.K = k.K := by rfl) : PE X (.Call (.Name "len" p0) (a :: es) [] pos) (tD k W (eCB (un dLen) fs)) := pd_cb (r := rLenD k.K) (by rw [← hK]; exact call_lenDD) c_len hg hm PySem.boot_len ha (by decide) (by decide) he hpl
theorem pdf_abs (hm : X.mg "abs" = none) (ha : PA X (a :: es) (tL k W fs)) (hg : Gl X "abs" := by rfl) (he : starEach (a :: es) X.env = (false, eval a X.env) :: starEach es X.env := by rfl) (hpl : (backTo pos (starEach es X.env)).any (·.1) = false := by rfl) (hK : X.K = k.K := by rfl) : PE X (.Call (.Name "abs" p0) (a :: es) [] pos) (tD k W (eCB (un dAbs) fs)) := pd_cb (r := rAbs) call_absD c_abs hg hm (by decide +kernel) ha (by decide) (by decide) he hpl
theorem pdf_int (hm : X.mg "int" = none) (ha : PA X (a :: es) (tL k W fs)) (hg : Gl X "int" := by rfl) (he : starEach (a :: es) X.env = (false, eval a X.env) :: starEach es X.env := by rfl) (hpl : (backTo pos (starEach es X.env)).any (·.1) = false := by rfl) (hK : X.K = k.K := by rfl) : PE X (.Call (.Name "int" p0) (a :: es) [] pos) (tD k W (eCB (un dIntOf) fs)) := pd_cty (r := rIntOf) call_intD c_intOf hg hm boot_int ha (by decide) (by decide) he hpl
theorem pdf_tuple (hm : X.mg "tuple" = none) (ha : PA X (a :: es) (tL k W fs)) (hg : Gl X "tuple" := by rfl) (he : starEach (a :: es) X.env = (false, eval a X.env) :: starEach es X.env := by rfl) (hpl : (backTo pos (starEach es X.env)).any (·.1) = false := by rfl) (hK : X.K = k.K := by rfl) : PE X (.Call (.Name "tuple" p0) (a :: es) [] pos) (tD k W (eCB (un dTuple) fs)) := pd_cty (r := rTupleD k.K) (by rw [← hK]; exact call_tupleD) c_tuple hg hm boot_tuple ha (by decide) (by decide) he hpl
theorem pdf_list (hm : X.mg "list" = none) (ha : PA X (a :: es) (tL k W fs)) (hg : Gl X "list" := by rfl) (he : starEach (a :: es) X.env = (false, eval a X.env) :: starEach es X.env := by rfl) (hpl : (backTo pos (starEach es X.env)).any (·.1) = false := by rfl) (hK : X.K = k.K := by rfl) : PE X (.Call (.Name "list" p0) (a :: es) [] pos) (tN k W (eCBN (un dList) fs)) := pd_ctyN (r := rListD k.K) (by rw [← hK]; exact call_listD) c_list hg hm (by decide +kernel) ha (by decide) (by decide) he hpl
theorem pdf_all (hm : X.mg "all" = none) (ha : PA X (a :: es) (tL k W fs)) (hg : Gl X "all" := by rfl) (he : starEach (a :: es) X.env = (false, eval a X.env) :: starEach es X.env := by rfl) (hpl : (backTo pos (starEach es X.env)).any (·.1) = false := by rfl) (hc : X.calm = true := by rfl) (hK : X.K = k.K := by rfl) : PE X (.Call (.Name "all" p0) (a :: es) [] pos) (tD k W (eCB (un dAll) fs)) := pd_cb (r := rAll k.K) (by rw [← hK]; exact cr_all hc) c_all hg hm boot_all ha (by decide) (by decide) he hpl
theorem pdf_any (hm : X.mg "any" = none) (ha : PA X (a :: es) (tL k W fs)) (hg : Gl X "any" := by rfl) (he : starEach (a :: es) X.env = (false, eval a X.env) :: starEach es X.env := by rfl) (hpl : (backTo pos (starEach es X.env)).any (·.1) = false := by rfl) (hc : X.calm = true := by rfl) (hK : X.K = k.K := by rfl) : PE X (.Call (.Name "any" p0) (a :: es) [] pos) (tD k W (eCB (un dAny) fs)) := pd_cb (r := rAny k.K) (by rw [← hK]; exact cr_any hc) c_any hg hm (by decide +kernel) ha (by decide) (by decide) he hpl
theorem pdf_sum (hm : X.mg "sum" = none) (ha : PA X (a :: es) (tL k W fs)) (hg : Gl X "sum" := by rfl) (he : starEach (a :: es) X.env = (false, eval a X.env) :: starEach es X.env := by rfl) (hpl : (backTo pos (starEach es X.env)).any (·.1) = false := by rfl) (hc : X.calm = true := by rfl) (hK : X.K = k.K := by rfl) : PE X (.Call (.Name "sum" p0) (a :: es) [] pos) (tD k W (eCB (un dSum) fs)) := pd_cb (r := rSum k.K) (by rw [← hK]; exact cr_sum hc) c_sum hg hm (by decide +kernel) ha (by decide) (by decide) he hpl
theorem pdf_max (hm : X.mg "max" = none) (ha : PA X (a :: es) (tL k W fs)) (hg : Gl X "max" := by rfl) (he : starEach (a :: es) X.env = (false, eval a X.env) :: starEach es X.env := by rfl) (hpl : (backTo pos (starEach es X.env)).any (·.1) = false := by rfl) (hc : X.calm = true := by rfl) (hK : X.K = k.K := by rfl) : PE X (.Call (.Name "max" p0) (a :: es) [] pos) (tD k W (eCB (dMax) fs)) := pd_cb (r := rMaxD k.K) (by rw [← hK]; exact call_maxD hc) c_max hg hm (by decide +kernel) ha (by decide) (by decide) he hpl
theorem pdf_min (hm : X.mg "min" = none) (ha : PA X (a :: es) (tL k W fs)) (hg : Gl X "min" := by rfl) (he : starEach (a :: es) X.env = (false, eval a X.env) :: starEach es X.env := by rfl) (hpl : (backTo pos (starEach es X.env)).any (·.1) = false := by rfl) (hc : X.calm = true := by rfl) (hK : X.K = k.K := by rfl) : PE X (.Call (.Name "min" p0) (a :: es) [] pos) (tD k W (eCB (dMin) fs)) := pd_cb (r := rMinD k.K) (by rw [← hK]; exact call_minD hc) c_min hg hm (by decide +kernel) ha (by decide) (by decide) he hpl
theorem pdf_sorted (hu : X.A.units + 64 < cLine) (hm : X.mg "sorted" = none) (ha : PA X (a :: es) (tL k W fs)) (hg : Gl X "sorted" := by rfl) (he : starEach (a :: es) X.env = (false, eval a X.env) :: starEach es X.env := by rfl) (hpl : (backTo pos (starEach es X.env)).any (·.1) = false := by rfl) (hK : X.K = k.K := by rfl) : PE X (.Call (.Name "sorted" p0) (a :: es) [] pos) (tN k W (eCBN (un dSorted) fs)) := pd_cbN (r := rSortedD k.K) (by rw [← hK]; exact cr_sortedD hu) c_sorted hg hm (by decide +kernel) ha (by decide) (by decide) he hpl
end
end PD


set_option Elab.async false
set_option linter.all false
set_option maxRecDepth 100000
set_option maxHeartbeats 1000000
/-! PDR2: the rules by data, in the form that the generator prints: places, stores, methods, loops. -/
namespace PD
open PySem PySem.Spec PyProof.Rows L2 RK
/-- one or the other -/
def eAlt (u v : Ev → Res RV) : Ev → Res RV := fun e => match u e with
  | .bad => v e
  | r => r
def qAlt (u v : Ev → Res Bool) : Ev → Res Bool := fun e => match u e with
  | .bad => v e
  | r => r
section
variable {k : Kn} {X : Cx} {W : WX} {fr : Bool} {f g h : Ev → Res RV} {a b c : Expr} {es rest : List Expr} {pos apos cpos p0 p2 : Pos} {fs : Ev → Res (List RV)} {x : Str} {lo hi : Option Expr} {l u : Ev → Res (Option Int)}
theorem pd_alt (h1 : PE X a (tD k W f)) (h2 : PE X a (tD k W g)) : PE X a (tD k W (eAlt f g)) := ⟨fun pins s σ H Q I q => by
  obtain ⟨B, G, e, r, p⟩ := q
  unfold eAlt at p
  cases z : f e with
  | ok x e' => rw [z] at p; exact h1.run pins s σ H Q I ⟨B, G, e, r, by rw [z]; exact p⟩
  | err c x e' => rw [z] at p; exact h1.run pins s σ H Q I ⟨B, G, e, r, by rw [z]; exact p⟩
  | bad => rw [z] at p; exact h2.run pins s σ H Q I ⟨B, G, e, r, p⟩⟩
theorem pdq_alt {f g : Ev → Res Bool} (h1 : PT X a (tQ k W f)) (h2 : PT X a (tQ k W g)) : PT X a (tQ k W (qAlt f g)) := ⟨fun pins s σ H Q I q => by
  obtain ⟨B, G, e, r, p⟩ := q
  unfold qAlt at p
  cases z : f e with
  | ok x e' => rw [z] at p; exact h1.run pins s σ H Q I ⟨B, G, e, r, by rw [z]; exact p⟩
  | err c x e' => rw [z] at p; exact h1.run pins s σ H Q I ⟨B, G, e, r, by rw [z]; exact p⟩
  | bad => rw [z] at p; exact h2.run pins s σ H Q I ⟨B, G, e, r, p⟩⟩
theorem pdx (ha : PE X a (tD k W f)) (hb : PE X b (tD k W g)) (hs : PlainIx b := by intro _ _; rfl) (hK : X.K = k.K := by rfl) : PE X (.Subscript a b pos) (tD k W (eOp dIx f g)) := pd_ix (r := rIx k.K) (by rw [← hK]; exact ix_seq) c_ix ha hb hs
theorem pdx_d (hu : X.A.units + 64 < cLine) (ha : PE X a (tD k W f)) (hb : PE X b (tD k W g)) (hs : NoSl b := by intro _ _; rfl) : PE X (.Subscript a b pos) (tD k W (eDGet f g)) := pd_dget (by omega) ha hb hs
theorem pdsl_T (ha : PE X a (tD k W f)) (hl : PO X lo (tOO k W l)) (hh : PO X hi (tOO k W u)) (hK : X.K = k.K := by rfl) : PE X (.Subscript a (.Slice lo hi none p2) pos) (tD k W (eSl dCutT f l u)) := pd_sl (r := rSlA k.K) (by rw [← hK]; exact sl_tupA) c_cutT ha hl hh
theorem pdsl_S (ha : PE X a (tD k W f)) (hl : PO X lo (tOO k W l)) (hh : PO X hi (tOO k W u)) : PE X (.Subscript a (.Slice lo hi none p2) pos) (tD k W (eSl dCutS f l u)) := pd_sl sl_str c_cutS ha hl hh
theorem pdsl_L (ha : PE X a (tD k W f)) (hl : PO X lo (tOO k W l)) (hh : PO X hi (tOO k W u)) (hK : X.K = k.K := by rfl) : PE X (.Subscript a (.Slice lo hi none p2) pos) (tN k W (eSlN dCutL f l u)) := pd_slN (r := rSlL k.K) (by rw [← hK]; exact sl_list) c_cutL ha hl hh
theorem pdrev_L {kk : Nat} {p1 p2 p3 : Pos} (he : PE X a (tD k W f)) (hK : X.K = k.K := by rfl) : PE X (.Subscript a (.Slice none none (some (.UnaryOp .USub (.Constant (.int 1) kk p1) p2)) p3) pos) (tN k W (eUnN dRevL f)) := pd_revL hK he
theorem pdrev_T {kk : Nat} {p1 p2 p3 : Pos} (he : PE X a (tD k W f)) (hK : X.K = k.K := by rfl) : PE X (.Subscript a (.Slice none none (some (.UnaryOp .USub (.Constant (.int 1) kk p1) p2)) p3) pos) (tD k W (eUn dRevT f)) := pd_revT hK he
theorem pdd_in (hu : X.A.units + 64 < cLine) (ha : PE X a (tD k W g)) (hb : PE X b (tD k W f)) (h1 : behindInMarks .In b = false := by rfl) : PE X (.Compare a [.In] [b] pos) (tD k W (eDIn g f)) := pd_din (by omega) ha hb h1
theorem pdd_notin (hu : X.A.units + 64 < cLine) (ha : PE X a (tD k W g)) (hb : PE X b (tD k W f)) (h1 : behindInMarks .NotIn b = false := by rfl) : PE X (.Compare a [.NotIn] [b] pos) (tD k W (eDNotIn g f)) := pd_dnotin (by omega) ha hb h1
theorem pdqd_in (hu : X.A.units + 64 < cLine) (ha : PE X a (tD k W g)) (hb : PE X b (tD k W f)) (h1 : behindInMarks .In b = false := by rfl) : PT X (.Compare a [.In] [b] pos) (tQ k W (qB (eDIn g f))) := pdt_din (by omega) ha hb h1
theorem pdqd_notin (hu : X.A.units + 64 < cLine) (ha : PE X a (tD k W g)) (hb : PE X b (tD k W f)) (h1 : behindInMarks .NotIn b = false := by rfl) : PT X (.Compare a [.NotIn] [b] pos) (tQ k W (qB (eDNotIn g f))) := pdt_dnotin (by omega) ha hb h1
theorem pdd_get2 (hu : X.A.units + 64 < cLine) (ho : PE X a (tD k W f)) (he : PE X b (tD k W g)) (hf : PE X c (tD k W h)) (m : M2 X a "get" apos b c cpos := by exact ⟨rfl, rfl, rfl, rfl⟩) : PE X (.Call (.Attribute a "get" apos) [b, c] [] cpos) (tD k W (eGet2 f g h)) := pd_get2 (by omega) ho he hf m
theorem pdd_get1 (hu : X.A.units + 64 < cLine) (ho : PE X a (tD k W f)) (he : PE X b (tD k W g)) (m : M1 X a "get" apos b cpos := by exact ⟨rfl, rfl, rfl, rfl⟩) : PE X (.Call (.Attribute a "get" apos) [b] [] cpos) (tD k W (eGet1 f g)) := pd_get1 (by omega) ho he m
theorem pdw_not {q : Ev → Res Bool} (ha : PT X a (tQ k W q)) : PT X (.UnaryOp .Not a pos) (tQ k W (qNot q)) := pdt_not ha
theorem pdw_bool {o : BoolOp} {q : Ev → Res Bool} (h : PW X (.BoolOp o es pos) (tQ k W q)) : PT X (.BoolOp o es pos) (tQ k W q) := PW.pt h
theorem pn1 {i : Nat} (h : k.pin i = none) : ∀ j ∈ [i], k.pin j = none := fun j hj => by rw [List.mem_singleton] at hj; rw [hj]; exact h
theorem pn2 {i l : Nat} (h : k.pin i = none) (h2 : k.pin l = none) : ∀ j ∈ [i, l], k.pin j = none := fun j hj => by
  rcases List.mem_cons.mp hj with hj | hj
  · rw [hj]; exact h
  · exact pn1 h2 j hj
theorem pn3 {i l m : Nat} (h : k.pin i = none) (h2 : k.pin l = none) (h3 : k.pin m = none) : ∀ j ∈ [i, l, m], k.pin j = none := fun j hj => by
  rcases List.mem_cons.mp hj with hj | hj
  · rw [hj]; exact h
  · exact pn2 h2 h3 j hj
theorem pds_par {i j : Nat} {y : Str} {c1 c2 : Cp} {px py pt pt2 : Pos} {kt k2 : Nat} (hc : X.calm = true) (hN : X.N.Nodup) (hi : X.N[i]? = some x) (hj : X.N[j]? = some y) (hij : i ≠ j) (hx : X.env.scope.names.lookup x = some .local) (hy : X.env.scope.names.lookup y = some .local) (h1 : PE X a (tCp k W c1)) (h2 : PE X b (tCp k W c2))
    (hsw : swappedStores [.Tuple [.Name x px, .Name y py] kt pt] (.Tuple [a, b] k2 pt2) X.env = pure (some [x, y])) (hpi : k.pin i = none) (hpj : k.pin j = none) (hs : swapsWithSole [.Tuple [.Name x px, .Name y py] kt pt] (.Tuple [a, b] k2 pt2) pos.line X.env = pure false := by rfl)
    (hst : starEach [a, b] X.env = (false, eval a X.env) :: starEach [b] X.env := by rfl) (hst2 : starEach [b] X.env = (false, eval b X.env) :: starEach [] X.env := by rfl) :
    PS X (.Assign [.Tuple [.Name x px, .Name y py] kt pt] (.Tuple [a, b] k2 pt2) pos) (tS k W fr (sPar i j c1 c2)) :=
  (ps_par hc hN hi hj hij hx hy (pa_cons h1 (pa_cons h2 pa_nil (hs := hst2)) (hs := hst)) hsw hs).weak fun _ _ _ p => par_sem hij hpi hpj p
theorem parT_sem {i j : Nat} (hij : i ≠ j) (hpi : k.pin i = none) (hpj : k.pin j = none) {c1 c2 : Cp} {D : Ends} {σ : L2.St} {H : Hp} (p : tS k W fr (sPar i j c1 c2) D σ H) : tAsg (tTup (tCons (tCp k W c1) (tCons (tCp k W c2) tNil))) (gTup X.K 2 (gCons (gName i) (gCons (gName j) gNil))) D σ H := by
  obtain ⟨B, G, e, r, p⟩ := p
  refine tCp_mono (cp_sem r (PostS.bindC (σ := σ) p)) fun v H1 ⟨B1, G1, e1, z, hd, S1, p1⟩ => ?_
  have p2 : PostC k B1 σ W (fun _ G2 _ e2 y _ => PostS k B W fr D G2 (.nx ((e2.set j y.sl).set i z.sl))) G1 (c2.run e1) :=
    PostC.base hd.base (by
      have := PostS.bindC (σ := σ) p1
      revert this
      cases c2.run e1 with
      | ok c e' => exact fun t B2 G' H' v h S _ => t B2 G' H' v h S
      | err c x e' => exact fun t => t
      | bad => exact fun t => t) fun c e' G' H' v B2 h _ => h.lower hd.base
  refine tCp_mono (cp_sem hd.1 p2) fun w H2 ⟨B2, G2, e2, y, hd2, S2, p3⟩ => ⟨(by show 2 ≤ sizeLine; rw [sizeLine_eq]; decide), fun T hT => ⟨T, [v, w], rfl, SqT.of upd_same, rfl, v, [w], rfl, w, [], rfl, rfl, ?_⟩⟩
  have r3 := hd2.set j hpj
  have r4 := (hd.step S2 r3).set i hpi
  rw [List.set_comm (some w) (some v) (Ne.symm hij)] at r4
  exact p3 _ G2 _ (r4.ext (Ext.hid r4.vis hT)) (Gr.refl B G2)
/-- the same where a name is read inside a comprehension: a tuple is made and taken apart -/
theorem pds_parT {i j : Nat} {y : Str} {c1 c2 : Cp} {px py pt pt2 : Pos} {kt k2 : Nat} (hc : X.calm = true) (hN : X.N.Nodup) (hi : X.N[i]? = some x) (hj : X.N[j]? = some y) (hij : i ≠ j) (hx : Loc X.env.scope x) (hy : Loc X.env.scope y) (h1 : PE X a (tCp k W c1)) (h2 : PE X b (tCp k W c2))
    (hpi : k.pin i = none) (hpj : k.pin j = none) (hf : X.fn x = true ∨ X.env.scope.names.lookup x = some .local := by first | exact .inl rfl | exact .inr rfl) (hf2 : X.fn y = true ∨ X.env.scope.names.lookup y = some .local := by first | exact .inl rfl | exact .inr rfl)
    (hsw : swappedStores [.Tuple [.Name x px, .Name y py] kt pt] (.Tuple [a, b] k2 pt2) X.env = pure none := by rfl) (hs : swapsWithSole [.Tuple [.Name x px, .Name y py] kt pt] (.Tuple [a, b] k2 pt2) pos.line X.env = pure false := by rfl)
    (hst : starEach [a, b] X.env = (false, eval a X.env) :: starEach [b] X.env := by rfl) (hst2 : starEach [b] X.env = (false, eval b X.env) :: starEach [] X.env := by rfl) :
    PS X (.Assign [.Tuple [.Name x px, .Name y py] kt pt] (.Tuple [a, b] k2 pt2) pos) (tS k W fr (sPar i j c1 c2)) :=
  (ps_asg (pe_tup (pa_cons h1 (pa_cons h2 pa_nil (hs := hst2)) (hs := hst))) (pg_tup (n := 2) hc (pgs_cons (pg_name hN hi hx hf) (pgs_cons (pg_name hN hj hy hf2) pgs_nil))) hs hsw).weak fun _ _ _ p => parT_sem hij hpi hpj p
end
end PD


set_option Elab.async false
set_option linter.all false
set_option maxRecDepth 100000
set_option maxHeartbeats 1000000
/-! PD21: a law's heap, its draws (what they mean). -/
namespace PD
open PySem PySem.Spec PyProof.Rows L2 RK
/-- without the noughts behind -/
def stripR (zs : List Int) : List Int := zs.reverse.dropWhile fun z => z == 0
def drawF (zs : List Int) (s m : Int) : Int × List Int × Int := match stripR zs with
  | r :: t => (r.fmod m, t.reverse ++ [r.fdiv m], s)
  | [] => ((((s * 48271 + 11) % 2147483647) / 64).fmod m, [], (s * 48271 + 11) % 2147483647)
def F__law_draw : List D → FR
  | [hd, .int m] => (match asHeap hd with
    | some (zs, s) => if 0 < m ∧ m < 2147483647 ∧ zs.length ≤ 100 ∧ 0 ≤ s ∧ s < 2147483647 then .ok (.int (drawF zs s m).1) [.heap (drawF zs s m).2.1 (drawF zs s m).2.2, .no] else .bad
    | none => .bad)
  | _ => .bad
theorem strip_len (zs : List Int) : (stripR zs).length ≤ zs.length := by
  unfold stripR
  exact Nat.le_trans (List.dropWhile_suffix _).length_le (by rw [List.length_reverse]; exact Nat.le_refl _)
theorem draw_ok {zs : List Int} {s m : Int} (hm : 0 < m) (hl : zs.length ≤ 100) (s0 : 0 ≤ s) (s1 : s < 2147483647) : 0 ≤ (drawF zs s m).1 ∧ (drawF zs s m).1 < m ∧ (drawF zs s m).2.1.length ≤ 100 ∧ 0 ≤ (drawF zs s m).2.2 ∧ (drawF zs s m).2.2 < 2147483647 := by
  have h := strip_len zs
  unfold drawF
  cases e : stripR zs with
  | nil =>
    have g0 := Int.emod_nonneg (s * 48271 + 11) (show (2147483647 : Int) ≠ 0 by decide)
    have g1 := Int.emod_lt_of_pos (s * 48271 + 11) (show (0 : Int) < 2147483647 by decide)
    exact ⟨Int.fmod_nonneg_of_pos _ hm, Int.fmod_lt_of_pos _ hm, Nat.zero_le _, g0, g1⟩
  | cons r t =>
    rw [e] at h
    refine ⟨Int.fmod_nonneg_of_pos _ hm, Int.fmod_lt_of_pos _ hm, ?_, s0, s1⟩
    show (t.reverse ++ [r.fdiv m]).length ≤ 100
    rw [List.length_append, List.length_reverse, List.length_singleton]
    rw [List.length_cons] at h
    omega
theorem draw_in {k : Kn} {vs : List V} {H : Hp} {Q : VK} {E : XK} (h : spD k [.h, .v] false F__law_draw vs H Q E) : ∃ (a l : Addr) (zs : List Int) (s m : Int), vs = [.ref a, .int m] ∧ a ≠ l ∧ H a = some (.lst [.ref l, .int s]) ∧ H l = some (.lst (zs.map V.int)) ∧ 0 ≤ s ∧ s < 2147483647 ∧ zs.length ≤ 100 ∧ 0 < m ∧ m < 2147483647 ∧
    ∀ H', H' a = some (.lst [.ref l, .int (drawF zs s m).2.2]) → H' l = some (.lst ((drawF zs s m).2.1.map V.int)) → Kh a l H H' → Q (.int (drawF zs s m).1) H' := by
  obtain ⟨hv, B, G, ds, e0, hi, r, p⟩ := h
  match vs, hv with
  | [v0, v1], _ =>
    match ds, hi with
    | [d0, d1], hi =>
      unfold inits at hi
      split at hi
      · rename_i s0 e1 q1 q2
        cases hi
        have q2 : (match slOf .v d1, inits [] [] with | some s, some e => some (s :: e) | _, _ => none) = some e1 := q2
        cases (show some [Sl.val d1] = some e1 from q2)
        obtain ⟨⟨zs, s⟩, hz, hs⟩ := Option.map_eq_some_iff.mp (show (asHeap d0).map (fun p => Sl.heap p.1 p.2) = some s0 from q1)
        subst hs
        cases d1 with
        | int m =>
          have p : PostF (k.at (pinOf [.h, .v] [v0, v1])) B [v0, v1] false Q E G (match asHeap d0 with
            | some (zs, s) => if 0 < m ∧ m < 2147483647 ∧ zs.length ≤ 100 ∧ 0 ≤ s ∧ s < 2147483647 then .ok (.int (drawF zs s m).1) [.heap (drawF zs s m).2.1 (drawF zs s m).2.2, .no] else .bad
            | none => .bad) := p
          rw [hz] at p
          dsimp only at p
          split at p
          · rename_i hc
            obtain ⟨c1, c2, c3, c4, c5⟩ := hc
            obtain ⟨g1, g2, g3, g4, g5⟩ := draw_ok (zs := zs) (s := s) c1 c3 c4 c5
            obtain ⟨fp, r0⟩ := r.drop 1
            have r0 : ERf _ B G [.heap zs s, .no] ([v0, v1].map some) H fp := r0
            obtain ⟨a, h1, l, h2, h3, h4, h5, h6, h7, h8⟩ := r0.own 0 (.heap zs s) rfl rfl
            have h1 : some (some v0) = some (some (V.ref a)) := h1
            cases h1
            obtain ⟨v, w1, w2⟩ := r.val (i := 1) (d := .int m) rfl
            have w1 : some (some v1) = some (some v) := w1
            cases w1
            cases w2
            refine ⟨a, l, zs, s, m, rfl, h3, h4, h5, h6, h7, h8, c1, c2, fun H' e1 e2 kh => ?_⟩
            refine p.1 rfl G H' (.int (drawF zs s m).1) ⟨fp, r0.step (fun i => i = 0) (fun b o eb nb => ?_) (L2.Same.refl G) (fun b o eb => ?_) (fun b o eb => .inl eb) rfl (fun i hi => ?_) ?_⟩ (Gr.refl B G) (.int _)
            · have hb := nb 0 _ rfl rfl rfl
              rw [h2] at hb
              exact kh b o eb (fun z => hb (z ▸ List.mem_cons_self)) fun z => hb (z ▸ List.mem_cons_of_mem _ List.mem_cons_self)
            · have ha : b ≠ a := fun z => by
                have := (r0.free 0 _ a rfl rfl (by rw [h2]; exact List.mem_cons_self)).2
                rw [z, this] at eb; cases eb
              have hb : b ≠ l := fun z => by
                have := (r0.free 0 _ l rfl rfl (by rw [h2]; exact List.mem_cons_of_mem _ List.mem_cons_self)).2
                rw [z, this] at eb; cases eb
              exact kh b o (r0.vis b o eb) ha hb
            · cases i with
              | zero => exact absurd rfl hi
              | succ i => rfl
            · rintro i rfl t ht
              cases ht
              exact ⟨_, a, rfl, rfl, rfl, rfl, l, h2, h3, e1, e2, g4, g5, g3⟩
          · exact p.elim
        | _ => exact p.elim
      · cases hi
    | [], hi => cases hi
    | [_], hi =>
      unfold inits at hi
      split at hi
      · rename_i q1 q2; cases q2
      · cases hi
    | _ :: _ :: _ :: _, hi =>
      unfold inits at hi
      split at hi
      · rename_i q1 q2
        unfold inits at q2
        split at q2
        · rename_i q3 q4; cases q4
        · cases q2
      · cases hi
def muZ (l : Addr) (H : Hp) : Nat := match H l with
  | some (.lst xs) => xs.length
  | _ => 0
theorem muZ_eq {H : Hp} {l : Addr} {xs : List V} (e2 : H l = some (.lst xs)) : muZ l H = xs.length := by
  unfold muZ
  simp only [e2]
theorem strip_app {ys : List Int} : stripR (ys ++ [0]) = stripR ys := by
  unfold stripR
  rw [List.reverse_append]
  rfl
theorem strip_no {ys : List Int} {z : Int} (h : z ≠ 0) : stripR (ys ++ [z]) = (ys ++ [z]).reverse := by
  unfold stripR
  rw [List.reverse_append]
  show List.dropWhile _ (z :: ys.reverse) = z :: ys.reverse
  rw [List.dropWhile_cons, if_neg (by rw [beq_iff_eq]; exact h)]
end PD


set_option Elab.async false
set_option linter.all false
set_option maxRecDepth 100000
set_option maxHeartbeats 1000000
/-! PD22: what a clause reads of its error. -/
namespace PD
open PySem PySem.Spec PyProof.Rows L2 RK
/-- the field of the error that a clause holds -/
def eXf (fd : Str → Option Str) (n c : Str) (x : Option D) : Ev → Res RV := fun e => match x with
  | some y => if fd c = some n then .ok (.d y) e else .bad
  | none => .bad
/-- isinstance of it -/
def eXi (b : Str → Option Bool) (c : Str) (x : Option D) : Ev → Res RV := fun e => match x, b c with
  | some _, some z => .ok (.d (.bl z)) e
  | _, _ => .bad
/-- the classes of errors: attributes are found at the object -/
structure ExOk (K : PySem.W.Frag) (en fd : Str → Option Str) (ad : Str → Option Addr) : Prop where
  ok : ∀ c C n, ad c = some C → fd c = some n → XfC K C ∧ ExcC K C ∧ PySem.W.findIn K (.ref C) n = some none
section
variable {k : Kn} {X : Cx} {a C : Addr} {oe : Obj} {cls : Value} {d : Option Addr} {pn : List (Addr × Obj)} {c n m : Str} {x : Option D} {kp : Option (Addr × Str × V × D)} {i : Nat} {pos p0 : Pos}
structure ErOk (K : PySem.W.Frag) (en : Str → Option Addr) (fd : Str → Option Str) : Prop where
  ok : ∀ c C n, en c = some C → fd c = some n → XfC K C ∧ ExcC K C ∧ PySem.W.findIn K (.ref C) n = some none
theorem pd_xf {W : WX} (T : ErOk X.K k.en k.fd) (hz : Zc cls d oe) (hf : ∃ vs, oe.data = .fields vs) (hc : k.en c = some C) (hcl : cls = .ref C) (hkp : KpOk k c x d kp)
    (hN : X.N[i]? = some m := by rfl) (hv : Vis X.env.scope m := by first | exact Or.inl rfl | exact Or.inr (Or.inl rfl) | exact Or.inr (Or.inr rfl)) (hd : (m == ("__debug__" : Str)) = false := by decide) (hcd : (m == ("__classdict__" : Str)) = false := by decide)
    (hb : attributeBase (.Name m p0) n X.env (eval (.Name m p0) X.env) = eval (.Name m p0) X.env := by rfl) : PE (X.suite a ((a, oe) :: pn)) (.Attribute (.Name m p0) n pos) (tD (k.cl (some i) a kp) W (eXf k.fd n c x)) := by
  cases x with
  | none => exact ⟨fun pins s σ H Q I ⟨B, G, e, r, p⟩ => p.elim⟩
  | some y =>
    by_cases hn : k.fd c = some n
    · obtain ⟨t1, t2, t3⟩ := T.ok c C n hc hn
      obtain ⟨dd, f, v, h1, h2, h3⟩ := hkp
      rw [hn] at h2
      cases h2
      refine (pe_xf (pn := pn) t1 t3 hz hf (pe_var (X := X.suite a ((a, oe) :: pn)) hN hv hd hcd) hb).weak fun σ H Q ⟨B, G, e, r, p⟩ => ?_
      have p : PostR _ B σ W _ G (if k.fd c = some n then Res.ok (RV.d y) e else .bad) := p
      rw [if_pos hn] at p
      obtain ⟨fp, r1⟩ := id r
      have hs : σ[i]? = some (some (.ref a)) := r1.pin i a (by show (if i = i then some a else k.pin i) = some a; rw [if_pos rfl])
      obtain ⟨k1, k2⟩ := r1.kept dd n v y h3
      exact ⟨_, hs, rfl, hcl, dd, _, v, h1, k1, (by simp [List.lookup]), p G H r (Gr.refl B G) v k2⟩
    · refine ⟨fun pins s σ H Q I ⟨B, G, e, r, p⟩ => ?_⟩
      have p : PostR _ B σ W _ G (if k.fd c = some n then Res.ok (RV.d y) e else .bad) := p
      rw [if_neg hn] at p
      exact p.elim
theorem pd_xi {W : WX} {b : Str → Option Bool} {u : V} {uv : Value} {q : Expr} {z : Str} {p1 : Pos} (T : ErOk X.K k.en k.fd) (hz : Zc cls d oe) (hf : ∃ vs, oe.data = .fields vs) (hc : k.en c = some C) (hcl : cls = .ref C) (hkp : KpOk k c x d kp)
    (hu : ClsV u uv) (hq : PE (X.suite a ((a, oe) :: pn)) q (tC u)) (hbk : ∀ c C t, k.en c = some C → b c = some t → PySem.W.kitOne X.K (.ref C) uv = some t) (hzn : z = ("isinstance" : Str)) (hm : X.mg z = none) (hg : Gl X z := by rfl)
    (hN : X.N[i]? = some m := by rfl) (hv : Vis X.env.scope m := by first | exact Or.inl rfl | exact Or.inr (Or.inl rfl) | exact Or.inr (Or.inr rfl)) (hd : (m == ("__debug__" : Str)) = false := by decide) (hcd : (m == ("__classdict__" : Str)) = false := by decide)
    (he : starEach [.Name m p0, q] X.env = (false, eval (.Name m p0) X.env) :: starEach [q] X.env := by rfl) (he2 : starEach [q] X.env = (false, eval q X.env) :: starEach [] X.env := by rfl) (hpl : (backTo pos (starEach [q] X.env)).any (·.1) = false := by rfl) :
    PE (X.suite a ((a, oe) :: pn)) (.Call (.Name z p1) [.Name m p0, q] [] pos) (tD (k.cl (some i) a kp) W (eXi b c x)) := by
  subst hzn
  cases x with
  | none => exact ⟨fun pins s σ H Q I ⟨B, G, e, r, p⟩ => p.elim⟩
  | some y =>
    cases hb : b c with
    | none =>
      refine ⟨fun pins s σ H Q I ⟨B, G, e, r, p⟩ => ?_⟩
      unfold eXi at p
      rw [hb] at p
      exact p.elim
    | some t =>
      obtain ⟨dd, f, v, h1, h2, h3⟩ := hkp
      obtain ⟨t1, t2, t3⟩ := T.ok c C f hc h2
      refine (pe_callB (X := X.suite a ((a, oe) :: pn)) (call_isErr t2 hz hf) hg hm boot_isinstance (pa_cons (pe_var (X := X.suite a ((a, oe) :: pn)) hN hv hd hcd) (pa_cons hq pa_nil (hs := he2)) (hs := he)) (by decide) (by decide) he hpl).weak fun σ H Q ⟨B, G, e, r, p⟩ => ?_
      unfold eXi at p
      rw [hb] at p
      obtain ⟨fp, r1⟩ := id r
      have hs : σ[i]? = some (some (.ref a)) := r1.pin i a (by show (if i = i then some a else k.pin i) = some a; rw [if_pos rfl])
      obtain ⟨k1, k2⟩ := r1.kept dd f v y h3
      exact ⟨_, hs, u, uv, t, dd, _, rfl, hcl, h1, hu, k1, hbk c C t hc hb, p G H r (Gr.refl B G) _ (.bl _)⟩
end
end PD


set_option Elab.async false
set_option linter.all false
set_option maxRecDepth 100000
set_option maxHeartbeats 1000000
/-! PD23: a slot gets a law's heap. -/
namespace PD
open PySem PySem.Spec PyProof.Rows L2 RK
def spHeapD (k : Kn) (f : List Int → List Int × Int) : Sp := fun vs H Q _ => ∃ (a : Addr) (ns : List Int), vs = [.ref a] ∧ SqL k.K H a (ns.map V.int) ∧ ns.length ≤ 63 ∧
  ∀ (h l : Addr) (H' : Hp), L2.Same H H' → H h = none → H l = none → h ≠ l → H' h = some (.lst [.ref l, .int (f ns).2]) → H' l = some (.lst ((f ns).1.map V.int)) → Q (.ref h) H'
def putHeap (i : Nat) (f : List Int → List Int × Int) (e1 : Ev) : List RV → SR
  | [.d (.scr ns)] => if 0 ≤ (f ns).2 ∧ (f ns).2 < 2147483647 ∧ (f ns).1.length ≤ 100 then .nx (e1.set i (.heap (f ns).1 (f ns).2)) else .bad
  | _ => .bad
def sHeap (i : Nat) (f : List Int → List Int × Int) (g : Ev → Res (List RV)) : Ev → SR := fun e => (g e).andS fun xs e1 => putHeap i f e1 xs
section
variable {k : Kn} {B G H : Hp} {e : Ev} {σ : L2.St} {W : WX} {fr : Bool} {X : Cx}
theorem ER.setHeap {H' : Hp} {h l : Addr} {zs : List Int} {s : Int} {i : Nat} (r : ER k B G e σ H) (S : L2.Same H H') (hh : H h = none) (hl : H l = none) (ne : h ≠ l) (e1 : H' h = some (.lst [.ref l, .int s])) (e2 : H' l = some (.lst (zs.map V.int))) (b : 0 ≤ s ∧ s < 2147483647 ∧ zs.length ≤ 100) (hp : k.pin i = none) :
    ER k B G (e.set i (.heap zs s)) (σ.set i (some (.ref h))) H' := by
  obtain ⟨bh, gh⟩ := r.none_ hh
  obtain ⟨bl, gl⟩ := r.none_ hl
  have hlen := r.len
  obtain ⟨fp0, r0⟩ := r.any i (some (.ref h)) hp
  have nf : ∀ {j : Nat} {t : Sl} {c : Addr}, (e.set i .no)[j]? = some t → t.isOwn = true → c ∈ fp0 j → c ≠ h ∧ c ≠ l := fun {j t c} hj ho hc => by
    obtain ⟨a, _, h2⟩ := r0.own j t hj ho
    obtain ⟨u, hu⟩ := h2.there hc
    exact ⟨fun z => (by rw [z, hh] at hu; cases hu), fun z => (by rw [z, hl] at hu; cases hu)⟩
  have at_ : ∀ {j : Nat} {t : Sl}, j ≠ i → (e.set i (.heap zs s))[j]? = some t → (e.set i .no)[j]? = some t := fun {j t} hj h => by
    rw [List.getElem?_set_ne (fun z => hj z.symm)] at h ⊢; exact h
  have at_i : ∀ {t : Sl}, (e.set i (.heap zs s))[i]? = some t → t = .heap zs s ∧ i < e.length := fun {t} h => by
    by_cases hl : i < e.length
    · rw [List.getElem?_set_self hl] at h; cases h; exact ⟨rfl, hl⟩
    · rw [List.getElem?_eq_none (by rw [List.length_set]; omega)] at h; cases h
  refine ⟨fun j => if j = i then [h, l] else fp0 j, by rw [List.length_set, List.length_set, hlen], r0.base.trans S, r0.vis.trans S, fun j d hj => ?_, fun j t hj ho => ?_, fun j t c hj ho hc => ?_, fun j j2 t t2 c n1 hj ho hj2 ho2 hc hc2 => ?_, r0.pin, fun dd f v d q => ⟨S _ _ (r0.kept dd f v d q).1, (r0.kept dd f v d q).2⟩⟩
  · by_cases z : j = i
    · subst z
      cases (at_i hj).1
    · exact r0.val j d (at_ z hj)
  · by_cases z : j = i
    · subst z
      obtain ⟨rfl, hl'⟩ := at_i hj
      refine ⟨h, List.getElem?_set_self (by rw [hlen]; exact hl'), l, ?_, ne, e1, e2, b.1, b.2.1, b.2.2⟩
      show (if j = j then [h, l] else fp0 j) = _
      rw [if_pos rfl]
    · obtain ⟨a, h1, h2⟩ := r0.own j t (at_ z hj) ho
      refine ⟨a, h1, ?_⟩
      show OwnR k G H' t a (if j = i then [h, l] else fp0 j)
      rw [if_neg z]
      exact h2.keep (L2.Same.refl G) fun c _ o eo => S c o eo
  · have hc : c ∈ (if j = i then [h, l] else fp0 j) := hc
    by_cases z : j = i
    · rw [if_pos z] at hc
      rcases List.mem_cons.mp hc with rfl | hc
      · exact ⟨bh, gh⟩
      · rw [List.mem_singleton] at hc
        subst hc
        exact ⟨bl, gl⟩
    · rw [if_neg z] at hc
      exact r0.free j t c (at_ z hj) ho hc
  · have hc : c ∈ (if j = i then [h, l] else fp0 j) := hc
    have hc2 : c ∈ (if j2 = i then [h, l] else fp0 j2) := hc2
    have no : ∀ {j : Nat} {t : Sl}, (e.set i .no)[j]? = some t → t.isOwn = true → c ∈ fp0 j → c ∈ [h, l] → False := fun {j t} h1 h2 h3 h4 => by
      obtain ⟨n1, n2⟩ := nf h1 h2 h3
      rcases List.mem_cons.mp h4 with z | z
      · exact n1 z
      · exact n2 (List.mem_singleton.mp z)
    by_cases z : j = i
    · rw [if_pos z] at hc
      have z2 : j2 ≠ i := fun z2 => n1 (z.trans z2.symm)
      rw [if_neg z2] at hc2
      exact no (at_ z2 hj2) ho2 hc2 hc
    · rw [if_neg z] at hc
      by_cases z2 : j2 = i
      · rw [if_pos z2] at hc2
        exact no (at_ z hj) ho hc hc2
      · rw [if_neg z2] at hc2
        exact r0.sep j j2 t t2 c n1 (at_ z hj) ho (at_ z2 hj2) ho2 hc hc2
theorem heap_sem {i : Nat} {f : List Int → List Int × Int} {fs : Ev → Res (List RV)} {D : Ends} {E : L2.St → XK} (hp : k.pin i = none) (p : tS k W fr (sHeap i f fs) D σ H) : tAsg (tCallS (spHeapD k f) E (tL k W fs)) (gName i) D σ H := by
  obtain ⟨B, G, e, r, p⟩ := p
  refine ⟨B, G, e, r, p.bind.imp fun G1 H1 e1 xs r1 S1 p1 vs hvs => ?_⟩
  have p2 : PostS k B W fr D G1 (putHeap i f e1 xs) := p1
  clear p1
  unfold putHeap at p2
  split at p2
  · rename_i ns
    obtain ⟨v, ws, rfl, hv, hw⟩ := hvs
    have hw : ws = [] := hw
    subst hw
    have hv : Rep k G1 (.scr ns) v := hv
    cases hv with
    | scr hq hn =>
      rename_i a
      split at p2
      · rename_i hc
        refine ⟨a, ns, rfl, sqL_mono r1.vis hq, hn, fun h l H' S hh hl ne q1 q2 => ?_⟩
        exact p2 _ G1 H' (r1.setHeap S hh hl ne q1 q2 hc hp) (Gr.refl B G1)
      · exact p2.elim
  · exact p2.elim
theorem pds_heap {i j lv : Nat} {x y : Str} {ps : List Str} {pos' p0 pos cpos : Pos} {a : Expr} {f : List Int → List Int × Int} {fs : Ev → Res (List RV)} (c : Cl X.prog X.w X.K X.mg X.base (CX X.prog X.w) lv y ps (spHeapD k f)) (hr : Room j X.A) (tk : Takes X W) (hN : X.N.Nodup) (hi : X.N[i]? = some x) (hx : Loc X.env.scope x) (ha : PA X [a] (tL k W fs)) (hk : lv ≤ j := by decide)
    (hg : Gl X y := by rfl) (hd : (y == ("__debug__" : Str)) = false := by decide +kernel) (he : starEach [a] X.env = (false, eval a X.env) :: starEach [] X.env := by rfl) (hpl : (backTo cpos (starEach [] X.env)).any (·.1) = false := by rfl)
    (hs : swapsWith (.Call (.Name y p0) [a] [] cpos) (some (.Name x pos')) pos.line X.env = pure false := by rfl) (hf : X.fn x = true ∨ X.env.scope.names.lookup x = some .local := by first | exact .inl rfl | exact .inr rfl | assumption) (hp : k.pin i = none := by rfl) :
    PS X (.Assign [.Name x pos'] (.Call (.Name y p0) [a] [] cpos) pos) (tS k W fr (sHeap i f fs)) :=
  (ps_set hN hi hx (pe_fS c hr hk (passAt tk) ha hg hd he hpl) hs hf).weak fun _ _ _ p => heap_sem hp p
end
end PD


set_option Elab.async false
set_option linter.all false
set_option maxRecDepth 100000
set_option maxHeartbeats 1000000
/-! PD24: sorted of a dict's texts, split, ord. -/
namespace PD
open PySem PySem.Spec PyProof.Rows L2 RK
def leS (a b : Str) : Bool := !decide (ltS b a)
def sortS (l : List Str) : List Str := l.mergeSort leS
theorem leS_iff {a b : Str} : leS a b = true ↔ LeS a b := by
  unfold leS LeS
  simp
theorem perm_le_eq : ∀ {l m : List Str}, l.Perm m → l.Pairwise LeS → m.Pairwise LeS → l = m
  | [], m, p, _, _ => (List.nil_perm.mp p).symm
  | x :: l, [], p, _, _ => absurd p.length_eq (by simp)
  | x :: l, y :: m, p, hl, hm => by
    rw [List.pairwise_cons] at hl hm
    have e : x = y := by
      have hx : x ∈ y :: m := p.mem_iff.mp List.mem_cons_self
      have hy : y ∈ x :: l := p.mem_iff.mpr List.mem_cons_self
      rcases List.mem_cons.mp hx with h | h
      · exact h
      · rcases List.mem_cons.mp hy with h' | h'
        · exact h'.symm
        · exact ltS_tri (hm.1 x h) (hl.1 y h')
    subst e
    rw [perm_le_eq p.cons_inv hl.2 hm.2]
theorem sortS_perm (l : List Str) : (sortS l).Perm l := List.mergeSort_perm l leS
theorem sortS_le (l : List Str) : (sortS l).Pairwise LeS := by
  have h := List.pairwise_mergeSort (le := leS) (fun a b c h1 h2 => leS_iff.mpr ((leS_iff.mp h1).trans (leS_iff.mp h2))) (fun a b => by
    unfold leS
    by_cases h : ltS b a
    · have := ltS_asymm h
      simp [h, this]
    · simp [h]) l
  exact h.imp fun q => leS_iff.mp q
theorem sortS_eq {l m : List Str} (p : m.Perm l) (h : sortedS m = true) : m = sortS l :=
  perm_le_eq (p.trans (sortS_perm l).symm) (sortedS_le h) (sortS_le l)
def keysS : List (D × D) → Option (List Str)
  | [] => some []
  | (.str x, _) :: r => (keysS r).map (x :: ·)
  | _ => none
theorem keysS_rep {k : Kn} {G : Hp} : ∀ {ks : List (D × D)} {vs : List (Key × V)} {xs : List Str}, RepK k G ks vs → keysS ks = some xs → vs.map (·.1) = xs.map Sum.inr ∧ ∀ x ∈ xs, PyData.strOk x = true
  | _, _, _, .nil, e => by cases e; exact ⟨rfl, fun _ h => absurd h List.not_mem_nil⟩
  | _, _, xs, @RepK.cons _ _ x d v ds vs o p q, e => by
    cases x with
    | inl i => cases e
    | inr z =>
      obtain ⟨ys, e1, rfl⟩ := Option.map_eq_some_iff.mp (show (keysS ds).map (z :: ·) = some xs from e)
      obtain ⟨h1, h2⟩ := keysS_rep q e1
      exact ⟨by rw [List.map_cons, h1]; rfl, fun y hy => (List.mem_cons.mp hy).elim (fun z => z ▸ o) (h2 y)⟩
def dSortedK : D → Option D
  | .dic false ks => match keysS ks with
    | some xs => if xs.length < 64 then some (.lst ((sortS xs).map .str)) else none
    | none => none
  | _ => none
def rSortedK : List V → Hp → VK → Prop := fun xs H Q => ∃ (a : Addr) (kvs : List (Key × V)) (ks : List Str), xs = [.ref a] ∧ Rd H a (.dK kvs) ∧ kvs.map (·.1) = ks.map Sum.inr ∧ ks.length < 64 ∧ ∀ ys p, ys.Perm ks → sortedS ys = true → H p = none → Q (.ref p) (upd H p (.lst (ys.map V.str)))
theorem reps_str {k : Kn} {G : Hp} : ∀ {xs : List Str}, (∀ x ∈ xs, PyData.strOk x = true) → RepAll k G (xs.map .str) (xs.map V.str)
  | [], _ => .nil
  | x :: xs, h => .cons (.str _ (h x List.mem_cons_self)) (reps_str fun y hy => h y (List.mem_cons_of_mem _ hy))
theorem c_sortedK {k : Kn} : ConsLN k rSortedK (un dSortedK) := consLN_un fun G H d z v Q S n e g => by
  cases d with
  | dic t ks =>
    cases t with
    | true => cases e
    | false =>
      unfold dSortedK at e
      dsimp only at e
      split at e
      · rename_i xs hx
        split at e
        · rename_i hl
          cases e
          obtain ⟨a, rfl, ⟨_, vs, h1, rk⟩ | ⟨h0, _⟩⟩ := n
          · obtain ⟨h2, h3⟩ := keysS_rep rk hx
            refine ⟨a, vs, xs, rfl, .inl h1, h2, hl, fun ys p hp hs hn => ?_⟩
            rw [sortS_eq hp hs]
            have hm : ∀ x ∈ sortS xs, PyData.strOk x = true := fun x hx' => h3 x ((sortS_perm xs).mem_iff.mp hx')
            refine g p _ hn (.lst ?_ (reps_str hm))
            rw [List.length_map, (sortS_perm xs).length_eq]
            exact len1000 (by omega)
          · cases h0
        · cases e
      · cases e
  | _ => cases e
def eSplit (f g : Ev → Res RV) : Ev → Res D := fun e => (f e).bind fun x e1 => match x with
  | .d (.str a) => (g e1).bind fun y e2 => match y with
    | .d (.str b) => if (b.length == 0) = false ∧ a.length ≤ 1000 ∧ (Txt.split a b).length ≤ 1000 ∧ (Txt.split a b).all PyData.strOk = true then .ok (.lst ((Txt.split a b).map .str)) e2 else .bad
    | _ => .bad
  | _ => .bad
def dOrd : D → Option D
  | .str x => if x.length = 1 then some (.int (x.cps.getD 0 0 : Nat)) else none
  | _ => none
theorem c_ord {k : Kn} : ConsL k (fun xs H Q => ∃ x, xs = [.str x] ∧ x.length = 1 ∧ Q (.int (x.cps.getD 0 0 : Nat)) H) (un dOrd) := consL_un fun G H d z v Q S n e g => by
  cases d with
  | str x =>
    unfold dOrd at e
    dsimp only at e
    split at e
    · rename_i hl
      cases e
      cases n
      exact ⟨x, rfl, hl, gives_sc S g (.int _)⟩
    · cases e
  | _ => cases e
section
variable {k : Kn} {X : Cx} {W : WX} {f g : Ev → Res RV} {o a : Expr} {apos pos p0 : Pos} {es : List Expr} {fs : Ev → Res (List RV)}
theorem pdf_sortedK (hm : X.mg "sorted" = none) (ha : PA X (a :: es) (tL k W fs)) (hg : Gl X "sorted" := by rfl) (he : starEach (a :: es) X.env = (false, eval a X.env) :: starEach es X.env := by rfl) (hpl : (backTo pos (starEach es X.env)).any (·.1) = false := by rfl) (hc : X.calm = true := by rfl) : PE X (.Call (.Name "sorted" p0) (a :: es) [] pos) (tN k W (eCBN (un dSortedK) fs)) :=
  pd_cbN (r := rSortedK) (call_sortedD hc) c_sortedK hg hm (by decide +kernel) ha (by decide) (by decide) he hpl
theorem pdf_ord (hm : X.mg "ord" = none) (ha : PA X (a :: es) (tL k W fs)) (hg : Gl X "ord" := by rfl) (he : starEach (a :: es) X.env = (false, eval a X.env) :: starEach es X.env := by rfl) (hpl : (backTo pos (starEach es X.env)).any (·.1) = false := by rfl) : PE X (.Call (.Name "ord" p0) (a :: es) [] pos) (tD k W (eCB (un dOrd) fs)) :=
  pd_cb call_ord c_ord hg hm (by decide +kernel) ha (by decide) (by decide) he hpl
theorem pd_split (ho : PE X o (tD k W f)) (he : PE X a (tD k W g)) (hs : starEach [a] X.env = [(false, eval a X.env)] := by rfl) (hbase : attributeBase o "split" X.env (eval o X.env) = eval o X.env := by rfl) (hline : (apos.endLine == pos.line) = true := by rfl) :
    PE X (.Call (.Attribute o "split" apos) [a] [] pos) (tN k W (eSplit f g)) :=
  (pe_split ho he hs hbase hline).weak fun σ H Q ⟨B, G, e, r, p⟩ => ⟨B, G, e, r, p.bind.imp fun G1 H1 e1 x r1 S1 p1 v hv => by
    split at p1
    · rename_i s
      cases hv
      refine ⟨⟨s, rfl⟩, B, G1, e1, r1, p1.bind.imp fun G2 H2 e2 y r2 S2 p2 w hw => ?_⟩
      split at p2
      · rename_i b
        cases hw
        split at p2
        · rename_i hc
          obtain ⟨h1, h2, h3, h4⟩ := hc
          refine ⟨s, b, rfl, rfl, h1, len1000 (by omega) |> fun _ => Nat.le_trans (by omega : s.length + 2 ≤ 2000) (by rw [sizeLine_eq]; decide), fun p hp => ?_⟩
          refine post_givesN r2 p2 p _ hp (.lst (by rw [List.length_map]; exact len1000 h3) (reps_str fun x hx => List.all_eq_true.mp h4 x hx))
        · exact p2.elim
      · exact p2.elim
    · exact p1.elim⟩
end
end PD


set_option Elab.async false
set_option linter.all false
set_option maxRecDepth 100000
set_option maxHeartbeats 1000000
/-! EV1: what the meanings of PD come to on plain data: operators, calls, loops, comprehensions. -/
namespace PD
open PySem PySem.Spec PyProof.Rows L2 RK
theorem Res.bind_congr' {α β : Type} {r r' : Res α} {g : α → Ev → Res β} (h : r = r') : r.bind g = r'.bind g := by rw [h]
theorem Res.andS_congr' {α : Type} {r r' : Res α} {g : α → Ev → SR} (h : r = r') : r.andS g = r'.andS g := by rw [h]
theorem SR.seq_congr' {r r' : SR} {g : Ev → SR} (h : r = r') : r.seq g = r'.seq g := by rw [h]
def chB (o : Option D) (a b : Res RV) : Res RV := match o with
  | some (.bl true) => a
  | some (.bl false) => b
  | _ => .bad
@[simp] theorem chB_some {c : Bool} {a b : Res RV} : chB (some (.bl c)) a b = if c = true then a else b := by cases c <;> rfl
theorem chB_congr {o o' : Option D} {a b : Res RV} (h : o = o') : chB o a b = chB o' a b := by rw [h]
def trB (o : Option Bool) (a b : Res RV) : Res RV := match o with
  | some true => a
  | some false => b
  | none => .bad
@[simp] theorem trB_some {c : Bool} {a b : Res RV} : trB (some c) a b = if c = true then a else b := by cases c <;> rfl
theorem trB_congr {o o' : Option Bool} {a b : Res RV} (h : o = o') : trB o a b = trB o' a b := by rw [h]
@[simp] theorem ev_eC {d : D} {e : Ev} : eC d e = .ok (.d d) e := rfl
@[simp] theorem ev_eUn {op : D → Option D} {f : Ev → Res RV} {e : Ev} : eUn op f e = (f e).bind fun x e1 => ofOpt ((de e1 x).bind fun d => (op d).map RV.d) e1 := rfl
@[simp] theorem ev_eOp {op : D → D → Option D} {f g : Ev → Res RV} {e : Ev} : eOp op f g e = (f e).bind fun x e1 => (g e1).bind fun y e2 => ofOpt ((de e2 x).bind fun a => (de e2 y).bind fun b => (op a b).map RV.d) e2 := rfl
@[simp] theorem ev_eOpN {op : D → D → Option D} {f g : Ev → Res RV} {e : Ev} : eOpN op f g e = (f e).bind fun x e1 => (g e1).bind fun y e2 => ofOpt ((de e2 x).bind fun a => (de e2 y).bind fun b => op a b) e2 := rfl
@[simp] theorem ev_eChain {op op' : D → D → Option D} {f g h : Ev → Res RV} {e : Ev} : eChain op op' f g h e = (f e).bind fun x e1 => (g e1).bind fun y e2 => chB ((de e2 x).bind fun a => (de e2 y).bind fun b => op a b) ((h e2).bind fun z e3 => ofOpt ((de e3 y).bind fun a => (de e3 z).bind fun b => (op' a b).map RV.d) e3) (.ok (.d (.bl false)) e2) := rfl
@[simp] theorem ev_eOr {f g : Ev → Res RV} {e : Ev} : eOr f g e = (f e).bind fun x e1 => trB ((de e1 x).bind truthy) (.ok x e1) (g e1) := rfl
@[simp] theorem ev_eAnd {f g : Ev → Res RV} {e : Ev} : eAnd f g e = (f e).bind fun x e1 => trB ((de e1 x).bind truthy) (g e1) (.ok x e1) := rfl
@[simp] theorem ev_eNot {f : Ev → Res RV} {e : Ev} : eNot f e = (f e).bind fun x e1 => ofOpt (((de e1 x).bind truthy).map fun b => RV.d (.bl !b)) e1 := rfl
@[simp] theorem ev_qTru {f : Ev → Res RV} {e : Ev} : qTru f e = (f e).bind fun x e1 => ofOpt ((de e1 x).bind truthy) e1 := rfl
@[simp] theorem ev_qB {f : Ev → Res RV} {e : Ev} : qB f e = (f e).bind fun x e1 => ofOpt (asB x) e1 := rfl
@[simp] theorem ev_qNot {f : Ev → Res Bool} {e : Ev} : qNot f e = (f e).bind fun b e1 => .ok (!b) e1 := rfl
@[simp] theorem ev_qAnd {f g : Ev → Res Bool} {e : Ev} : qAnd f g e = (f e).bind fun b e1 => if b = true then g e1 else .ok false e1 := rfl
@[simp] theorem ev_qOr {f g : Ev → Res Bool} {e : Ev} : qOr f g e = (f e).bind fun b e1 => if b = true then .ok true e1 else g e1 := rfl
@[simp] theorem ev_eIf {c : Ev → Res Bool} {f g : Ev → Res RV} {e : Ev} : eIf c f g e = (c e).bind fun b e1 => if b = true then f e1 else g e1 := rfl
@[simp] theorem ev_lNil  {e : Ev} : lNil e = .ok [] e := rfl
@[simp] theorem ev_lCons {f : Ev → Res RV} {g : Ev → Res (List RV)} {e : Ev} : lCons f g e = (f e).bind fun x e1 => (g e1).bind fun xs e2 => .ok (x :: xs) e2 := rfl
@[simp] theorem ev_eLst {fs : Ev → Res (List RV)} {e : Ev} : eLst fs e = (fs e).bind fun xs e1 => ofOpt ((pures xs).bind fun ds => if ds.length ≤ 1000 then some (.lst ds) else none) e1 := rfl
@[simp] theorem ev_eTup {fs : Ev → Res (List RV)} {e : Ev} : eTup fs e = (fs e).bind fun xs e1 => ofOpt ((pures xs).bind fun ds => if ds.length ≤ 1000 then some (.d (.tup ds)) else none) e1 := rfl
@[simp] theorem ev_eVis {f : Ev → Res D} {e : Ev} : eVis f e = (f e).bind fun x e1 => .ok (.d x) e1 := rfl
@[simp] theorem ev_eCB {op : List D → Option D} {fs : Ev → Res (List RV)} {e : Ev} : eCB op fs e = (fs e).bind fun xs e1 => ofOpt ((des e1 xs).bind fun ds => (op ds).map RV.d) e1 := rfl
@[simp] theorem ev_eCBN {op : List D → Option D} {fs : Ev → Res (List RV)} {e : Ev} : eCBN op fs e = (fs e).bind fun xs e1 => ofOpt ((des e1 xs).bind fun ds => op ds) e1 := rfl
@[simp] theorem ev_sSet {i : Nat} {f : Ev → Res RV} {e : Ev} : sSet i f e = (f e).andS fun x e1 => match x with
  | .d d => .nx (e1.set i (Sl.val d))
  | .at _ => .bad := rfl
@[simp] theorem ev_sNew {i : Nat} {f : Ev → Res D} {e : Ev} : sNew i f e = (f e).andS fun d e1 => .nx (e1.set i (Sl.own d)) := rfl
@[simp] theorem ev_sSeq {g h : Ev → SR} {e : Ev} : sSeq g h e = (g e).seq h := rfl
@[simp] theorem ev_sNext  {e : Ev} : sNext e = .nx e := rfl
@[simp] theorem ev_sBreak  {e : Ev} : sBreak e = .bk e := rfl
@[simp] theorem ev_sCont  {e : Ev} : sCont e = .ct e := rfl
@[simp] theorem ev_sDrop {f : Ev → Res RV} {e : Ev} : sDrop f e = (f e).andS fun _ e1 => .nx e1 := rfl
@[simp] theorem ev_sIf {q : Ev → Res Bool} {g h : Ev → SR} {e : Ev} : sIf q g h e = (q e).andS fun b e1 => if b = true then g e1 else h e1 := rfl
@[simp] theorem ev_sRetN {f : Ev → Res D} {e : Ev} : sRetN f e = (f e).andS fun d e1 => .rt d e1 := rfl
@[simp] theorem ev_sPar {i j : Nat} {a b : Cp} {e : Ev} : sPar i j a b e = (a.run e).andS fun x e1 => (b.run e1).andS fun y e2 => .nx ((e2.set j y.sl).set i x.sl) := rfl
@[simp] theorem ev_sPar3 {i j l : Nat} {a b c : Cp} {e : Ev} : sPar3 i j l a b c e = (a.run e).andS fun x e1 => (b.run e1).andS fun y e2 => (c.run e2).andS fun z e3 => .nx (((e3.set l z.sl).set j y.sl).set i x.sl) := rfl
@[simp] theorem ev_sAsg {s : D → Ev → Option Ev} {f : Ev → Res RV} {e : Ev} : sAsg s f e = (f e).andS fun x e1 => match x with
  | .d d => match s d e1 with
    | some e2 => .nx e2
    | none => .bad
  | .at _ => .bad := rfl
@[simp] theorem ev_sRet {f : Ev → Res RV} {e : Ev} : sRet f e = (f e).andS fun x e1 => match x with
  | .d d => .rt d e1
  | .at i => match slD e1[i]? with
    | some d => .rt d (e1.set i (Sl.val d))
    | none => .bad := rfl
@[simp] theorem ev_sRetO {i : Nat} {e : Ev} : sRetO i e = match slD e[i]? with
  | some d => .rt d (e.set i Sl.no)
  | none => .bad := rfl
@[simp] theorem ev_sFreeze {i : Nat} {e : Ev} : sFreeze i e = match slD e[i]? with
  | some d => .nx (e.set i (Sl.val d))
  | none => .bad := rfl
@[simp] theorem ev_iL {f : Ev → Res RV} {e : Ev} : iL f e = (f e).bind fun x e1 => match x with
  | .d (.lst ds) => .ok (ds, .seen) e1
  | .d (.scr ns) => .ok (ns.map D.int, .seen) e1
  | .at j => match e1[j]? with
    | some (.own (.lst ds)) => .ok (ds, .own j (.lst ds)) e1
    | _ => .bad
  | _ => .bad := rfl
@[simp] theorem ev_iT {f : Ev → Res RV} {e : Ev} : iT f e = (f e).bind fun x e1 => match x with
  | .d (.tup ds) => .ok (ds, .seen) e1
  | _ => .bad := rfl
@[simp] theorem ev_iS {f : Ev → Res RV} {e : Ev} : iS f e = (f e).bind fun x e1 => match x with
  | .d (.str s) => if s.length ≤ 1000 then .ok (strItems s, .seen) e1 else .bad
  | _ => .bad := rfl
@[simp] theorem ev_iR1 {fs : Ev → Res (List RV)} {e : Ev} : iR1 fs e = (fs e).bind fun xs e1 => match xs with
  | [.d (.int j)] => if -1000000 ≤ j ∧ j ≤ 1000000 then .ok (rngItems 0 j.toNat, .seen) e1 else .bad
  | _ => .bad := rfl
@[simp] theorem ev_iR2 {fs : Ev → Res (List RV)} {e : Ev} : iR2 fs e = (fs e).bind fun xs e1 => match xs with
  | [.d (.int i), .d (.int j)] => if -1000000 ≤ i ∧ i ≤ 1000000 ∧ -1000000 ≤ j ∧ j ≤ 1000000 then .ok (rngItems i (j - i).toNat, .seen) e1 else .bad
  | _ => .bad := rfl
@[simp] theorem ev_iEn {fs : Ev → Res (List RV)} {e : Ev} : iEn fs e = (fs e).bind fun xs e1 => match xs with
  | [.d (.lst ds)] => .ok (enumItems ds, .seen) e1
  | _ => .bad := rfl
@[simp] theorem ev_iEnT {fs : Ev → Res (List RV)} {e : Ev} : iEnT fs e = (fs e).bind fun xs e1 => match xs with
  | [.d (.tup ds)] => .ok (enumItems ds, .seen) e1
  | _ => .bad := rfl
@[simp] theorem ev_iZp {fs : Ev → Res (List RV)} {e : Ev} : iZp fs e = (fs e).bind fun xs e1 => match xs with
  | [.d (.lst ds), .d (.lst es)] => .ok (zipItems ds es, .seen) e1
  | _ => .bad := rfl
@[simp] theorem ev_sFor {f : Ev → Res (List D × Src)} {s : D → Ev → Option Ev} {g : Ev → SR} {e : Ev} : sFor f s g e = (f e).andS fun x e1 => match x.2 with
  | .seen => forL s g x.1 e1
  | .own j d => forL s g x.1 (e1.set j (Sl.val d)) := rfl
@[simp] theorem ev_qYes  {e : Ev} : qYes e = .ok true e := rfl
@[simp] theorem ev_sPutL {j : Nat} {f g : Ev → Res RV} {e : Ev} : sPutL j f g e = (g e).andS fun x e1 => match x, ownD e1 j with
  | .d z, some _ => (f e1).andS fun y e2 => match y, ownD e2 j with
    | .d (.int i), some (.lst ds) => (match ixN ds.length i with
      | some m => .nx (e2.set j (Sl.own (.lst (ds.set m z))))
      | none => .bad)
    | _, _ => .bad
  | _, _ => .bad := rfl
@[simp] theorem ev_eDGet {f g : Ev → Res RV} {e : Ev} : eDGet f g e = (f e).bind fun x e1 => (g e1).bind fun y e2 => match de e2 x, y with
  | some (.dic t ks), .d y => (match dGet t ks y with
    | some (some z) => .ok (.d z) e2
    | _ => .bad)
  | _, _ => .bad := rfl
@[simp] theorem ev_eDIn {g f : Ev → Res RV} {e : Ev} : eDIn g f e = (g e).bind fun y e1 => (f e1).bind fun x e2 => match de e2 x, y with
  | some (.dic t ks), .d y => (match dGet t ks y with
    | some o => .ok (.d (.bl o.isSome)) e2
    | _ => .bad)
  | _, _ => .bad := rfl
@[simp] theorem ev_eDNotIn {g f : Ev → Res RV} {e : Ev} : eDNotIn g f e = (g e).bind fun y e1 => (f e1).bind fun x e2 => match de e2 x, y with
  | some (.dic t ks), .d y => (match dGet t ks y with
    | some o => .ok (.d (.bl (!o.isSome))) e2
    | _ => .bad)
  | _, _ => .bad := rfl
@[simp] theorem ev_eGet2 {f g h : Ev → Res RV} {e : Ev} : eGet2 f g h e = (f e).bind fun x e1 => if isDic (de e1 x) = true then (g e1).bind fun y e2 => (h e2).bind fun z e3 => match de e3 x, y, z with
  | some (.dic t ks), .d y, .d z => (match dGet t ks y with
    | some o => .ok (.d (o.getD z)) e3
    | _ => .bad)
  | _, _, _ => .bad
  else .bad := rfl
@[simp] theorem ev_eGet1 {f g : Ev → Res RV} {e : Ev} : eGet1 f g e = (f e).bind fun x e1 => if isDic (de e1 x) = true then (g e1).bind fun y e2 => match de e2 x, y with
  | some (.dic t ks), .d y => (match dGet t ks y with
    | some o => .ok (.d (o.getD .non)) e2
    | _ => .bad)
  | _, _ => .bad
  else .bad := rfl
@[simp] theorem ev_sPutD {j : Nat} {f g : Ev → Res RV} {e : Ev} : sPutD j f g e = (g e).andS fun x e1 => match x, ownD e1 j with
  | .d z, some _ => (f e1).andS fun y e2 => match y, ownD e2 j with
    | .d y, some (.dic t ks) => if ks.length < 1000000 then (match dPut t ks y z with
      | some ks' => .nx (e2.set j (Sl.own (.dic t ks')))
      | none => .bad) else .bad
    | _, _ => .bad
  | _, _ => .bad := rfl
@[simp] theorem ev_eMt {j : Nat} {m : D → List D → Option (D × D)} {fs : Ev → Res (List RV)} {e : Ev} : eMt j m fs e = match ownD e j with
  | some (.lst _) => (fs e).bind fun xs e1 => match ownD e1 j, pures xs with
    | some c, some ds => (match m c ds with
      | some (z, c') => .ok (.d z) (e1.set j (Sl.own c'))
      | none => .bad)
    | _, _ => .bad
  | _ => .bad := rfl
@[simp] theorem ev_eMt0 {j : Nat} {m : D → List D → Option (D × D)} {e : Ev} : eMt0 j m e = match ownD e j with
  | some (.lst c) => (match m (.lst c) [] with
      | some (z, c') => .ok (.d z) (e.set j (Sl.own c'))
      | none => .bad)
  | _ => .bad := rfl
@[simp] theorem ev_qO {f : Ev → Res RV} {e : Ev} : qO f e = (f e).bind fun x e1 => match x with
  | .d (.int i) => .ok (some i) e1
  | _ => .bad := rfl
@[simp] theorem ev_qO0  {e : Ev} : qO0 e = .ok none e := rfl
@[simp] theorem ev_eSl {op : D → Option Int → Option Int → Option D} {f : Ev → Res RV} {l h : Ev → Res (Option Int)} {e : Ev} : eSl op f l h e = (f e).bind fun x e1 => (l e1).bind fun lo e2 => (h e2).bind fun hi e3 => ofOpt ((de e3 x).bind fun d => (op d lo hi).map RV.d) e3 := rfl
@[simp] theorem ev_eSlN {op : D → Option Int → Option Int → Option D} {f : Ev → Res RV} {l h : Ev → Res (Option Int)} {e : Ev} : eSlN op f l h e = (f e).bind fun x e1 => (l e1).bind fun lo e2 => (h e2).bind fun hi e3 => ofOpt ((de e3 x).bind fun d => op d lo hi) e3 := rfl
@[simp] theorem ev_eUnN {op : D → Option D} {f : Ev → Res RV} {e : Ev} : eUnN op f e = (f e).bind fun x e1 => ofOpt ((de e1 x).bind op) e1 := rfl
@[simp] theorem ev_eJoin {f g : Ev → Res RV} {e : Ev} : eJoin f g e = (f e).bind fun x e1 => match x with
  | .d (.str a) => (g e1).bind fun y e2 => match de e2 y with
    | some (.lst ds) => (match asStrs ds with
      | some ys => if (ys.map (·.length)).sum + ys.length * a.length ≤ 1000000 ∧ PyData.strOk (Txt.join a ys) = true then .ok (.d (.str (Txt.join a ys))) e2 else .bad
      | none => .bad)
    | _ => .bad
  | _ => .bad := rfl
@[simp] theorem ev_eCallF {fr : Bool} {ks : List PK} {F : List D → FR} {fs : Ev → Res (List RV)} {e : Ev} : eCallF fr ks F fs e = (fs e).bind fun xs e1 => if okIx ks xs = true then (match argsOf e1 ks xs with
    | some ds => (match F ds with
      | .ok z o => if (borIx ks xs).isEmpty || ((if fr = true then flatO z else flat z) && o.all outFlat) then .ok z (back ks xs o e1) else .bad
      | .err c x o => if (borIx ks xs).isEmpty || (flatX x && o.all outFlat) then .err c x (back ks xs o e1) else .bad
      | .bad => .bad)
    | none => .bad) else .bad := rfl
@[simp] theorem ev_eCall {ks : List PK} {F : List D → FR} {fs : Ev → Res (List RV)} {e : Ev} : eCall ks F fs e = (eCallF false ks F fs e).bind fun z e1 => .ok (.d z) e1 := rfl
@[simp] theorem ev_eMethF {fr : Bool} {c m : Str} {ks : List PK} {F : List D → FR} {fo : Ev → Res RV} {fs : Ev → Res (List RV)} {e : Ev} : eMethF fr c m ks F fo fs e = (fo e).bind fun x e1 => if recv m c e1 x = true then (fs e1).bind fun xs e2 => callRes fr ks F (x :: xs) e2 else .bad := rfl
@[simp] theorem ev_eMeth {c m : Str} {ks : List PK} {F : List D → FR} {fo : Ev → Res RV} {fs : Ev → Res (List RV)} {e : Ev} : eMeth c m ks F fo fs e = (eMethF false c m ks F fo fs e).bind fun z e1 => .ok (.d z) e1 := rfl
@[simp] theorem ev_eMake {c : Str} {ks : List PK} {F : List D → FR} {fs : Ev → Res (List RV)} {e : Ev} : eMake c ks F fs e = (fs e).bind fun xs e1 => madeOf e1.length (callRes false (.o :: ks) F (.at e1.length :: xs) (e1 ++ [.own (.obj c [])])) := rfl
@[simp] theorem ev_lPerm {perm : List Nat} {fs : Ev → Res (List RV)} {e : Ev} : lPerm perm fs e = (fs e).bind fun xs e1 => .ok (perm.filterMap (xs[·]?)) e1 := rfl
@[simp] theorem ev_eFld {cs : List Str} {f : Str} {fo : Ev → Res RV} {e : Ev} : eFld cs f fo e = (fo e).bind fun x e1 => ofOpt ((de e1 x).bind fun d => (fldD cs f d).map RV.d) e1 := rfl
@[simp] theorem ev_sFld {i : Nat} {cs : List Str} {f : Str} {g : Ev → Res RV} {e : Ev} : sFld i cs f g e = (g e).andS fun y e1 => match y with
  | .d dv => putFld i cs f e1 dv e1[i]?
  | .at _ => .bad := rfl
@[simp] theorem ev_eIsi {g : DT → Bool} {f : Ev → Res RV} {e : Ev} : eIsi g f e = (f e).bind fun x e1 => ofOpt ((de e1 x).bind fun d => (tyD d).map fun t => RV.d (.bl (g t))) e1 := rfl
@[simp] theorem ev_sTry {b : Ev → SR} {hs : List Hd} {e : Ev} : sTry b hs e = match b e with
  | .err (.own c) x e1 => handle hs c x e1
  | .err (.blt _) _ _ => .bad
  | r => r := rfl
@[simp] theorem ev_eXf {fd : Str → Option Str} {n c : Str} {x : Option D} {e : Ev} : eXf fd n c x e = match x with
  | some y => if fd c = some n then .ok (.d y) e else .bad
  | none => .bad := rfl
@[simp] theorem ev_eXi {b : Str → Option Bool} {c : Str} {x : Option D} {e : Ev} : eXi b c x e = match x, b c with
  | some _, some z => .ok (.d (.bl z)) e
  | _, _ => .bad := rfl
@[simp] theorem ev_sHeap {i : Nat} {f : List Int → List Int × Int} {g : Ev → Res (List RV)} {e : Ev} : sHeap i f g e = (g e).andS fun xs e1 => putHeap i f e1 xs := rfl
@[simp] theorem ev_eAlt {u v : Ev → Res RV} {e : Ev} : eAlt u v e = match u e with
  | .bad => v e
  | r => r := rfl
@[simp] theorem ev_qAlt {u v : Ev → Res Bool} {e : Ev} : qAlt u v e = match u e with
  | .bad => v e
  | r => r := rfl
@[simp] theorem ev_eVar {i : Nat} {e : Ev} : eVar i e = match e[i]? with
  | some (.val d) => .ok (.d d) e
  | some (.own _) => .ok (.at i) e
  | some (.heap _ _) => .ok (.at i) e
  | _ => .bad := rfl
@[simp] theorem ev_gN {i : Nat} {d : D} {e : Ev} : gN i d e = some (e.set i (Sl.val d)) := rfl
@[simp] theorem ev_gsNil {e : Ev} : gsNil [] e = some e := rfl
@[simp] theorem ev_gsCons {s : D → Ev → Option Ev} {t : List D → Ev → Option Ev} {d : D} {ds : List D} {e : Ev} : gsCons s t (d :: ds) e = (s d e).bind fun e1 => t ds e1 := rfl
@[simp] theorem ev_gT {t : List D → Ev → Option Ev} {ds : List D} {e : Ev} : gT t (.tup ds) e = t ds e := rfl
@[simp] theorem ev_runV {f : Ev → Res RV} {e : Ev} : (Cp.v f).run e = (f e).bind fun x e1 => match x with
    | .d d => .ok (.vis d) e1
    | .at _ => .bad := rfl
@[simp] theorem ev_runN {f : Ev → Res D} {e : Ev} : (Cp.n f).run e = (f e).bind fun d e1 => .ok (.new d) e1 := rfl
@[simp] theorem ev_slV {d : D} : (CD.vis d).sl = .val d := rfl
@[simp] theorem ev_slN {d : D} : (CD.new d).sl = .own d := rfl
@[simp] theorem de_d {e : Ev} {x : D} : de e (.d x) = some x := rfl
@[simp] theorem de_at {e : Ev} {i : Nat} : de e (.at i) = match slD e[i]? with
    | some d => if isTup d = true then none else some d
    | none => none := rfl
@[simp] theorem slD_own {d : D} : slD (some (.own d)) = some d := rfl
@[simp] theorem isTup_lst {l : List D} : isTup (.lst l) = false := rfl
@[simp] theorem isTup_dic {t : Bool} {l : List (D × D)} : isTup (.dic t l) = false := rfl
@[simp] theorem isTup_obj {c : Str} {l : List (Str × D)} : isTup (.obj c l) = false := rfl
@[simp] theorem isTup_tup {l : List D} : isTup (.tup l) = true := rfl
@[simp] theorem des_nil {e : Ev} : des e [] = some [] := rfl
@[simp] theorem des_cons {e : Ev} {x : RV} {xs : List RV} : des e (x :: xs) = (de e x).bind fun d => (des e xs).map (d :: ·) := by
  show (match de e x, des e xs with
    | some d, some ds => some (d :: ds)
    | _, _ => none) = _
  cases de e x <;> cases des e xs <;> rfl
@[simp] theorem pures_nil : pures [] = some [] := rfl
@[simp] theorem pures_cons {x : D} {xs : List RV} : pures (.d x :: xs) = (pures xs).map (x :: ·) := by
  show (match pures xs with
    | some ds => some (x :: ds)
    | none => none) = _
  cases pures xs <;> rfl
@[simp] theorem asB_bl {b : Bool} : asB (.d (.bl b)) = some b := rfl
@[simp] theorem un_one {op : D → Option D} {d : D} : un op [d] = op d := rfl
@[simp] theorem ownD_eq {e : Ev} {j : Nat} : ownD e j = match e[j]? with
  | some (.own d) => some d
  | _ => none := rfl
@[simp] theorem slOf_v {d : D} : slOf .v d = some (.val d) := rfl
@[simp] theorem slOf_o {d : D} : slOf .o d = if isTup d = true then none else some (.own d) := rfl
@[simp] theorem ev_asInts (l : List Int) : asInts (l.map .int) = some l := by
  induction l with
  | nil => rfl
  | cons x l ih => show (asInts (l.map .int)).map (x :: ·) = _; rw [ih]; rfl
@[simp] theorem ev_asStrs (l : List Str) : asStrs (l.map .str) = some l := by
  induction l with
  | nil => rfl
  | cons x l ih => show (asStrs (l.map .str)).map (x :: ·) = _; rw [ih]; rfl
@[simp] theorem ev_asBls {α : Type} (f : α → Bool) (l : List α) : asBls (l.map fun x => .bl (f x)) = some (l.map f) := by
  induction l with
  | nil => rfl
  | cons x l ih => show (asBls (l.map fun x => .bl (f x))).map (f x :: ·) = _; rw [ih]; rfl
@[simp] theorem slOf_h {zs : List Int} {s : Int} : slOf .h (heapD zs s) = some (.heap zs s) := by
  show ((asInts (zs.map .int)).map fun zs => (zs, s)).map (fun p => Sl.heap p.1 p.2) = _
  rw [ev_asInts]
  rfl
@[simp] theorem asHeap_eq {zs : List Int} {s : Int} : asHeap (heapD zs s) = some (zs, s) := by
  show ((asInts (zs.map .int)).map fun zs => (zs, s)) = _
  rw [ev_asInts]
  rfl
@[simp] theorem inits_nil : inits [] [] = some [] := rfl
@[simp] theorem inits_cons {k : PK} {ks : List PK} {d : D} {ds : List D} : inits (k :: ks) (d :: ds) = (slOf k d).bind fun s => (inits ks ds).map (s :: ·) := by
  show (match slOf k d, inits ks ds with
    | some s, some e => some (s :: e)
    | _, _ => none) = _
  cases slOf k d <;> cases inits ks ds <;> rfl
@[simp] theorem outs_nil {e : Ev} : PD.outsOf [] e = some [] := by cases e <;> rfl
@[simp] theorem outs_v {ks : List PK} {s : Sl} {e : Ev} : PD.outsOf (.v :: ks) (s :: e) = (PD.outsOf ks e).map (Sl.no :: ·) := rfl
@[simp] theorem outs_o {ks : List PK} {d : D} {e : Ev} : PD.outsOf (.o :: ks) (.own d :: e) = (PD.outsOf ks e).map (Sl.own d :: ·) := rfl
@[simp] theorem outs_h {ks : List PK} {zs : List Int} {s : Int} {e : Ev} : PD.outsOf (.h :: ks) (.heap zs s :: e) = (PD.outsOf ks e).map (Sl.heap zs s :: ·) := rfl
def fin (ks : List PK) (fr : Bool) (r : SR) : FR := match r with
    | .rt z e => (match PD.outsOf ks e with
      | some o => .ok z o
      | none => .bad)
    | .nx e => if fr = true then .bad else (match PD.outsOf ks e with
      | some o => .ok .non o
      | none => .bad)
    | .err c x e => (match PD.outsOf ks e with
      | some o => .err c x o
      | none => .bad)
    | _ => .bad
@[simp] theorem fin_rt {ks : List PK} {fr : Bool} {z : D} {e o : Ev} (h : PD.outsOf ks e = some o) : fin ks fr (.rt z e) = .ok z o := by unfold fin; simp only [h]
@[simp] theorem fin_nx {ks : List PK} {e o : Ev} (h : PD.outsOf ks e = some o) : fin ks false (.nx e) = .ok .non o := by unfold fin; simp [h]
@[simp] theorem fin_err {ks : List PK} {fr : Bool} {c : EC} {x : Option D} {e o : Ev} (h : PD.outsOf ks e = some o) : fin ks fr (.err c x e) = .err c x o := by unfold fin; simp only [h]
theorem fin_ite {ks : List PK} {fr : Bool} {c : Prop} [Decidable c] {a b : SR} : fin ks fr (if c then a else b) = if c then fin ks fr a else fin ks fr b := by split <;> rfl
theorem run_fin {n : Nat} {ks : List PK} {fr : Bool} {g : Ev → SR} {ds : List D} {e0 : Ev} (h : inits ks ds = some e0) : runF n ks fr g ds = fin ks fr (g (e0 ++ List.replicate (n - ks.length) Sl.no)) := by
  unfold runF
  rw [h]
  rfl
theorem ev_runF {n : Nat} {ks : List PK} {fr : Bool} {g : Ev → SR} {ds : List D} : runF n ks fr g ds = match inits ks ds with
  | none => .bad
  | some e0 => match g (e0 ++ List.replicate (n - ks.length) Sl.no) with
    | .rt z e => (match PD.outsOf ks e with
      | some o => .ok z o
      | none => .bad)
    | .nx e => if fr = true then .bad else (match PD.outsOf ks e with
      | some o => .ok .non o
      | none => .bad)
    | .err c x e => (match PD.outsOf ks e with
      | some o => .err c x o
      | none => .bad)
    | _ => .bad := rfl
/-! ### arguments -/
@[simp] theorem argOf_v {e : Ev} {x : RV} : argOf e .v x = de e x := by cases x <;> rfl
@[simp] theorem argOf_o {e : Ev} {j : Nat} : argOf e .o (.at j) = match e[j]? with
    | some (.own d) => if isTup d = true then none else some d
    | _ => none := rfl
@[simp] theorem argOf_h {e : Ev} {j : Nat} : argOf e .h (.at j) = match e[j]? with
    | some (.heap zs s) => some (heapD zs s)
    | _ => none := rfl
@[simp] theorem argsOf_nil {e : Ev} : argsOf e [] [] = some [] := rfl
@[simp] theorem argsOf_cons {e : Ev} {q : PK} {ks : List PK} {x : RV} {xs : List RV} : argsOf e (q :: ks) (x :: xs) = (argOf e q x).bind fun d => (argsOf e ks xs).map (d :: ·) := by
  show (match argOf e q x, argsOf e ks xs with
    | some d, some ds => some (d :: ds)
    | _, _ => none) = _
  cases argOf e q x <;> cases argsOf e ks xs <;> rfl
@[simp] theorem outIx_nil : outIx [] [] = [] := rfl
@[simp] theorem outIx_d {q : PK} {ks : List PK} {x : D} {xs : List RV} : outIx (q :: ks) (.d x :: xs) = outIx ks xs := rfl
@[simp] theorem outIx_at {q : PK} {ks : List PK} {j : Nat} {xs : List RV} : outIx (q :: ks) (.at j :: xs) = if q.out = true then j :: outIx ks xs else outIx ks xs := rfl
@[simp] theorem borIx_nil : borIx [] [] = [] := rfl
@[simp] theorem borIx_d {q : PK} {ks : List PK} {x : D} {xs : List RV} : borIx (q :: ks) (.d x :: xs) = borIx ks xs := rfl
@[simp] theorem borIx_at {q : PK} {ks : List PK} {j : Nat} {xs : List RV} : borIx (q :: ks) (.at j :: xs) = if q.out = true then borIx ks xs else j :: borIx ks xs := rfl
@[simp] theorem out_v : PK.out .v = false := rfl
@[simp] theorem out_o : PK.out .o = true := rfl
@[simp] theorem out_h : PK.out .h = true := rfl
@[simp] theorem okIx_eq {ks : List PK} {xs : List RV} : okIx ks xs = (decide (outIx ks xs).Nodup && (borIx ks xs).all fun j => !(outIx ks xs).contains j) := rfl
@[simp] theorem back_nil {os : List Sl} {e : Ev} : back [] [] os e = e := by cases os <;> rfl
@[simp] theorem back_d {q : PK} {ks : List PK} {x : D} {xs : List RV} {s : Sl} {os : List Sl} {e : Ev} : back (q :: ks) (.d x :: xs) (s :: os) e = back ks xs os e := rfl
@[simp] theorem back_at {q : PK} {ks : List PK} {j : Nat} {xs : List RV} {s : Sl} {os : List Sl} {e : Ev} : back (q :: ks) (.at j :: xs) (s :: os) e = if q.out = true then back ks xs os (e.set j s.outOnly) else back ks xs os e := rfl
@[simp] theorem outOnly_own {d : D} : (Sl.own d).outOnly = .own d := rfl
@[simp] theorem outOnly_heap {zs : List Int} {s : Int} : (Sl.heap zs s).outOnly = .heap zs s := rfl
@[simp] theorem outOnly_no : Sl.no.outOnly = .no := rfl
@[simp] theorem callRes_eq {fr : Bool} {ks : List PK} {F : List D → FR} {xs : List RV} {e1 : Ev} : callRes fr ks F xs e1 = if okIx ks xs = true then (match argsOf e1 ks xs with
    | some ds => (match F ds with
      | .ok z o => if (borIx ks xs).isEmpty || ((if fr = true then flatO z else flat z) && o.all outFlat) then .ok z (back ks xs o e1) else .bad
      | .err c x o => if (borIx ks xs).isEmpty || (flatX x && o.all outFlat) then .err c x (back ks xs o e1) else .bad
      | .bad => .bad)
    | none => .bad) else .bad := rfl
@[simp] theorem flat_bl {b : Bool} : flat (.bl b) = true := rfl
@[simp] theorem flat_int {b : Int} : flat (.int b) = true := rfl
@[simp] theorem flat_str {b : Str} : flat (.str b) = true := rfl
@[simp] theorem flat_non : flat .non = true := rfl
@[simp] theorem outFlat_no : outFlat .no = true := rfl
@[simp] theorem outFlat_heap {zs : List Int} {s : Int} : outFlat (.heap zs s) = true := rfl
@[simp] theorem madeOf_ok {n : Nat} {e2 : Ev} : madeOf n (.ok .non e2) = match e2[n]? with
    | some (.own d) => .ok d (e2.take n)
    | _ => .bad := rfl
@[simp] theorem madeOf_err {n : Nat} {c : EC} {x : Option D} {e2 : Ev} : madeOf n (.err c x e2) = .err c x (e2.take n) := rfl
theorem recv_eq {m c : Str} {e : Ev} {x : RV} : recv m c e x = match de e x with
  | some (.obj c' fs) => (c' == c) && (fs.lookup m).isNone
  | _ => false := rfl
/-! ### operators -/
@[simp] theorem tru_bl {b : Bool} : truthy (.bl b) = some b := rfl
@[simp] theorem tru_non : truthy .non = some false := rfl
@[simp] theorem tru_int {i : Int} : truthy (.int i) = some (i != 0) := rfl
@[simp] theorem tru_tup {l : List D} : truthy (.tup l) = some (!l.isEmpty) := rfl
@[simp] theorem tru_lst {l : List D} : truthy (.lst l) = some (!l.isEmpty) := rfl
@[simp] theorem py_str (x : Str) : py (.str x) = some (.str x) := rfl
@[simp] theorem py_int (x : Int) : py (.int x) = some (.int x) := rfl
@[simp] theorem py_bl (x : Bool) : py (.bl x) = some (.bool x) := rfl
@[simp] theorem py_non : py .non = some .none := rfl
@[simp] theorem py_tup (ds : List D) : py (.tup ds) = (pys ds).map .tuple := rfl
@[simp] theorem py_lst (ds : List D) : py (.lst ds) = (pys ds).map .list := rfl
@[simp] theorem pys_nil : pys [] = some [] := rfl
@[simp] theorem pys_cons (d : D) (ds : List D) : pys (d :: ds) = (py d).bind fun p => (pys ds).map (p :: ·) := by
  show (match py d, pys ds with
    | some p, some l => some (p :: l)
    | _, _ => none) = _
  cases py d <;> cases pys ds <;> rfl
theorem pys_map {α : Type} {f : α → D} {g : α → PyData} (h : ∀ x, py (f x) = some (g x)) : ∀ l : List α, pys (l.map f) = some (l.map g)
  | [] => rfl
  | x :: l => by rw [List.map_cons, pys_cons, h x, pys_map h l]; rfl
@[simp] theorem pys_strs (l : List Str) : pys (l.map .str) = some (l.map .str) := pys_map (fun _ => rfl) l
@[simp] theorem pys_ints (l : List Int) : pys (l.map .int) = some (l.map .int) := pys_map (fun _ => rfl) l
@[simp] theorem pys_tups (l : List (List Str)) : pys (l.map fun r => .tup (r.map .str)) = some (l.map fun r => .tuple (r.map .str)) := pys_map (fun x => by simp) l
theorem eqv_map {α : Type} [DecidableEq α] {g : α → PyData} (h : ∀ a b, PyData.eqv (g a) (g b) = decide (a = b)) : ∀ a b : List α, PyData.eqvAll (a.map g) (b.map g) = decide (a = b)
  | [], [] => rfl
  | [], _ :: _ => rfl
  | _ :: _, [] => rfl
  | x :: a, y :: b => by
    show (PyData.eqv (g x) (g y) && PyData.eqvAll (a.map g) (b.map g)) = _
    rw [eqv_map h a b, h, ← Bool.decide_and]
    congr 1
    simp
@[simp] theorem eqv_int (a b : Int) : PyData.eqv (.int a) (.int b) = decide (a = b) := by simp [PyData.eqv, Bool.beq_eq_decide_eq]
@[simp] theorem eqv_str (a b : Str) : PyData.eqv (.str a) (.str b) = decide (a = b) := by simp [PyData.eqv, Bool.beq_eq_decide_eq]
@[simp] theorem eqv_strs (a b : List Str) : PyData.eqv (.tuple (a.map .str)) (.tuple (b.map .str)) = decide (a = b) := eqv_map eqv_str a b
@[simp] theorem eqv_strsL (a b : List Str) : PyData.eqv (.list (a.map .str)) (.list (b.map .str)) = decide (a = b) := eqv_map eqv_str a b
theorem eqv_tups (a b : List (List Str)) : PyData.eqvAll (a.map fun r => .tuple (r.map .str)) (b.map fun r => .tuple (r.map .str)) = decide (a = b) := eqv_map (fun a b => eqv_strs a b) a b
@[simp] theorem eqv_tupsT (a b : List (List Str)) : PyData.eqv (.tuple (a.map fun r => .tuple (r.map .str))) (.tuple (b.map fun r => .tuple (r.map .str))) = decide (a = b) := eqv_tups a b
@[simp] theorem eqv_tupsL (a b : List (List Str)) : PyData.eqv (.list (a.map fun r => .tuple (r.map .str))) (.list (b.map fun r => .tuple (r.map .str))) = decide (a = b) := eqv_tups a b
theorem any_mem {α : Type} [DecidableEq α] {g : α → PyData} (h : ∀ a b, PyData.eqv (g a) (g b) = decide (a = b)) (x : α) : ∀ l : List α, ((l.map g).any fun z => PyData.eqv z (g x)) = decide (x ∈ l)
  | [] => by simp
  | y :: l => by
    rw [List.map_cons, List.any_cons, any_mem h x l, h, ← Bool.decide_or]
    congr 1
    rw [List.mem_cons]
    exact propext ⟨fun h => h.imp Eq.symm id, fun h => h.imp Eq.symm id⟩
theorem dep_map {α : Type} {g : α → PyData} {n : Nat} (h : ∀ a, (g a).depth ≤ n) : ∀ l : List α, PyData.depthAll (l.map g) ≤ n
  | [] => Nat.zero_le _
  | x :: l => by
    have h1 := h x
    have h2 := dep_map h l
    show max (g x).depth (PyData.depthAll (l.map g)) ≤ n
    omega
@[simp] theorem ite_ok {α : Type} {c : Prop} [Decidable c] {a b : α} {e : Ev} : (if c then Res.ok a e else Res.ok b e) = Res.ok (if c then a else b) e := by split <;> rfl
@[simp] theorem ite_d {c : Prop} [Decidable c] {a b : D} : (if c then RV.d a else RV.d b) = RV.d (if c then a else b) := by split <;> rfl
@[simp] theorem ite_bl {c : Prop} [Decidable c] {a b : Bool} : (if c then D.bl a else D.bl b) = D.bl (if c then a else b) := by split <;> rfl
@[simp] theorem dep_str (s : Str) : (PyData.str s).depth = 0 := rfl
@[simp] theorem dep_int (s : Int) : (PyData.int s).depth = 0 := rfl
theorem dep_strs (l : List Str) : PyData.depthAll (l.map .str) ≤ 0 := dep_map (fun _ => Nat.le_refl 0) l
theorem dep_ints (l : List Int) : PyData.depthAll (l.map .int) ≤ 0 := dep_map (fun _ => Nat.le_refl 0) l
theorem dep_tstrs (l : List Str) : (PyData.tuple (l.map .str)).depth ≤ 1 := by
  have := dep_strs l
  show PyData.depthAll (l.map .str) + 1 ≤ 1
  omega
theorem dep_lstrs (l : List Str) : (PyData.list (l.map .str)).depth ≤ 1 := by
  have := dep_strs l
  show PyData.depthAll (l.map .str) + 1 ≤ 1
  omega
theorem dep_tups (l : List (List Str)) : PyData.depthAll (l.map fun r => .tuple (r.map .str)) ≤ 1 := dep_map dep_tstrs l
theorem dep_ttups (l : List (List Str)) : (PyData.tuple (l.map fun r => .tuple (r.map .str))).depth ≤ 2 := by
  have := dep_tups l
  show PyData.depthAll _ + 1 ≤ 2
  omega
theorem dep_ltups (l : List (List Str)) : (PyData.list (l.map fun r => .tuple (r.map .str))).depth ≤ 2 := by
  have := dep_tups l
  show PyData.depthAll _ + 1 ≤ 2
  omega
theorem mem_lst {x : D} {p : PyData} {ds : List D} {ps : List PyData} (h1 : py x = some p) (h2 : pys ds = some ps) (d1 : p.depth ≤ 60) (d2 : PyData.depthAll ps ≤ 50) : dMem x (.lst ds) = some (ps.any fun z => PyData.eqv z p) := by
  show (match py x, pys ds with
    | some p, some ps => if p.depth ≤ 60 ∧ PyData.depthAll ps ≤ 50 then some (ps.any fun z => PyData.eqv z p) else none
    | _, _ => none) = _
  rw [h1, h2]
  exact if_pos ⟨d1, d2⟩
theorem mem_tup {x : D} {p : PyData} {ds : List D} {ps : List PyData} (h1 : py x = some p) (h2 : pys ds = some ps) (d1 : p.depth ≤ 60) (d2 : PyData.depthAll ps ≤ 50) : dMem x (.tup ds) = some (ps.any fun z => PyData.eqv z p) := mem_lst (ds := ds) h1 h2 d1 d2
@[simp] theorem dMem_strL (x : Str) (l : List Str) : dMem (.str x) (.lst (l.map .str)) = some (decide (x ∈ l)) := by
  rw [mem_lst (py_str x) (pys_strs l) (by simp) (by have := dep_strs l; omega), any_mem eqv_str]
@[simp] theorem dMem_strT (x : Str) (l : List Str) : dMem (.str x) (.tup (l.map .str)) = some (decide (x ∈ l)) := by
  rw [mem_tup (py_str x) (pys_strs l) (by simp) (by have := dep_strs l; omega), any_mem eqv_str]
@[simp] theorem dMem_intT (x : Int) (l : List Int) : dMem (.int x) (.tup (l.map .int)) = some (decide (x ∈ l)) := by
  rw [mem_tup (py_int x) (pys_ints l) (by simp) (by have := dep_ints l; omega), any_mem eqv_int]
theorem eqv_of {a b : D} {p q : PyData} (h1 : py a = some p) (h2 : py b = some q) (d1 : p.depth ≤ 60) (d2 : q.depth ≤ 60) : dEqv a b = some (PyData.eqv p q) := by
  unfold dEqv
  rw [h1, h2]
  exact if_pos ⟨d1, d2⟩
@[simp] theorem dEqv_int (a b : Int) : dEqv (.int a) (.int b) = some (decide (a = b)) := by rw [eqv_of (py_int a) (py_int b) (by simp) (by simp), eqv_int]
@[simp] theorem dEqv_str (a b : Str) : dEqv (.str a) (.str b) = some (decide (a = b)) := by rw [eqv_of (py_str a) (py_str b) (by simp) (by simp), eqv_str]
@[simp] theorem dEqv_strs (a b : List Str) : dEqv (.tup (a.map .str)) (.tup (b.map .str)) = some (decide (a = b)) := by
  rw [eqv_of (p := .tuple (a.map .str)) (q := .tuple (b.map .str)) (by simp) (by simp) (Nat.le_trans (dep_tstrs a) (by decide)) (Nat.le_trans (dep_tstrs b) (by decide)), eqv_strs]
@[simp] theorem dEqv_strsL (a b : List Str) : dEqv (.lst (a.map .str)) (.lst (b.map .str)) = some (decide (a = b)) := by
  rw [eqv_of (p := .list (a.map .str)) (q := .list (b.map .str)) (by simp) (by simp) (Nat.le_trans (dep_lstrs a) (by decide)) (Nat.le_trans (dep_lstrs b) (by decide)), eqv_strsL]
@[simp] theorem dEqv_strsL0 (a : List Str) : dEqv (.lst (a.map .str)) (.lst []) = some (decide (a = [])) := dEqv_strsL a []
@[simp] theorem dEqv_LL : dEqv (.lst []) (.lst []) = some true := rfl
@[simp] theorem dEqv_TT : dEqv (.tup []) (.tup []) = some true := rfl
@[simp] theorem dEqv_strs0 (a : List Str) : dEqv (.tup (a.map .str)) (.tup []) = some (decide (a = [])) := dEqv_strs a []
@[simp] theorem dEqv_tups (a b : List (List Str)) : dEqv (.tup (a.map fun r => .tup (r.map .str))) (.tup (b.map fun r => .tup (r.map .str))) = some (decide (a = b)) := by
  rw [eqv_of (p := .tuple (a.map fun r => .tuple (r.map .str))) (q := .tuple (b.map fun r => .tuple (r.map .str))) (by simp) (by simp) (Nat.le_trans (dep_ttups a) (by decide)) (Nat.le_trans (dep_ttups b) (by decide)), eqv_tupsT]
@[simp] theorem dEqv_tupsL (a b : List (List Str)) : dEqv (.lst (a.map fun r => .tup (r.map .str))) (.lst (b.map fun r => .tup (r.map .str))) = some (decide (a = b)) := by
  rw [eqv_of (p := .list (a.map fun r => .tuple (r.map .str))) (q := .list (b.map fun r => .tuple (r.map .str))) (by simp) (by simp) (Nat.le_trans (dep_ltups a) (by decide)) (Nat.le_trans (dep_ltups b) (by decide)), eqv_tupsL]
@[simp] theorem dLess_int (a b : Int) : dLess (.int a) (.int b) = some (decide (a < b)) := by
  unfold dLess
  simp only [py_int]
  rw [if_pos ⟨rfl, rfl, rfl, by simp, by simp⟩, PySem.W.dataLt_int]
@[simp] theorem dLess_str (a b : Str) : dLess (.str a) (.str b) = some (decide (ltS a b)) := by
  unfold dLess
  simp only [py_str]
  rw [if_pos ⟨rfl, rfl, rfl, by simp, by simp⟩, PySem.W.dataLt_str]
  rfl
@[simp] theorem dEq_eq {a b : D} : dEq a b = (dEqv a b).map .bl := rfl
@[simp] theorem dNe_eq {a b : D} : dNe a b = (dEqv a b).map fun x => .bl (!x) := rfl
@[simp] theorem dLt_eq {a b : D} : dLt a b = (dLess a b).map .bl := rfl
@[simp] theorem dGt_eq {a b : D} : dGt a b = (dLess b a).map .bl := rfl
@[simp] theorem dLe_eq {a b : D} : dLe a b = (dLess b a).map fun x => .bl (!x) := rfl
@[simp] theorem dGe_eq {a b : D} : dGe a b = (dLess a b).map fun x => .bl (!x) := rfl
@[simp] theorem dIn_eq {a b : D} : dIn a b = (dMem a b).map .bl := rfl
@[simp] theorem dNotIn_eq {a b : D} : dNotIn a b = (dMem a b).map fun x => .bl (!x) := rfl
@[simp] theorem dLen_lst {l : List D} : dLen (.lst l) = some (.int l.length) := rfl
@[simp] theorem dLen_tup {l : List D} : dLen (.tup l) = some (.int l.length) := rfl
@[simp] theorem dLen_scr {l : List Int} : dLen (.scr l) = some (.int l.length) := rfl
@[simp] theorem dLen_dic {l : List (D × D)} : dLen (.dic false l) = some (.int l.length) := rfl
@[simp] theorem dTuple_lst {l : List D} : dTuple (.lst l) = some (.tup l) := rfl
@[simp] theorem dTuple_tup {l : List D} : dTuple (.tup l) = some (.tup l) := rfl
@[simp] theorem dList_lst {l : List D} : dList (.lst l) = some (.lst l) := rfl
@[simp] theorem dList_tup {l : List D} : dList (.tup l) = some (.lst l) := rfl
@[simp] theorem dAll_map {α : Type} (f : α → Bool) (l : List α) : dAll (.lst (l.map fun x => .bl (f x))) = some (.bl (l.all f)) := by
  show (asBls (l.map fun x => .bl (f x))).map (fun bs => D.bl (bs.all id)) = _
  rw [ev_asBls]
  simp [List.all_map]
@[simp] theorem dAny_map {α : Type} (f : α → Bool) (l : List α) : dAny (.lst (l.map fun x => .bl (f x))) = some (.bl (l.any f)) := by
  show (asBls (l.map fun x => .bl (f x))).map (fun bs => D.bl (bs.any id)) = _
  rw [ev_asBls]
  simp [List.any_map]
@[simp] theorem dAny_nil : dAny (.lst []) = some (.bl false) := rfl
@[simp] theorem dAll_nil : dAll (.lst []) = some (.bl true) := rfl
@[simp] theorem dAdd_int {a b : Int} : dAdd (.int a) (.int b) = some (.int (a + b)) := rfl
@[simp] theorem dAdd_str {a b : Str} : dAdd (.str a) (.str b) = if a.length + b.length ≤ 1000000 then some (.str (a ++ b)) else none := rfl
@[simp] theorem dAdd_tup {a b : List D} : dAdd (.tup a) (.tup b) = if a.length + b.length ≤ 1000000 then some (.tup (a ++ b)) else none := rfl
@[simp] theorem dCat_lst {a b : List D} : dCat (.lst a) (.lst b) = if a.length + b.length ≤ 1000000 then some (.lst (a ++ b)) else none := rfl
@[simp] theorem dSub_int {a b : Int} : dSub (.int a) (.int b) = some (.int (a - b)) := rfl
@[simp] theorem dMul_int {a b : Int} : dMul (.int a) (.int b) = if mulOk a b = true then some (.int (a * b)) else none := rfl
@[simp] theorem dNeg_int {a : Int} : dNeg (.int a) = some (.int (-a)) := rfl
@[simp] theorem dIx_lst {l : List D} {i : Int} : dIx (.lst l) (.int i) = atI l i := rfl
@[simp] theorem dIx_tup {l : List D} {i : Int} : dIx (.tup l) (.int i) = atI l i := rfl
@[simp] theorem dIx_scr {l : List Int} {i : Int} : dIx (.scr l) (.int i) = (atI l i).map .int := rfl
@[simp] theorem dIx_str {s : Str} {i : Int} : dIx (.str s) (.int i) = if s.length ≤ 1000000 then (atI s.cps.toList i).map (fun c => D.str ⟨#[c]⟩) else none := rfl
@[simp] theorem atI_map {α β : Type} (f : α → β) (l : List α) (i : Int) : atI (l.map f) i = (atI l i).map f := by
  unfold atI
  rw [List.length_map]
  cases ixN l.length i with
  | none => rfl
  | some j => simp
theorem atI_nat {α : Type} (l : List α) (j : Nat) : atI l (j : Int) = l[j]? := by
  unfold atI ixN
  rw [if_pos (Int.natCast_nonneg j)]
  by_cases h : j < l.length
  · rw [if_pos (by omega)]; simp
  · rw [if_neg (by omega)]; simp; omega
theorem atI_neg1 {α : Type} (l : List α) : atI l (-1) = l.getLast? := by
  rcases List.eq_nil_or_concat l with rfl | ⟨ys, z, rfl⟩
  · rfl
  · rw [List.concat_eq_append]
    unfold atI ixN
    rw [List.length_append, if_neg (by decide), if_pos (by simp; omega), Option.bind_some, show (-1 + ((ys.length + [z].length : Nat) : Int)).toNat = ys.length by simp; omega]
    simp
@[simp] theorem mAppend_eq {l : List D} {d : D} : mAppend (.lst l) [d] = if l.length < 1000000 then some (.non, .lst (l ++ [d])) else none := rfl
@[simp] theorem mExtend_eq {l m : List D} : mExtend (.lst l) [.lst m] = if l.length + m.length < 1000000 then some (.non, .lst (l ++ m)) else none := rfl
@[simp] theorem dCutT_eq {l : List D} {lo hi : Option Int} : dCutT (.tup l) lo hi = some (.tup (cutA l lo hi)) := rfl
@[simp] theorem dCutL_eq {l : List D} {lo hi : Option Int} : dCutL (.lst l) lo hi = some (.lst (cutA l lo hi)) := rfl
@[simp] theorem cutA_map {α β : Type} (f : α → β) (l : List α) (lo hi : Option Int) : cutA (l.map f) lo hi = (cutA l lo hi).map f := by
  unfold cutA
  rw [List.length_map, List.map_take, List.map_drop]
@[simp] theorem tyD_non : tyD .non = some (.ty "NoneType") := rfl
@[simp] theorem tyD_bl {b : Bool} : tyD (.bl b) = some (.ty "bool") := rfl
@[simp] theorem tyD_int {b : Int} : tyD (.int b) = some (.ty "int") := rfl
@[simp] theorem tyD_str {b : Str} : tyD (.str b) = some (.ty "str") := rfl
@[simp] theorem tyD_tup {b : List D} : tyD (.tup b) = some (.ty "tuple") := rfl
@[simp] theorem tyD_lst {b : List D} : tyD (.lst b) = some (.ty "list") := rfl
@[simp] theorem tyD_obj {c : Str} {fs : List (Str × D)} : tyD (.obj c fs) = some (.cls c) := rfl
@[simp] theorem fldD_eq {cs : List Str} {f c : Str} {fs : List (Str × D)} : fldD cs f (.obj c fs) = if cs.contains c = true then fs.lookup f else none := rfl
@[simp] theorem putFld_eq {i : Nat} {cs : List Str} {f : Str} {e1 : Ev} {dv : D} {c : Str} {fs : List (Str × D)} : putFld i cs f e1 dv (some (.own (.obj c fs))) = if cs.contains c = true ∧ fs.length < 1000 then .nx (e1.set i (.own (.obj c (putFD f dv fs)))) else .bad := rfl
/-! ### dicts with texts as keys -/
def sK {α : Type} (f : α → D) (ks : List (Str × α)) : List (D × D) := ks.map fun p => (.str p.1, f p.2)
theorem look_sK {α : Type} (f : α → D) (x : Str) : ∀ ks : List (Str × α), lookA keyK (sK f ks) (.inr x) = (ks.lookup x).map f
  | [] => rfl
  | (y, a) :: ks => by
    show ((List.find? (fun p => decide (keyK p.1 = some (.inr x))) ((.str y, f a) :: sK f ks)).map (·.2)) = _
    rw [List.find?_cons, List.lookup_cons]
    by_cases h : y = x
    · subst h
      rw [show decide (keyK (D.str y) = some (Sum.inr y)) = true from decide_eq_true rfl]
      simp
    · rw [show decide (keyK (D.str y) = some (Sum.inr x)) = false from decide_eq_false fun e => h (by cases e; rfl)]
      rw [show (x == y) = false from beq_eq_false_iff_ne.mpr fun e => h e.symm]
      exact look_sK f x ks
@[simp] theorem dGet_sK {α : Type} (f : α → D) (x : Str) (ks : List (Str × α)) : dGet false (sK f ks) (.str x) = some ((ks.lookup x).map f) := by
  show (keyK (.str x)).map (lookA keyK (sK f ks)) = _
  show some (lookA keyK (sK f ks) (.inr x)) = _
  rw [look_sK]
@[simp] theorem len_sK {α : Type} (f : α → D) (ks : List (Str × α)) : (sK f ks).length = ks.length := by simp [sK]
@[simp] theorem isDic_dic {t : Bool} {ks : List (D × D)} : isDic (some (.dic t ks)) = true := rfl
def putS {α : Type} (ks : List (Str × α)) (x : Str) (a : α) : List (Str × α) := if (ks.any fun p => decide (p.1 = x)) = true then ks.map (fun p => if p.1 = x then (p.1, a) else p) else ks ++ [(x, a)]
theorem put_sK {α : Type} (f : α → D) (x : Str) (a : α) (ks : List (Str × α)) : putA keyK (sK f ks) (.inr x) (.str x) (f a) = sK f (putS ks x a) := by
  have hk : ∀ p : Str × α, decide (keyK (D.str p.1) = some (Sum.inr x)) = decide (p.1 = x) := fun p => by
    congr 1
    exact propext ⟨fun e => by cases e; rfl, fun e => by rw [e]; rfl⟩
  unfold putA putS sK
  rw [List.any_map]
  have h1 : (ks.any ((fun p : D × D => decide (keyK p.1 = some (Sum.inr x))) ∘ fun p => (D.str p.1, f p.2))) = ks.any fun p => decide (p.1 = x) := by
    congr 1
    funext p
    exact hk p
  rw [h1]
  split
  · rw [List.map_map, List.map_map]
    congr 1
    funext p
    show (if keyK (D.str p.1) = some (Sum.inr x) then (D.str p.1, f a) else (D.str p.1, f p.2)) = _
    by_cases h : p.1 = x
    · rw [if_pos (by rw [h]; rfl)]
      show _ = (D.str (if p.1 = x then (p.1, a) else p).1, f (if p.1 = x then (p.1, a) else p).2)
      rw [if_pos h]
    · rw [if_neg (fun e => h (by cases e; rfl))]
      show _ = (D.str (if p.1 = x then (p.1, a) else p).1, f (if p.1 = x then (p.1, a) else p).2)
      rw [if_neg h]
  · rw [List.map_append]
    rfl
theorem dPut_sK {α : Type} (f : α → D) (x : Str) (a : α) (ks : List (Str × α)) : dPut false (sK f ks) (.str x) (f a) = some (sK f (putS ks x a)) := by
  show some (putA keyK (sK f ks) (.inr x) (.str x) (f a)) = _
  rw [put_sK]
/-! ### loops -/
/-- a loop that goes through: an invariant by how many turns are done -/
theorem forL_nx {α : Type} {enc : α → D} {s : D → Ev → Option Ev} {g : Ev → SR} (I : Nat → Ev → Prop) : ∀ (xs : List α) (n : Nat) (e : Ev), I n e →
    (∀ (i : Nat) (x : α), xs[i]? = some x → ∀ e, I (n + i) e → ∃ e1, s (enc x) e = some e1 ∧ ∃ e2, (g e1 = .nx e2 ∨ g e1 = .ct e2) ∧ I (n + i + 1) e2) → ∃ e', forL s g (xs.map enc) e = .nx e' ∧ I (n + xs.length) e'
  | [], n, e, h, _ => ⟨e, rfl, h⟩
  | x :: xs, n, e, h, st => by
    obtain ⟨e1, h1, e2, h2, h3⟩ := st 0 x rfl e h
    obtain ⟨e', h4, h5⟩ := forL_nx I xs (n + 1) e2 h3 fun i y hy e he => by
      have := st (i + 1) y (by simpa using hy) e (by rw [show n + (i + 1) = n + 1 + i by omega]; exact he)
      rw [show n + (i + 1) = n + 1 + i by omega] at this
      exact this
    refine ⟨e', ?_, by rw [List.length_cons, show n + (xs.length + 1) = n + 1 + xs.length by omega]; exact h5⟩
    rw [List.map_cons]
    unfold forL
    rw [h1]
    rcases h2 with h2 | h2 <;> (simp only [h2]; exact h4)
/-- .. by what is folded -/
theorem forL_fold {α σ : Type} {enc : α → D} {s : D → Ev → Option Ev} {g : Ev → SR} (J : σ → Ev → Prop) (f : σ → α → σ) : ∀ (xs : List α) (a : σ) (e : Ev), J a e →
    (∀ x ∈ xs, ∀ a e, J a e → ∃ e1, s (enc x) e = some e1 ∧ ∃ e2, (g e1 = .nx e2 ∨ g e1 = .ct e2) ∧ J (f a x) e2) → ∃ e', forL s g (xs.map enc) e = .nx e' ∧ J (xs.foldl f a) e'
  | [], a, e, h, _ => ⟨e, rfl, h⟩
  | x :: xs, a, e, h, st => by
    obtain ⟨e1, h1, e2, h2, h3⟩ := st x List.mem_cons_self a e h
    obtain ⟨e', h4, h5⟩ := forL_fold J f xs (f a x) e2 h3 fun y hy => st y (List.mem_cons_of_mem _ hy)
    refine ⟨e', ?_, h5⟩
    rw [List.map_cons]
    unfold forL
    rw [h1]
    rcases h2 with h2 | h2 <;> (simp only [h2]; exact h4)
/-- a loop that may return -/
theorem forL_rt {α : Type} {enc : α → D} {s : D → Ev → Option Ev} {g : Ev → SR} (P : α → Bool) (J : Ev → Prop) (K : SR → Prop) : ∀ (xs : List α) (e : Ev), J e →
    (∀ x ∈ xs, ∀ e, J e → ∃ e1, s (enc x) e = some e1 ∧ (P x = true → (∃ z e2, g e1 = .rt z e2 ∧ K (.rt z e2)) ∨ (∃ c z e2, g e1 = .err c z e2 ∧ K (.err c z e2))) ∧ (P x = false → ∃ e2, (g e1 = .nx e2 ∨ g e1 = .ct e2) ∧ J e2)) →
    (xs.any P = true → K (forL s g (xs.map enc) e)) ∧ (xs.any P = false → ∃ e', forL s g (xs.map enc) e = .nx e' ∧ J e')
  | [], e, h, _ => ⟨fun z => by simp at z, fun _ => ⟨e, rfl, h⟩⟩
  | x :: xs, e, h, st => by
    obtain ⟨e1, h1, h2, h3⟩ := st x List.mem_cons_self e h
    rw [List.map_cons]
    unfold forL
    rw [h1]
    cases hp : P x with
    | true =>
      refine ⟨fun _ => ?_, fun z => by rw [List.any_cons, hp] at z; cases z⟩
      rcases h2 hp with ⟨z, e2, h4, h5⟩ | ⟨c, z, e2, h4, h5⟩ <;> (simp only [h4]; exact h5)
    | false =>
      obtain ⟨e2, h4, h5⟩ := h3 hp
      obtain ⟨i1, i2⟩ := forL_rt P J K xs e2 h5 fun y hy => st y (List.mem_cons_of_mem _ hy)
      rw [List.any_cons, hp, Bool.false_or]
      rcases h4 with h4 | h4 <;> (simp only [h4]; exact ⟨i1, i2⟩)
/-! ### comprehensions -/
theorem lcL_eq {α : Type} {enc : α → D} {s : D → Ev → Option Ev} {q : Ev → Res Bool} {h : Ev → Res RV} {ck : Ev → Prop} {vs : List Nat} {e0 : Ev} (Q : α → Bool) (F : α → D) (hc : ck e0) : ∀ (xs : List α) (acc : List D),
    (∀ x ∈ xs, ∃ e1, s (enc x) e0 = some e1 ∧ ∃ e2, q e1 = .ok (Q x) e2 ∧ (Q x = true → ∃ e3, h e2 = .ok (.d (F x)) e3 ∧ wipeE e3 vs = e0) ∧ (Q x = false → wipeE e2 vs = e0)) →
    lcL s q h ck vs (xs.map enc) acc e0 = .ok (.lst (acc ++ (xs.filter Q).map F)) e0
  | [], acc, _ => by
    simp [lcL]
  | x :: xs, acc, st => by
    obtain ⟨e1, h1, e2, h2, h3, h4⟩ := st x List.mem_cons_self
    rw [List.map_cons]
    unfold lcL
    simp only [h1, h2]
    cases hq : Q x with
    | true =>
      obtain ⟨e3, h5, h6⟩ := h3 hq
      simp only [h5, if_true]
      rw [if_pos (by rw [h6]; exact hc), h6, lcL_eq Q F hc xs _ fun y hy => st y (List.mem_cons_of_mem _ hy), List.filter_cons, hq]
      simp
    | false =>
      simp only [Bool.false_eq_true, if_false]
      rw [if_pos (by rw [h4 hq]; exact hc), h4 hq, lcL_eq Q F hc xs _ fun y hy => st y (List.mem_cons_of_mem _ hy), List.filter_cons, hq]
      simp
theorem lcL_all {α : Type} {enc : α → D} {s : D → Ev → Option Ev} {h : Ev → Res RV} {ck : Ev → Prop} {vs : List Nat} {e0 : Ev} (F : α → D) (hc : ck e0) (xs : List α) (acc : List D)
    (st : ∀ x ∈ xs, ∃ e1, s (enc x) e0 = some e1 ∧ ∃ e3, h e1 = .ok (.d (F x)) e3 ∧ wipeE e3 vs = e0) :
    lcL s qYes h ck vs (xs.map enc) acc e0 = .ok (.lst (acc ++ xs.map F)) e0 := by
  have := lcL_eq (s := s) (q := qYes) (h := h) (ck := ck) (vs := vs) (enc := enc) (fun _ => true) F hc xs acc fun x hx => by
    obtain ⟨e1, h1, e3, h2, h3⟩ := st x hx
    exact ⟨e1, h1, e1, rfl, fun _ => ⟨e3, h2, h3⟩, fun z => by cases z⟩
  rw [this, List.filter_eq_self.mpr fun _ _ => rfl]
/-- a comprehension whose turns change the frame -/
theorem lcL_inv {α : Type} {enc : α → D} {s : D → Ev → Option Ev} {h : Ev → Res RV} {ck : Ev → Prop} {vs : List Nat} (I : List D → Ev → Prop) : ∀ (xs : List α) (acc : List D) (e : Ev), I acc e →
    (∀ x ∈ xs, ∀ acc e, I acc e → ∃ e1, s (enc x) e = some e1 ∧ ∃ z e3, h e1 = .ok (.d z) e3 ∧ ck (wipeE e3 vs) ∧ I (acc ++ [z]) (wipeE e3 vs)) →
    ∃ acc' e', lcL s qYes h ck vs (xs.map enc) acc e = .ok (.lst acc') e' ∧ acc'.length = acc.length + xs.length ∧ I acc' e'
  | [], acc, e, i, _ => ⟨acc, e, rfl, rfl, i⟩
  | x :: xs, acc, e, i, st => by
    obtain ⟨e1, h1, z, e3, h2, h3, h4⟩ := st x List.mem_cons_self acc e i
    obtain ⟨acc', e', h5, h6, h7⟩ := lcL_inv I xs _ _ h4 fun y hy => st y (List.mem_cons_of_mem _ hy)
    refine ⟨acc', e', ?_, by rw [h6]; simp; omega, h7⟩
    rw [List.map_cons]
    unfold lcL
    simp only [h1, qYes, h2, if_true]
    rw [if_pos h3]
    exact h5
@[simp] theorem ev_wipe0 {e : Ev} : wipeE e [] = e := rfl
@[simp] theorem ev_wipe1 {e : Ev} {v : Nat} {vs : List Nat} : wipeE e (v :: vs) = (wipeE e vs).set v Sl.no := rfl
theorem eLc_seen {f : Ev → Res (List D × Src)} {s : D → Ev → Option Ev} {q : Ev → Res Bool} {h : Ev → Res RV} {vs : List Nat} {e e1 : Ev} {ds : List D} (hf : f e = .ok (ds, .seen) e1) : eLc f s q h vs e = lcL s q h (fun _ => True) vs ds [] (wipeE e1 vs) := by
  unfold eLc
  rw [hf]
  rfl
theorem eLc_own {f : Ev → Res (List D × Src)} {s : D → Ev → Option Ev} {q : Ev → Res Bool} {h : Ev → Res RV} {vs : List Nat} {e e1 : Ev} {ds : List D} {j : Nat} {d : D} (hf : f e = .ok (ds, .own j d) e1) (hj : j ∉ vs) : eLc f s q h vs e = lcL s q h (fun e => e[j]? = some (Sl.own d)) vs ds [] (wipeE e1 vs) := by
  unfold eLc
  rw [hf]
  show (if j ∈ vs then _ else _) = _
  rw [if_neg hj]
/-- two loops -/
theorem lcI_eq {α : Type} {enc : α → D} {s : D → Ev → Option Ev} {q : Ev → Res Bool} {h : Ev → Res RV} {ck : Ev → Prop} {vs : List Nat} {e0 : Ev} (Q : α → Bool) (F : α → D) (hc : ck e0) : ∀ (xs : List α) (acc : List D), acc.length + xs.length ≤ 10000000 →
    (∀ x ∈ xs, ∃ e1, s (enc x) e0 = some e1 ∧ ∃ e2, q e1 = .ok (Q x) e2 ∧ (Q x = true → ∃ e3, h e2 = .ok (.d (F x)) e3 ∧ wipeE e3 vs = e0) ∧ (Q x = false → wipeE e2 vs = e0)) →
    lcI s q h ck vs (xs.map enc) acc e0 = .ok (acc ++ (xs.filter Q).map F) e0
  | [], acc, _, _ => by
    simp [lcI]
  | x :: xs, acc, hl, st => by
    obtain ⟨e1, h1, e2, h2, h3, h4⟩ := st x List.mem_cons_self
    rw [List.length_cons] at hl
    rw [List.map_cons]
    unfold lcI
    simp only [h1, h2]
    cases hq : Q x with
    | true =>
      obtain ⟨e3, h5, h6⟩ := h3 hq
      simp only [h5, if_true]
      rw [if_pos ⟨by rw [h6]; exact hc, by omega⟩, h6, lcI_eq Q F hc xs _ (by simp; omega) fun y hy => st y (List.mem_cons_of_mem _ hy), List.filter_cons, hq]
      simp
    | false =>
      simp only [Bool.false_eq_true, if_false]
      rw [if_pos (by rw [h4 hq]; exact hc), h4 hq, lcI_eq Q F hc xs _ (by omega) fun y hy => st y (List.mem_cons_of_mem _ hy), List.filter_cons, hq]
      simp
theorem lcO_eq {α β : Type} {enc : α → D} {enc1 : β → D} {s s1 : D → Ev → Option Ev} {f1 : Ev → Res (List D × Src)} {q1 : Ev → Res Bool} {h : Ev → Res RV} {ck : Ev → Prop} {vs vs1 : List Nat} {e0 : Ev} (ys : α → List β) (Q : α → β → Bool) (F : α → β → D) (hc : ck e0) : ∀ (xs : List α) (acc : List D), acc.length + (xs.map fun x => (ys x).length).sum ≤ 10000000 →
    (∀ x ∈ xs, ∃ e1, s (enc x) e0 = some e1 ∧ ∃ e3 : Ev, f1 e1 = .ok ((ys x).map enc1, .seen) e3 ∧ wipeE (wipeE e3 vs1) vs = e0 ∧
      ∀ y ∈ ys x, ∃ e4, s1 (enc1 y) (wipeE e3 vs1) = some e4 ∧ ∃ e5, q1 e4 = .ok (Q x y) e5 ∧ (Q x y = true → ∃ e6, h e5 = .ok (.d (F x y)) e6 ∧ wipeE e6 vs1 = wipeE e3 vs1) ∧ (Q x y = false → wipeE e5 vs1 = wipeE e3 vs1)) →
    lcO s qYes f1 s1 q1 h ck vs vs1 (xs.map enc) acc e0 = .ok (.lst (acc ++ xs.flatMap fun x => ((ys x).filter (Q x)).map (F x))) e0
  | [], acc, _, _ => by
    simp [lcO]
  | x :: xs, acc, hl, st => by
    obtain ⟨e1, h1, e3, h2, h3, h4⟩ := st x List.mem_cons_self
    rw [List.map_cons, List.sum_cons] at hl
    have hk := lcI_eq (s := s1) (q := q1) (h := h) (ck := fun _ => True) (vs := vs1) (e0 := wipeE e3 vs1) (Q x) (F x) trivial (ys x) acc (by omega) h4
    have hfl : ((ys x).filter (Q x)).length ≤ (ys x).length := List.length_filter_le _ _
    rw [List.map_cons]
    unfold lcO
    simp only [h1, qYes, h2, lcIs, hk, if_true]
    rw [if_pos ⟨by rw [h3]; exact hc, by simp; omega⟩, h3, lcO_eq ys Q F hc xs _ (by simp; omega) fun y hy => st y (List.mem_cons_of_mem _ hy)]
    simp
theorem eLc2_seen {f : Ev → Res (List D × Src)} {s : D → Ev → Option Ev} {q : Ev → Res Bool} {f1 : Ev → Res (List D × Src)} {s1 : D → Ev → Option Ev} {q1 : Ev → Res Bool} {h : Ev → Res RV} {vs vs1 : List Nat} {e e1 : Ev} {ds : List D} (hf : f e = .ok (ds, .seen) e1) : eLc2 f s q f1 s1 q1 h vs vs1 e = lcO s q f1 s1 q1 h (fun _ => True) vs vs1 ds [] (wipeE e1 vs) := by
  unfold eLc2
  rw [hf]
  rfl
/-- a dict by texts -/
theorem dcL_eq {α β : Type} {enc : α → D} {s : D → Ev → Option Ev} {hk h : Ev → Res RV} {ck : Ev → Prop} {vs : List Nat} {e0 : Ev} (kf : α → Str) (F : α → β) (f : β → D) (hc : ck e0) : ∀ (xs : List α) (acc : List (Str × β)), acc.length + xs.length ≤ 10000000 →
    (∀ x ∈ xs, ∃ e1, s (enc x) e0 = some e1 ∧ ∃ e2, hk e1 = .ok (.d (.str (kf x))) e2 ∧ ∃ e3, h e2 = .ok (.d (f (F x))) e3 ∧ wipeE e3 vs = e0) →
    dcL s qYes hk h ck vs (xs.map enc) (sK f acc) e0 = .ok (.dic false (sK f (xs.foldl (fun a x => putS a (kf x) (F x)) acc))) e0
  | [], acc, _, _ => by
    simp [dcL]
  | x :: xs, acc, hl, st => by
    obtain ⟨e1, h1, e2, h2, e3, h3, h4⟩ := st x List.mem_cons_self
    rw [List.length_cons] at hl
    have hp : (putS acc (kf x) (F x)).length ≤ acc.length + 1 := by
      unfold putS
      split <;> simp
    rw [List.map_cons]
    unfold dcL
    simp only [h1, qYes, h2, h3, keyK, if_true]
    rw [if_pos ⟨by rw [h4]; exact hc, by rw [len_sK]; omega⟩, h4, put_sK, dcL_eq kf F f hc xs _ (by omega) fun y hy => st y (List.mem_cons_of_mem _ hy)]
    rfl
theorem eDc_seen {f : Ev → Res (List D × Src)} {s : D → Ev → Option Ev} {q : Ev → Res Bool} {hk h : Ev → Res RV} {vs : List Nat} {e e1 : Ev} {ds : List D} (hf : f e = .ok (ds, .seen) e1) : eDc f s q hk h vs e = dcL s q hk h (fun _ => True) vs ds [] (wipeE e1 vs) := by
  unfold eDc
  rw [hf]
  rfl
/-! ### the usual forms: one name, steps that leave the frame -/
section
variable {α : Type} {enc : α → D} {v : Nat} {e : Ev} {f : Ev → Res (List D × Src)} {q : Ev → Res Bool} {h : Ev → Res RV}
theorem eLc_q (xs : List α) (Q : α → Bool) (F : α → D) (hf : f e = .ok (xs.map enc, .seen) e)
    (st : ∀ x ∈ xs, q (e.set v (.val (enc x))) = .ok (Q x) (e.set v (.val (enc x))) ∧ (Q x = true → h (e.set v (.val (enc x))) = .ok (.d (F x)) (e.set v (.val (enc x))))) :
    eLc f (gN v) q h [v] e = .ok (.lst ((xs.filter Q).map F)) (e.set v .no) := by
  rw [eLc_seen hf]
  have := lcL_eq (s := gN v) (q := q) (h := h) (ck := fun _ => True) (vs := [v]) (e0 := e.set v .no) (enc := enc) Q F trivial xs [] fun x hx => by
    obtain ⟨h1, h2⟩ := st x hx
    refine ⟨_, rfl, _, by rw [List.set_set]; exact h1, fun hq => ⟨_, h2 hq, ?_⟩, fun _ => ?_⟩ <;> simp [List.set_set]
  rw [List.nil_append] at this
  exact this
theorem eLc_y (xs : List α) (F : α → D) (hf : f e = .ok (xs.map enc, .seen) e)
    (st : ∀ x ∈ xs, h (e.set v (.val (enc x))) = .ok (.d (F x)) (e.set v (.val (enc x)))) :
    eLc f (gN v) qYes h [v] e = .ok (.lst (xs.map F)) (e.set v .no) := by
  rw [eLc_q (q := qYes) xs (fun _ => true) F hf fun x hx => ⟨rfl, fun _ => st x hx⟩, List.filter_eq_self.mpr fun _ _ => rfl]
theorem eLc_qo {j : Nat} {d : D} (xs : List α) (Q : α → Bool) (F : α → D) (hf : f e = .ok (xs.map enc, .own j d) e) (hj : j ≠ v) (hd : e[j]? = some (.own d))
    (st : ∀ x ∈ xs, q (e.set v (.val (enc x))) = .ok (Q x) (e.set v (.val (enc x))) ∧ (Q x = true → h (e.set v (.val (enc x))) = .ok (.d (F x)) (e.set v (.val (enc x))))) :
    eLc f (gN v) q h [v] e = .ok (.lst ((xs.filter Q).map F)) (e.set v .no) := by
  rw [eLc_own hf (by simpa using hj)]
  have := lcL_eq (s := gN v) (q := q) (h := h) (ck := fun e => e[j]? = some (Sl.own d)) (vs := [v]) (e0 := e.set v .no) (enc := enc) Q F (by rw [List.getElem?_set_ne (Ne.symm hj)]; exact hd) xs [] fun x hx => by
    obtain ⟨h1, h2⟩ := st x hx
    refine ⟨_, rfl, _, by rw [List.set_set]; exact h1, fun hq => ⟨_, h2 hq, ?_⟩, fun _ => ?_⟩ <;> simp [List.set_set]
  rw [List.nil_append] at this
  exact this
theorem eDc_y {β : Type} {hk : Ev → Res RV} (kf : α → Str) (F : α → β) (g : β → D) (xs : List α) (hf : f e = .ok (xs.map enc, .seen) e) (hl : xs.length ≤ 10000000)
    (st : ∀ x ∈ xs, hk (e.set v (.val (enc x))) = .ok (.d (.str (kf x))) (e.set v (.val (enc x))) ∧ h (e.set v (.val (enc x))) = .ok (.d (g (F x))) (e.set v (.val (enc x)))) :
    eDc f (gN v) qYes hk h [v] e = .ok (.dic false (sK g (xs.foldl (fun a x => putS a (kf x) (F x)) []))) (e.set v .no) := by
  rw [eDc_seen hf]
  exact dcL_eq (s := gN v) (hk := hk) (h := h) (ck := fun _ => True) (vs := [v]) (e0 := e.set v .no) (enc := enc) kf F g trivial xs [] (by simpa using hl) fun x hx => by
    obtain ⟨h1, h2⟩ := st x hx
    refine ⟨_, rfl, _, by rw [List.set_set]; exact h1, _, h2, ?_⟩
    simp [List.set_set]
theorem eLc2_q {β : Type} {enc1 : β → D} {w : Nat} {f1 : Ev → Res (List D × Src)} (xs : List α) (ys : α → List β) (Q : α → β → Bool) (F : α → β → D) (hl : (xs.map fun x => (ys x).length).sum ≤ 10000000) (hw : e[w]? = some .no) (hvw : v ≠ w) (hf : f e = .ok (xs.map enc, .seen) e)
    (st : ∀ x ∈ xs, f1 (e.set v (.val (enc x))) = .ok ((ys x).map enc1, .seen) (e.set v (.val (enc x))) ∧ ∀ y ∈ ys x, q ((e.set v (.val (enc x))).set w (.val (enc1 y))) = .ok (Q x y) ((e.set v (.val (enc x))).set w (.val (enc1 y))) ∧ (Q x y = true → h ((e.set v (.val (enc x))).set w (.val (enc1 y))) = .ok (.d (F x y)) ((e.set v (.val (enc x))).set w (.val (enc1 y))))) :
    eLc2 f (gN v) qYes f1 (gN w) q h [v, w] [w] e = .ok (.lst (xs.flatMap fun x => ((ys x).filter (Q x)).map (F x))) (e.set v .no) := by
  have ew : e.set w .no = e := by
    apply List.ext_getElem?
    intro i
    by_cases hi : i = w
    · subst hi
      rw [List.getElem?_set_self (by
        rcases Nat.lt_or_ge i e.length with h | h
        · exact h
        · rw [List.getElem?_eq_none h] at hw; cases hw), hw]
    · rw [List.getElem?_set_ne (Ne.symm hi)]
  have ewd : ∀ s : Sl, (e.set v s).set w .no = e.set v s := fun s => by rw [List.set_comm _ _ hvw, ew]
  rw [eLc2_seen hf]
  have e0 : wipeE e [v, w] = e.set v .no := by simp [ew]
  rw [e0]
  have := lcO_eq (s := gN v) (s1 := gN w) (f1 := f1) (q1 := q) (h := h) (ck := fun _ => True) (vs := [v, w]) (vs1 := [w]) (e0 := e.set v .no) (enc := enc) (enc1 := enc1) ys Q F trivial xs [] (by simpa using hl) fun x hx => by
    obtain ⟨h1, h2⟩ := st x hx
    refine ⟨_, rfl, _, by rw [List.set_set]; exact h1, by simp [ewd, List.set_set], fun y hy => ?_⟩
    obtain ⟨h3, h4⟩ := h2 y hy
    refine ⟨_, rfl, _, by simp only [ev_wipe1, ev_wipe0, List.set_set]; exact h3, fun hq => ⟨_, h4 hq, ?_⟩, fun _ => ?_⟩ <;> simp [List.set_set]
  rw [List.nil_append] at this
  exact this
end
end PD


set_option Elab.async false
set_option linter.all false
set_option maxRecDepth 100000
set_option maxHeartbeats 4000000
/-! what the defs mean -/
namespace Q06
open PySem PySem.Spec PyProof.Rows L2 RK PD
def fc__homes : List Str := ["Book"]
def fc_rooms : List Str := ["Book"]
def is_bool : DT → Bool := fun t => decide (t = .ty "bool")
def is_int : DT → Bool := fun t => decide (t = .ty "int") || decide (t = .ty "bool")
def is_str : DT → Bool := fun t => decide (t = .ty "str")
def is_tuple : DT → Bool := fun t => decide (t = .ty "tuple")
def sel_InvalidNumber : Str → Bool := fun c => decide (c = "InvalidNumber")
def sel_Refused : Str → Bool := fun c => decide (c = "Refused")
def sel_RoomError : Str → Bool := fun c => true
def fdOf : Str → Option Str := fun c => if c = "InvalidBook" then some "at" else if c = "InvalidNumber" then some "word" else if c = "Refused" then some "word" else none
structure Tf (k : Kn) (mg : Str → Option Value) (AD : String → Addr) : Prop where
  f__homes : FldOk k.K k.cn fc__homes "_homes"
  f_rooms : FldOk k.K k.cn fc_rooms "rooms"
  g_LETTERS : ∃ u, mg "LETTERS" = some u ∧ RelV (.str "abcdefghijklmnopqrstuvwxyz") u
  g_MOST_LOTS : ∃ u, mg "MOST_LOTS" = some u ∧ RelV (.int (1000)) u
  g_MOST_OUTCOMES : ∃ u, mg "MOST_OUTCOMES" = some u ∧ RelV (.int (24)) u
  g_MOST_ROOMS : ∃ u, mg "MOST_ROOMS" = some u ∧ RelV (.int (10)) u
  is_bool : IsOk k.K k.cn (.type "bool") is_bool
  is_int : IsOk k.K k.cn (.type "int") is_int
  is_str : IsOk k.K k.cn (.type "str") is_str
  is_tuple : IsOk k.K k.cn (.type "tuple") is_tuple
  e_InvalidBook : ErrC k.K mg "InvalidBook" "at" (AD "InvalidBook") (AD "InvalidBook.__init__")
  n_InvalidBook : k.en "InvalidBook" = some (AD "InvalidBook")
  d_InvalidBook : k.fd "InvalidBook" = some "at"
  e_InvalidNumber : ErrC k.K mg "InvalidNumber" "word" (AD "InvalidNumber") (AD "InvalidNumber.__init__")
  n_InvalidNumber : k.en "InvalidNumber" = some (AD "InvalidNumber")
  d_InvalidNumber : k.fd "InvalidNumber" = some "word"
  e_Refused : ErrC k.K mg "Refused" "word" (AD "Refused") (AD "Refused.__init__")
  n_Refused : k.en "Refused" = some (AD "Refused")
  d_Refused : k.fd "Refused" = some "word"
  x_InvalidNumber : mg "InvalidNumber" = some (.ref (AD "InvalidNumber"))
  h_InvalidNumber : ∀ c C, k.en c = some C → PySem.W.exmOne k.K (.ref C) (.ref (AD "InvalidNumber")) = some (sel_InvalidNumber c)
  x_Refused : mg "Refused" = some (.ref (AD "Refused"))
  h_Refused : ∀ c C, k.en c = some C → PySem.W.exmOne k.K (.ref C) (.ref (AD "Refused")) = some (sel_Refused c)
  x_RoomError : mg "RoomError" = some (.ref (AD "RoomError"))
  h_RoomError : ∀ c C, k.en c = some C → PySem.W.exmOne k.K (.ref C) (.ref (AD "RoomError")) = some (sel_RoomError c)
  m_abs : mg "abs" = none
  m_all : mg "all" = none
  m_any : mg "any" = none
  m_bool : mg "bool" = none
  m_enumerate : mg "enumerate" = none
  m_int : mg "int" = none
  m_isinstance : mg "isinstance" = none
  m_len : mg "len" = none
  m_ord : mg "ord" = none
  m_range : mg "range" = none
  m_sorted : mg "sorted" = none
  m_str : mg "str" = none
  m_tuple : mg "tuple" = none
  cl_Book : L2.Cls k.K (AD "Book")
  hc_Book : k.cn "Book" = some (AD "Book")
  ins : InsOk k.K k.cn
  fd : k.fd = fdOf
  er : ErOk k.K k.en k.fd

/-- what _law_heap makes of the script -/
def hpS (s c : Int) : Int := (s * 69621 + c % 2147483543 + 31) % 2147483647
def hp0 : Int := 1009
def hpF (ns : List Int) : List Int × Int :=
  let cs := (ns.take 60).map fun z : Int => (if z < 0 then -z else z)
  ((cs.filter fun c => decide (c ≥ 10 ^ 18)).reverse, cs.foldl hpS hp0)
noncomputable def g_is_integer : Ev → SR := (sRet (eAnd (eIsi is_int (eVar 0)) (eNot (eIsi is_bool (eVar 0)))))
abbrev N_is_integer : List Str := ["value"]
noncomputable def F_is_integer : List D → FR := runF 1 [.v] false g_is_integer

noncomputable def g_is_number_within : Ev → SR := (sRet (eAnd (eCall [.v] F_is_integer (lCons (eVar 0) lNil)) (eChain dLe dLe (eVar 1) (eVar 0) (eVar 2))))
abbrev N_is_number_within : List Str := ["value", "low", "high"]
noncomputable def F_is_number_within : List D → FR := runF 3 [.v, .v, .v] false g_is_number_within

noncomputable def g_is_name : Ev → SR := (sSeq (sIf (qOr (qNot (qTru (eIsi is_str (eVar 0)))) (qNot (qB (eChain dLe dLe (eC (.int 1)) (eCB (un dLen) (lCons (eVar 0) lNil)) (eC (.int 5)))))) (sRet (eC (.bl false))) sNext)
    (sRet (eCB (un dAll) (lCons (eVis (eLc (iS (eVar 0)) (gN 1) qYes (eOp dIn (eVar 1) (eC (.str "abcdefghijklmnopqrstuvwxyz"))) [1])) lNil))))
abbrev N_is_name : List Str := ["value", "sign"]
noncomputable def F_is_name : List D → FR := runF 2 [.v] false g_is_name

noncomputable def g_is_ascending : Ev → SR := (sRet (eCB (un dAll) (lCons (eVis (eLc (iR2 (lCons (eC (.int 1)) (lCons (eCB (un dLen) (lCons (eVar 0) lNil)) lNil))) (gN 1) qYes (eOp dLt (eOp dIx (eVar 0) (eOp dSub (eVar 1) (eC (.int 1)))) (eOp dIx (eVar 0) (eVar 1))) [1])) lNil)))
abbrev N_is_ascending : List Str := ["values", "k"]
noncomputable def F_is_ascending : List D → FR := runF 2 [.v] false g_is_ascending

noncomputable def g__is_room : Ev → SR := (sSeq (sIf (qOr (qNot (qTru (eIsi is_tuple (eVar 0)))) (qNot (qB (eChain dLe dLe (eC (.int 3)) (eCB (un dLen) (lCons (eVar 0) lNil)) (eC (.int 5)))))) (sRet (eC (.bl false))) sNext)
    (sRet (eAnd (eCB (un dAll) (lCons (eVis (eLc (iT (eVar 0)) (gN 1) qYes (eCall [.v] F_is_name (lCons (eVar 1) lNil)) [1])) lNil)) (eCall [.v] F_is_ascending (lCons (eVar 0) lNil)))))
abbrev N__is_room : List Str := ["value", "item"]
noncomputable def F__is_room : List D → FR := runF 2 [.v] false g__is_room

noncomputable def g__common : Ev → SR := (sRet (eVis (eLc (iT (eVar 0)) (gN 2) (qB (eOp dIn (eVar 2) (eVar 1))) (eVar 2) [2])))
abbrev N__common : List Str := ["room", "other", "outcome"]
noncomputable def F__common : List D → FR := runF 3 [.v, .v] false g__common

noncomputable def g__crosses_twice : Ev → SR := (sRet (eCB (un dAny) (lCons (eVis (eLc (iT (eVar 1)) (gN 2) qYes (eOp dGt (eCB (un dLen) (lCons (eCall [.v, .v] F__common (lCons (eVar 0) (lCons (eVar 2) lNil))) lNil)) (eC (.int 1))) [2])) lNil)))
abbrev N__crosses_twice : List Str := ["room", "earlier", "other"]
noncomputable def F__crosses_twice : List D → FR := runF 3 [.v, .v] false g__crosses_twice

noncomputable def g__homes_of : Ev → SR := (sSeq (sNew 1 (fun e => .ok (.dic false []) e))
    (sSeq (sFor (iEnT (lCons (eVar 0) lNil)) (gT (gsCons (gN 2) (gsCons (gN 3) gsNil))) (sFor (iT (eVar 3)) (gN 4) (sPutD 1 (eVar 4) (eOp dAdd (eGet2 (eVar 1) (eVar 4) (eTup lNil)) (eTup (lCons (eVar 2) lNil))))))
    (sRet (eVar 1))))
abbrev N__homes_of : List Str := ["rooms", "homes", "number", "room", "outcome"]
noncomputable def F__homes_of : List D → FR := runF 5 [.v] false g__homes_of

noncomputable def g_Book___init__ : Ev → SR := (sSeq (sIf (qOr (qNot (qTru (eIsi is_tuple (eVar 1)))) (qNot (qB (eChain dLe dLe (eC (.int 1)) (eCB (un dLen) (lCons (eVar 1) lNil)) (eC (.int 10)))))) (sRaise "InvalidBook" (eUn dNeg (eC (.int 1)))) sNext)
    (sSeq (sFor (iEnT (lCons (eVar 1) lNil)) (gT (gsCons (gN 2) (gsCons (gN 3) gsNil))) (sIf (qOr (qNot (qTru (eCall [.v] F__is_room (lCons (eVar 3) lNil)))) (qTru (eCall [.v, .v] F__crosses_twice (lCons (eVar 3) (lCons (eSl dCutT (eVar 1) qO0 (qO (eVar 2))) lNil))))) (sRaise "InvalidBook" (eVar 2)) sNext))
    (sSeq (sSet 4 (eCall [.v] F__homes_of (lCons (eVar 1) lNil)))
    (sSeq (sIf (qB (eOp dGt (eCB (un dLen) (lCons (eVar 4) lNil)) (eC (.int 24)))) (sRaise "InvalidBook" (eCB (un dLen) (lCons (eVar 1) lNil))) sNext)
    (sSeq (sFld 0 fc_rooms "rooms" (eVar 1))
    (sFld 0 fc__homes "_homes" (eVar 4)))))))
abbrev N_Book___init__ : List Str := ["self", "rooms", "at", "room", "homes"]
noncomputable def F_Book___init__ : List D → FR := runF 5 [.o, .v] false g_Book___init__

noncomputable def g_Book_rooms_of : Ev → SR := (sSeq (sIf (qNot (qTru (eIsi is_str (eVar 1)))) (sRet (eTup lNil)) sNext)
    (sRet (eGet2 (eFld fc__homes "_homes" (eVar 0)) (eVar 1) (eTup lNil))))
abbrev N_Book_rooms_of : List Str := ["self", "outcome"]
noncomputable def F_Book_rooms_of : List D → FR := runF 2 [.v, .v] false g_Book_rooms_of

noncomputable def g_Book_outcomes : Ev → SR := (sRet (eCB (un dTuple) (lCons (eVis (eCBN (un dSortedK) (lCons (eFld fc__homes "_homes" (eVar 0)) lNil))) lNil)))
abbrev N_Book_outcomes : List Str := ["self"]
noncomputable def F_Book_outcomes : List D → FR := runF 1 [.v] false g_Book_outcomes

noncomputable def g__beside : Ev → SR := (sSeq (sSet 2 (eVis (eLc (iT (eMeth "Book" "rooms_of" [.v, .v] F_Book_rooms_of (eVar 0) (lCons (eVar 1) lNil))) (gN 3) qYes (eOp dIx (eFld fc_rooms "rooms" (eVar 0)) (eVar 3)) [3])))
    (sRet (eCB (un dTuple) (lCons (eVis (eCBN (un dSorted) (lCons (eVis (eLc2 (iL (eVar 2)) (gN 3) qYes (iT (eVar 3)) (gN 4) (qB (eOp dNe (eVar 4) (eVar 1))) (eVar 4) [3, 4] [4])) lNil))) lNil))))
abbrev N__beside : List Str := ["book", "outcome", "homes", "room", "other"]
noncomputable def F__beside : List D → FR := runF 5 [.v, .v] false g__beside

noncomputable def g_rivals : Ev → SR := (sRet (eVis (eDc (iT (eMeth "Book" "outcomes" [.v] F_Book_outcomes (eVar 0) lNil)) (gN 1) qYes (eVar 1) (eCall [.v, .v] F__beside (lCons (eVar 0) (lCons (eVar 1) lNil))) [1])))
abbrev N_rivals : List Str := ["book", "outcome"]
noncomputable def F_rivals : List D → FR := runF 2 [.v] false g_rivals

noncomputable def g__may_end : Ev → SR := (sSeq (sIf (qAnd (qTru (eVar 0)) (qNot (qB (eOp dLt (eOp dIx (eVar 0) (eUn dNeg (eC (.int 1)))) (eVar 1))))) (sRet (eC (.bl false))) sNext)
    (sRet (eNot (eCB (un dAny) (lCons (eVis (eLc (iT (eVar 0)) (gN 3) qYes (eOp dIn (eVar 1) (eDGet (eVar 2) (eVar 3))) [3])) lNil)))))
abbrev N__may_end : List Str := ["lot", "name", "clashes", "item"]
noncomputable def F__may_end : List D → FR := runF 4 [.v, .v, .v] false g__may_end

noncomputable def g_longer_lots : Ev → SR := (sRet (eVis (eLc2 (iL (eVar 0)) (gN 3) qYes (iT (eVar 1)) (gN 4) (qTru (eCall [.v, .v, .v] F__may_end (lCons (eVar 3) (lCons (eVar 4) (lCons (eVar 2) lNil))))) (eOp dAdd (eVar 3) (eTup (lCons (eVar 4) lNil))) [3, 4] [4])))
abbrev N_longer_lots : List Str := ["lots", "names", "clashes", "lot", "name"]
noncomputable def F_longer_lots : List D → FR := runF 5 [.v, .v, .v] false g_longer_lots

noncomputable def g_lots_without : Ev → SR := (sSeq (sSet 3 (eVis (eLst (lCons (eTup lNil) lNil))))
    (sSeq (sFor (iR1 (lCons (eVar 2) lNil)) (gN 4) (sSeq (sSet 3 (eCall [.v, .v, .v] F_longer_lots (lCons (eVar 3) (lCons (eVar 0) (lCons (eVar 1) lNil)))))
    (sIf (qB (eOp dGt (eCB (un dLen) (lCons (eVar 3) lNil)) (eC (.int 1000)))) (sRaise "Refused" (eC (.str "wide"))) sNext)))
    (sRet (eCB (un dTuple) (lCons (eVar 3) lNil)))))
abbrev N_lots_without : List Str := ["names", "clashes", "size", "lots", "_"]
noncomputable def F_lots_without : List D → FR := runF 5 [.v, .v, .v] false g_lots_without

noncomputable def g_apart_lots : Ev → SR := (sSeq (sIf (qNot (qTru (eCall [.v, .v, .v] F_is_number_within (lCons (eVar 1) (lCons (eC (.int 0)) (lCons (eC (.int 5)) lNil)))))) (sRaise "InvalidNumber" (eC (.str "size"))) sNext)
    (sRet (eCall [.v, .v, .v] F_lots_without (lCons (eMeth "Book" "outcomes" [.v] F_Book_outcomes (eVar 0) lNil) (lCons (eCall [.v] F_rivals (lCons (eVar 0) lNil)) (lCons (eVar 1) lNil))))))
abbrev N_apart_lots : List Str := ["book", "size"]
noncomputable def F_apart_lots : List D → FR := runF 2 [.v, .v] false g_apart_lots

noncomputable def g__law_pick : Ev → SR := (sRet (eOp dIx (eVar 1) (eCall [.h, .v] F__law_draw (lCons (eVar 0) (lCons (eCB (un dLen) (lCons (eVar 1) lNil)) lNil)))))
abbrev N__law_pick : List Str := ["heap", "some"]
noncomputable def F__law_pick : List D → FR := runF 2 [.h, .v] false g__law_pick

noncomputable def g__law_names : Ev → SR := (sSeq (sPar 2 3 (.v (eC (.str "abcdefghijklmnopqrstuvwxyz"))) (.n (eLst lNil)))
    (sSeq (sSet 4 (eCall [.h, .v] F__law_pick (lCons (eVar 0) (lCons (eVis (eLst (lCons (eC (.str "")) (lCons (eC (.str "")) (lCons (eOp dIx (eVar 2) (eCall [.h, .v] F__law_draw (lCons (eVar 0) (lCons (eC (.int 26)) lNil)))) (lCons (eOp dMul (eOp dIx (eVar 2) (eCall [.h, .v] F__law_draw (lCons (eVar 0) (lCons (eC (.int 26)) lNil)))) (eC (.int 2))) lNil)))))) lNil))))
    (sSeq (sFor (iR1 (lCons (eVar 1) lNil)) (gN 5) (sSeq (sSet 6 (eOp dAdd (eVar 4) (eJoin (eC (.str "")) (eVis (eLc (iR1 (lCons (eOp dAdd (eC (.int 1)) (eCall [.h, .v] F__law_draw (lCons (eVar 0) (lCons (eC (.int 3)) lNil)))) lNil)) (gN 7) qYes (eOp dIx (eVar 2) (eCall [.h, .v] F__law_draw (lCons (eVar 0) (lCons (eC (.int 26)) lNil)))) [7])))))
    (sSeq (sFor (iS (eVar 2)) (gN 8) (sSet 6 (eIf (qB (eOp dIn (eVar 6) (eVar 3))) (eOp dAdd (eSl dCutS (eVar 6) qO0 (qO (eC (.int 4)))) (eVar 8)) (eVar 6))))
    (sDrop (eMt 3 mAppend (lCons (eVar 6) lNil))))))
    (sRet (eVar 3)))))
abbrev N__law_names : List Str := ["heap", "many", "letters", "found", "front", "turn", "word", "place", "letter"]
noncomputable def F__law_names : List D → FR := runF 9 [.h, .v] false g__law_names

noncomputable def g__law_apart : Ev → SR := (sSeq (sFor (iL (eVar 0)) (gN 3) (sIf (qAnd (qB (eOp dIn (eVar 2) (eVar 3))) (qTru (eCB (un dAny) (lCons (eVis (eLc (iL (eVar 1)) (gN 4) qYes (eOp dIn (eVar 4) (eVar 3)) [4])) lNil)))) (sRet (eC (.bl false))) sNext))
    (sRet (eOp dNotIn (eVar 2) (eVar 1))))
abbrev N__law_apart : List Str := ["rooms", "taken", "one", "room", "other"]
noncomputable def F__law_apart : List D → FR := runF 5 [.v, .v, .v] false g__law_apart

noncomputable def g__law_rooms : Ev → SR := (sSeq (sPar 4 5 (.n (eLst lNil)) (.v (eVis (eLst lNil))))
    (sSeq (sFor (iR1 (lCons (eVar 2) lNil)) (gN 6) (sSeq (sPar 7 8 (.v (eOp dAdd (eC (.int 3)) (eCall [.h, .v] F__law_draw (lCons (eVar 0) (lCons (eOp dSub (eVar 3) (eC (.int 2))) lNil))))) (.n (eLst lNil)))
    (sSeq (sFor (iR1 (lCons (eVar 7) lNil)) (gN 9) (sSeq (sSet 10 (eVis (eLc (iL (eVar 5)) (gN 11) (qTru (eCall [.v, .v, .v] F__law_apart (lCons (eVar 4) (lCons (eVar 8) (lCons (eVar 11) lNil))))) (eVar 11) [11])))
    (sSeq (sSet 12 (eVis (eLc (iL (eVar 1)) (gN 11) (qAnd (qB (eOp dNotIn (eVar 11) (eVar 5))) (qB (eOp dNotIn (eVar 11) (eVar 8)))) (eVar 11) [11])))
    (sIf (qAnd (qB (eOp dNe (eVar 10) (eVis (eLst lNil)))) (qOr (qB (eOp dEq (eVar 12) (eVis (eLst lNil)))) (qB (eOp dEq (eCall [.h, .v] F__law_draw (lCons (eVar 0) (lCons (eC (.int 3)) lNil))) (eC (.int 0)))))) (sDrop (eMt 8 mAppend (lCons (eCall [.h, .v] F__law_pick (lCons (eVar 0) (lCons (eVar 10) lNil))) lNil))) (sIf (qB (eOp dNe (eVar 12) (eVis (eLst lNil)))) (sDrop (eMt 8 mAppend (lCons (eCall [.h, .v] F__law_pick (lCons (eVar 0) (lCons (eVar 12) lNil))) lNil))) sNext)))))
    (sIf (qB (eOp dGt (eCB (un dLen) (lCons (eVar 8) lNil)) (eC (.int 2)))) (sSeq (sDrop (eMt 4 mAppend (lCons (eCB (un dTuple) (lCons (eVis (eCBN (un dSorted) (lCons (eVar 8) lNil))) lNil)) lNil)))
    (sSet 5 (eVis (eOpN dCat (eVar 5) (eVis (eLc (iL (eVar 8)) (gN 11) (qB (eOp dNotIn (eVar 11) (eVar 5))) (eVar 11) [11])))))) sNext))))
    (sRet (eVar 4))))
abbrev N__law_rooms : List Str := ["heap", "names", "many", "most", "rooms", "used", "turn", "size", "room", "place", "old", "one", "new"]
noncomputable def F__law_rooms : List D → FR := runF 13 [.h, .v, .v, .v] false g__law_rooms

noncomputable def g__law_known : Ev → SR := (sSeq (sSet 1 (eVis (eLst lNil)))
    (sSeq (sFor (iL (eVar 0)) (gN 2) (sSet 1 (eVis (eOpN dCat (eVar 1) (eVis (eLc (iT (eVar 2)) (gN 3) (qB (eOp dNotIn (eVar 3) (eVar 1))) (eVar 3) [3]))))))
    (sRet (eVis (eCBN (un dSorted) (lCons (eVar 1) lNil))))))
abbrev N__law_known : List Str := ["rooms", "found", "room", "one"]
noncomputable def F__law_known : List D → FR := runF 4 [.v] false g__law_known

noncomputable def g__law_told : Ev → SR := (sTry (sRet (eVis (eLst (lCons (eC (.str "told")) (lCons (eCall [.v, .v] F_apart_lots (lPerm [0, 1] (lCons (eVar 0) (lCons (eVar 1) lNil)))) lNil))))) [⟨sel_InvalidNumber, some 2, fun c x => (sRet (eVis (eLst (lCons (eC (.str "number")) (lCons (eXf fdOf "word" c x) lNil)))))⟩, ⟨sel_Refused, some 2, fun c x => (sRet (eVis (eLst (lCons (eC (.str "refused")) (lCons (eXf fdOf "word" c x) lNil)))))⟩, ⟨sel_RoomError, none, fun c x => (sRet (eVis (eLst (lCons (eC (.str "other")) lNil))))⟩])
abbrev N__law_told : List Str := ["book", "size", "e"]
noncomputable def F__law_told : List D → FR := runF 3 [.v, .v] false g__law_told

noncomputable def g__law_lots : Ev → SR := (sSeq (sSet 2 (eCall [.v] F__law_known (lCons (eVar 0) lNil)))
    (sSeq (sPar 3 4 (.n (fun e => .ok (.dic false []) e)) (.n (eLst (lCons (eVis (eLst (lCons (eTup lNil) lNil))) lNil))))
    (sSeq (sFor (iL (eVar 2)) (gN 5) (sPutD 3 (eVar 5) (eVis (eLc (iL (eVar 2)) (gN 6) (qAnd (qB (eOp dGt (eVar 6) (eVar 5))) (qTru (eCall [.v, .v, .v] F__law_apart (lCons (eVar 0) (lCons (eVis (eLst (lCons (eVar 5) lNil))) (lCons (eVar 6) lNil)))))) (eVar 6) [6]))))
    (sSeq (sFor (iR2 (lCons (eC (.int 1)) (lCons (eC (.int 6)) lNil))) (gN 7) (sSeq (sSet 8 (eVis (eLst lNil)))
    (sSeq (sIf (qB (eOp dGt (eCB (un dLen) (lCons (eOp dIx (eVar 4) (eUn dNeg (eC (.int 1)))) lNil)) (eVar 1))) sBreak sNext)
    (sSeq (sFor (iL (eOp dIx (eVar 4) (eUn dNeg (eC (.int 1))))) (gN 9) (sIf (qB (eOp dEq (eVar 9) (eTup lNil))) (sSet 8 (eVis (eLc (iL (eVar 2)) (gN 5) qYes (eTup (lCons (eVar 5) lNil)) [5]))) (sSeq (sSet 10 (eVis (eLc (iL (eDGet (eVar 3) (eOp dIx (eVar 9) (eUn dNeg (eC (.int 1)))))) (gN 5) (qTru (eCB (un dAll) (lCons (eVis (eLc (iT (eVar 9)) (gN 6) qYes (eOp dIn (eVar 5) (eDGet (eVar 3) (eVar 6))) [6])) lNil))) (eVar 5) [5])))
    (sSet 8 (eVis (eOpN dCat (eVar 8) (eVis (eLc (iL (eVar 10)) (gN 5) qYes (eOp dAdd (eVar 9) (eTup (lCons (eVar 5) lNil))) [5]))))))))
    (sDrop (eMt 4 mAppend (lCons (eVar 8) lNil)))))))
    (sRet (eVar 4))))))
abbrev N__law_lots : List Str := ["rooms", "many", "known", "near", "found", "one", "other", "size", "longer", "lot", "fit"]
noncomputable def F__law_lots : List D → FR := runF 11 [.v, .v] false g__law_lots

noncomputable def g__law_bounds : Ev → SR := (sSeq (sPar 2 3 (.v (eVis (eLc (iR1 (lCons (eVar 1) lNil)) (gN 4) qYes (eCB (un dTuple) (lCons (eVis (eCBN (un dSorted) (lCons (eVis (eSlN dCutL (eVar 0) (qO (eOp dMul (eC (.int 3)) (eVar 4))) (qO (eOp dAdd (eOp dMul (eC (.int 3)) (eVar 4)) (eC (.int 3)))))) lNil))) lNil)) [4]))) (.n (eLst lNil)))
    (sSeq (sSet 5 (eVis (eMake "Book" [.v] F_Book___init__ (lCons (eCB (un dTuple) (lCons (eVar 2) lNil)) lNil))))
    (sSeq (sFor (iR2 (lCons (eIf (qB (eOp dEq (eVar 1) (eC (.int 7)))) (eC (.int 4)) (eC (.int 3))) (lCons (eC (.int 6)) lNil))) (gN 6) (sIf (qB (eOp dNe (eCall [.v, .v] F__law_told (lCons (eVar 5) (lCons (eVar 6) lNil))) (eVis (eLst (lCons (eC (.str "refused")) (lCons (eC (.str "wide")) lNil)))))) (sRet (eC (.bl false))) sNext))
    (sSeq (sFor (iR1 (lCons (eIf (qB (eOp dEq (eVar 1) (eC (.int 7)))) (eVar 1) (eC (.int 0))) lNil)) (gN 7) (sFor (iR2 (lCons (eOp dAdd (eVar 7) (eC (.int 1))) (lCons (eVar 1) lNil))) (gN 8) (sFor (iR2 (lCons (eOp dAdd (eVar 8) (eC (.int 1))) (lCons (eVar 1) lNil))) (gN 9) (sFor (iT (eOp dIx (eVar 2) (eVar 7))) (gN 10) (sFor (iT (eOp dIx (eVar 2) (eVar 8))) (gN 11) (sDrop (eMt 3 mExtend (lCons (eVis (eLc (iT (eOp dIx (eVar 2) (eVar 9))) (gN 12) qYes (eCB (un dTuple) (lCons (eVis (eCBN (un dSorted) (lCons (eVis (eLst (lCons (eVar 10) (lCons (eVar 11) (lCons (eVar 12) lNil))))) lNil))) lNil)) [12])) lNil))))))))
    (sRet (eOr (eOp dEq (eVar 1) (eC (.int 8))) (eAnd (eOp dEq (eCB (un dLen) (lCons (eVar 3) lNil)) (eC (.int 945))) (eOp dEq (eCall [.v, .v] F__law_told (lCons (eVar 5) (lCons (eC (.int 3)) lNil))) (eVis (eLst (lCons (eC (.str "told")) (lCons (eCB (un dTuple) (lCons (eVis (eCBN (un dSorted) (lCons (eVar 3) lNil))) lNil)) lNil))))))))))))
abbrev N__law_bounds : List Str := ["names", "many", "rooms", "due", "at", "book", "size", "first", "second", "third", "one", "other", "last"]
noncomputable def F__law_bounds : List D → FR := runF 13 [.v, .v] false g__law_bounds

noncomputable def g__law_later : Ev → SR := (sSeq (sSet 1 (eVis (eLst (lCons (eC (.int 0)) (lCons (eC (.int 4)) (lCons (eC (.int 8)) (lCons (eC (.int 12)) (lCons (eC (.int 16)) (lCons (eC (.int 19)) lNil)))))))))
    (sSeq (sSet 2 (eVis (eLc (iR1 (lCons (eC (.int 5)) lNil)) (gN 3) qYes (eCB (un dTuple) (lCons (eVis (eCBN (un dSorted) (lCons (eVis (eSlN dCutL (eVar 0) (qO (eOp dIx (eVar 1) (eVar 3))) (qO (eOp dIx (eVar 1) (eOp dAdd (eVar 3) (eC (.int 1))))))) lNil))) lNil)) [3])))
    (sRet (eOp dEq (eCall [.v, .v] F__law_told (lCons (eVis (eMake "Book" [.v] F_Book___init__ (lCons (eCB (un dTuple) (lCons (eVar 2) lNil)) lNil))) (lCons (eC (.int 5)) lNil))) (eVis (eLst (lCons (eC (.str "refused")) (lCons (eC (.str "wide")) lNil))))))))
abbrev N__law_later : List Str := ["names", "cuts", "rooms", "at"]
noncomputable def F__law_later : List D → FR := runF 4 [.v] false g__law_later

noncomputable def g__law_edge : Ev → SR := (sSeq (sFor (iL (eVis (eLst (lCons (eTup (lCons (eC (.str "abcde fghi jklm bnopq rstu evw")) (lCons (eC (.int 1000)) lNil))) (lCons (eTup (lCons (eC (.str "abcd aefg hijkl kmnop qrs tuvw")) (lCons (eC (.int 1001)) lNil))) lNil))))) (gT (gsCons (gN 1) (gsCons (gN 2) gsNil))) (sSeq (sSet 3 (eVis (eLc (iL (eVis (eSplit (eVar 1) (eC (.str " "))))) (gN 5) qYes (eCB (un dTuple) (lCons (eVis (eCBN (un dSorted) (lCons (eVis (eLc (iS (eVar 5)) (gN 4) qYes (eOp dIx (eVar 0) (eOp dSub (eCB (un dOrd) (lCons (eVar 4) lNil)) (eC (.int 97)))) [4])) lNil))) lNil)) [5])))
    (sSeq (sPar 6 7 (.v (eCB (un dTuple) (lCons (eOp dIx (eCall [.v, .v] F__law_lots (lCons (eVar 3) (lCons (eC (.int 300)) lNil))) (eC (.int 3))) lNil))) (.v (eCall [.v, .v] F__law_told (lCons (eVis (eMake "Book" [.v] F_Book___init__ (lCons (eCB (un dTuple) (lCons (eVar 3) lNil)) lNil))) (lCons (eC (.int 3)) lNil)))))
    (sIf (qOr (qB (eOp dNe (eCB (un dLen) (lCons (eVar 6) lNil)) (eVar 2))) (qB (eOp dNe (eVar 7) (eIf (qB (eOp dEq (eVar 2) (eC (.int 1000)))) (eVis (eLst (lCons (eC (.str "told")) (lCons (eVar 6) lNil)))) (eVis (eLst (lCons (eC (.str "refused")) (lCons (eC (.str "wide")) lNil)))))))) (sRet (eC (.bl false))) sNext))))
    (sRet (eC (.bl true))))
abbrev N__law_edge : List Str := ["names", "words", "many", "rooms", "letter", "word", "due", "told"]
noncomputable def F__law_edge : List D → FR := runF 8 [.v] false g__law_edge

noncomputable def g_law : Ev → SR := (sSeq (sHeap 1 hpF (lCons (eVar 0) lNil))
    (sSeq (sSet 2 (eCall [.h, .v] F__law_names (lCons (eVar 1) (lCons (eC (.int 24)) lNil))))
    (sSeq (sSet 3 (eCall [.h, .v, .v, .v] F__law_rooms (lCons (eVar 1) (lCons (eVar 2) (lCons (eOp dAdd (eC (.int 1)) (eCall [.h, .v] F__law_draw (lCons (eVar 1) (lCons (eC (.int 9)) lNil)))) (lCons (eOp dAdd (eC (.int 3)) (eCall [.h, .v] F__law_draw (lCons (eVar 1) (lCons (eC (.int 3)) lNil)))) lNil))))))
    (sSeq (sSet 4 (eCall [.h, .v] F__law_draw (lCons (eVar 1) (lCons (eC (.int 8)) lNil))))
    (sSeq (sIf (qAnd (qB (eOp dLt (eVar 4) (eC (.int 2)))) (qNot (qTru (eCall [.v, .v] F__law_bounds (lCons (eVar 2) (lCons (eOp dAdd (eC (.int 7)) (eVar 4)) lNil)))))) (sRet (eC (.bl false))) sNext)
    (sSeq (sIf (qAnd (qB (eOp dEq (eVar 4) (eC (.int 2)))) (qNot (qTru (eCall [.v] F__law_later (lCons (eVar 2) lNil))))) (sRet (eC (.bl false))) sNext)
    (sSeq (sIf (qAnd (qB (eOp dEq (eVar 4) (eC (.int 3)))) (qNot (qTru (eCall [.v] F__law_edge (lCons (eVar 2) lNil))))) (sRet (eC (.bl false))) sNext)
    (sSeq (sPar 5 6 (.v (eVis (eMake "Book" [.v] F_Book___init__ (lCons (eCB (un dTuple) (lCons (eVar 3) lNil)) lNil)))) (.v (eCall [.v, .v] F__law_lots (lCons (eVar 3) (lCons (eC (.int 60)) lNil)))))
    (sSeq (sFor (iR1 (lCons (eCB (un dLen) (lCons (eVar 6) lNil)) lNil)) (gN 7) (sIf (qB (eOp dNe (eCall [.v, .v] F__law_told (lCons (eVar 5) (lCons (eVar 7) lNil))) (eVis (eLst (lCons (eC (.str "told")) (lCons (eCB (un dTuple) (lCons (eOp dIx (eVar 6) (eVar 7)) lNil)) lNil)))))) (sRet (eC (.bl false))) sNext))
    (sSeq (sFor (iL (eVis (eLst (lCons (eUn dNeg (eC (.int 1))) (lCons (eC (.int 6)) (lCons (eC (.int 60)) (lCons (eC .non) (lCons (eC (.str "2")) (lCons (eC (.bl true)) (lCons (eTup (lCons (eC (.int 2)) lNil)) (lCons (eVis (eLst lNil)) lNil))))))))))) (gN 8) (sIf (qB (eOp dNe (eCall [.v, .v] F__law_told (lCons (eVar 5) (lCons (eVar 8) lNil))) (eVis (eLst (lCons (eC (.str "number")) (lCons (eC (.str "size")) lNil)))))) (sRet (eC (.bl false))) sNext))
    (sRet (eOp dEq (eCall [.v, .v] F__law_told (lCons (eVar 5) (lCons (eC (.int 2)) lNil))) (eVis (eLst (lCons (eC (.str "told")) (lCons (eCB (un dTuple) (lCons (eOp dIx (eVar 6) (eC (.int 2))) lNil)) lNil))))))))))))))))
abbrev N_law : List Str := ["script", "heap", "names", "rooms", "kind", "book", "lots", "size", "odd"]
noncomputable def F_law : List D → FR := runF 9 [.v] false g_law

end Q06


set_option Elab.async false
set_option linter.all false
set_option maxRecDepth 100000
set_option maxHeartbeats 4000000
/-! that their rows mean it -/
namespace Q06
open PySem PySem.Spec PyProof.Rows L2 RK PD
def topL (i : Nat) : Stmt := PySem.Challenge.pw_roomlooks_k06_lots_of_outcomes_apart.main.body.getD i (.Pass ⟨0, 0, 0, 0⟩)
def metL (i j : Nat) : Stmt := inClass (topL i) j
section
variable {P : Program} {w : World} {k : Kn} {mg : Str → Option Value} {base : Heap} {AD : String → Addr}
abbrev s__law_heap : Stmt := topL 29
abbrev N__law_heap : List Str := ["script", "cells", "stir", "cell"]
theorem sc__law_heap : FnScope N__law_heap ["script"] (defScope s__law_heap) := ⟨rfl, rfl, rfl, by decide +kernel, rfl, by decide +kernel, by decide +kernel⟩
theorem ok__law_heap {f : Addr} {fd : FuncData} (F : Fun k.K "_law_heap" "_law_heap" s__law_heap f fd) (T : Tf k mg AD) : FnOk P w k.K mg base (L2.CX P w) 1 f fd ["script"] (spHeapD k hpF) := by
  refine F.okX sc__law_heap (fun vs H Q E h => ?_) (fun cdv A outer s H vs Q E hr h => ?_)
  · obtain ⟨a, ns, rfl, _⟩ := h
    rfl
  · obtain ⟨a, ns, rfl, hS, hl, kk⟩ := h
    refine ⟨_, (pss_cons (ps_par (i := 1) (j := 2) (by rfl) sc__law_heap.nd rfl rfl (by decide) rfl rfl (pa_cons (pe_lc (own := [("cell", 3)]) (g := gName 3) (tt := tYes) rfl sc__law_heap.nd (pi_list (pe_slice sl_list (pv 0) po_none (po_some pe_int))) (blkOk_by (N := N__law_heap) (sc := defScope s__law_heap) (by decide +kernel)) (fun _ _ _ _ _ => pg_name (i := 3) sc__law_heap.nd rfl (Or.inl rfl)) (fun _ _ _ _ _ => pts_nil) (fun _ _ _ _ _ => (pe_callB call_abs (by rfl) T.m_abs (by decide +kernel) (pa_cons (pv 3) pa_nil)))) (pa_cons pe_int pa_nil)) (by rfl))
  (pss_cons (ps_for (passes_of rfl) rfl (pi_list (pv 1)) (pg_name (i := 3) sc__law_heap.nd rfl (Or.inl rfl))
  (pss_one (ps_set (i := 2) sc__law_heap.nd rfl (Or.inl rfl) (pe_op op_mod (pe_callTy call_int1 (by rfl) T.m_int boot_int (pa_cons (pe_op op_add (pe_op op_add (pe_op op_mul (pv 2) pe_int) (pe_op op_mod (pe_callTy call_int1 (by rfl) T.m_int boot_int (pa_cons (pv 3) pa_nil)) pe_int)) pe_int) pa_nil)) pe_int))))
  (pss_one (ps_ret (pe_lst (pa_cons (pe_revL (pe_lc (own := [("cell", 3)]) (g := gName 3) rfl sc__law_heap.nd (pi_list (pv 1)) (blkOk_by (N := N__law_heap) (sc := defScope s__law_heap) (by decide +kernel)) (fun _ _ _ _ _ => pg_name (i := 3) sc__law_heap.nd rfl (Or.inl rfl)) (fun _ _ _ _ _ => (pts_one (pt_cmpR op_ge (pv 3) (pe_op op_pow pe_int pe_int) (nomark _)))) (fun _ _ _ _ _ => (pv 3)))) (pa_cons (pv 2) pa_nil))))))), ?_⟩
    refine ⟨_, rfl, (60 : Int), rfl, a, _, rfl, hS, fun p1 hp1 => ?_⟩
    have S1 : L2.Same H (upd H p1 (.lst (cutV (ns.map V.int) none (some 60)))) := RK.Same.upd hp1
    have ec : cutV (ns.map V.int) none (some 60) = (ns.take 60).map V.int := cut_ints (k := 60)
    rw [ec] at S1 ⊢
    have hml : (ns.take 60).length ≤ 60 := by rw [List.length_take]; omega
    unfold hpF at kk
    dsimp only at kk
    generalize ns.take 60 = ms at S1 hml kk ⊢
    refine ⟨p1, rfl, ⟨_, SqL.of upd_same⟩, fun C hC => ?_⟩
    have S2 : L2.Same H (upd (upd H p1 (.lst (ms.map V.int))) C (.lst [])) := RK.Same.updAt S1 (S1.free hC)
    have hCp : p1 ≠ C := fun z => by rw [← z, upd_same] at hC; cases hC
    refine lc_list (K := k.K) (a := p1) (xs := ms.map V.int) (fun i H' => L2.Same H H' ∧ H' p1 = some (.lst (ms.map V.int)) ∧ H' C = some (.lst (((ms.take i).map fun z : Int => if z < 0 then -z else z).map V.int)))
      ⟨S2, by rw [upd_ne hCp, upd_same], upd_same⟩ (fun i H' _ q => SqL.of q.2.1) ?_ ?_
    · rintro i v H' hi ⟨S, e1, e2⟩
      obtain ⟨z, hz, rfl⟩ : ∃ z, ms[i]? = some z ∧ v = V.int z := by
        rw [List.getElem?_map] at hi
        cases e : ms[i]? with
        | none => rw [e] at hi; cases hi
        | some z => rw [e] at hi; exact ⟨z, rfl, (Option.some.inj hi).symm⟩
      refine ⟨rfl, ?_⟩
      unfold tYes
      refine iteT ⟨_, rfl, _, rfl, _, e2, ?_, RK.Same.updAt S (S1.free hC), by rw [upd_ne hCp]; exact e1, ?_⟩
      · rw [List.length_map, List.length_map, List.length_take]
        exact Nat.lt_of_le_of_lt (Nat.min_le_right _ _) (Nat.lt_of_le_of_lt hml (by decide))
      · rw [upd_same, List.take_add_one, hz, List.map_append, List.map_append]
        rfl
    · rintro Hc ⟨Sc, -, eC⟩
      rw [List.length_map, List.take_length] at eC
      have hal : (ms.map fun z : Int => if z < 0 then -z else z).length ≤ 60 := by rw [List.length_map]; exact hml
      generalize (ms.map fun z : Int => if z < 0 then -z else z) = as at eC hal kk
      refine ⟨_, _, rfl, ?_⟩
      refine ⟨_, rfl, C, rfl, ⟨_, SqL.of eC⟩, for_list (K := k.K) (a := C) (xs := as.map V.int)
        (fun i σ H' => H' = Hc ∧ ∃ (v3 : Option V), σ = [some (.ref a), some (.ref C), some (.int ((as.take i).foldl hpS hp0)), v3])
        ⟨rfl, _, rfl⟩ (fun i σ H' _ q => by rw [q.1]; exact SqL.of eC) ?_ ?_⟩
      · rintro i v σ H' hi ⟨rfl, v3, rfl⟩
        obtain ⟨z, hz, rfl⟩ : ∃ z, as[i]? = some z ∧ v = V.int z := by
          rw [List.getElem?_map] at hi
          cases e : as[i]? with
          | none => rw [e] at hi; cases hi
          | some z => rw [e] at hi; exact ⟨z, rfl, (Option.some.inj hi).symm⟩
        refine ⟨_, rfl, _, _, rfl, rfl, .inr ⟨by decide, by decide⟩, _, rfl, .inl ⟨_, rfl, _, _, rfl, rfl, (show (0 : Int) < 2147483543 by decide), _, _, rfl, rfl, _, _, rfl, rfl, .inl ⟨_, rfl, _, _, rfl, rfl, (show (0 : Int) < 2147483647 by decide), ?_⟩⟩⟩
        have ek : (as.take (i + 1)).foldl hpS hp0 = hpS ((as.take i).foldl hpS hp0) z := by
          rw [List.take_add_one, hz, List.foldl_append]
          rfl
        rw [ek]
        exact ⟨rfl, _, rfl⟩
      · rintro σ H' ⟨rfl, v3, rfl⟩
        rw [List.length_map, List.take_length]
        refine ⟨_, rfl, C, rfl, ⟨_, SqL.of eC⟩, fun D hD => ?_⟩
        refine lc_list (K := k.K) (a := C) (xs := as.map V.int) (fun i H2 => L2.Same H' H2 ∧ H2 D = some (.lst (((as.take i).filter fun c => decide (c ≥ 10 ^ 18)).map V.int)))
          ⟨RK.Same.upd hD, upd_same⟩ (fun i H2 _ q => SqL.of (q.1 _ _ eC)) ?_ ?_
        · rintro i v H2 hi ⟨S, e2⟩
          obtain ⟨z, hz, rfl⟩ : ∃ z, as[i]? = some z ∧ v = V.int z := by
            rw [List.getElem?_map] at hi
            cases e : as[i]? with
            | none => rw [e] at hi; cases hi
            | some z => rw [e] at hi; exact ⟨z, rfl, (Option.some.inj hi).symm⟩
          have hia : i < as.length := (List.getElem?_eq_some_iff.mp hz).1
          have hk : as.take (i + 1) = as.take i ++ [z] := by rw [List.take_add_one, hz]; rfl
          rw [hk, List.filter_append]
          refine ⟨rfl, _, rfl, _, _, rfl, rfl, ⟨by decide, by decide, by decide⟩, _, _, rfl, rfl, _, rfl, ?_⟩
          refine ite2 (fun hb => ?_) (fun hb => ?_)
          · have hz' : decide (z ≥ 10 ^ 18) = true := hb
            refine ⟨_, rfl, _, e2, ?_, RK.Same.updAt S hD, ?_⟩
            · rw [List.length_map]
              have h1 := List.length_filter_le (fun c : Int => decide (c ≥ 10 ^ 18)) (as.take i)
              rw [List.length_take] at h1
              exact Nat.lt_of_lt_of_le (by omega : _ < 100) (by decide)
            · rw [upd_same, List.map_append, List.filter_cons, if_pos hz']
              rfl
          · have hz' : ¬ decide (z ≥ 10 ^ 18) = true := hb
            refine ⟨S, ?_⟩
            rw [List.filter_cons, if_neg hz', List.filter_nil, List.append_nil]
            exact e2
        · rintro H2 ⟨S, e2⟩
          rw [List.length_map, List.take_length] at e2
          have hzl : (as.filter fun c => decide (c ≥ 10 ^ 18)).length ≤ 60 := Nat.le_trans (List.length_filter_le _ _) hal
          generalize (as.filter fun c => decide (c ≥ 10 ^ 18)) = zs at e2 hzl kk
          refine ⟨D, _, rfl, SqL.of e2, fun p hp => ⟨_, rfl, (by show 2 ≤ sizeLine; decide), fun h hh => ?_⟩⟩
          have S3 : L2.Same H (upd H2 p (.lst (zs.map V.int).reverse)) := RK.Same.updAt (Sc.trans S) ((Sc.trans S).free hp)
          have hph : h ≠ p := fun z => by rw [z, upd_same] at hh; cases hh
          refine kk h p _ (RK.Same.updAt S3 (S3.free hh)) (S3.free hh) ((Sc.trans S).free hp) hph upd_same ?_
          rw [upd_ne hph.symm, upd_same, List.map_reverse]
abbrev s__law_draw : Stmt := topL 30
abbrev N__law_draw : List Str := ["heap", "many", "rest"]
theorem sc__law_draw : FnScope N__law_draw ["heap", "many"] (defScope s__law_draw) := ⟨rfl, rfl, rfl, by decide +kernel, rfl, by decide +kernel, by decide +kernel⟩
theorem ok__law_draw {f : Addr} {fd : FuncData} (F : Fun k.K "_law_draw" "_law_draw" s__law_draw f fd) (T : Tf k mg AD) : FnOk P w k.K mg base (L2.CX P w) 1 f fd ["heap", "many"] (spD k [.h, .v] false F__law_draw) := by
  refine F.okX sc__law_draw (fun vs H Q E h => by rw [h.1]; rfl) (fun cdv A outer sh H vs Q E hr hsp => ?_)
  obtain ⟨h, l, zs0, s, m, rfl, ne, e10, e20, s0, s1, zl0, m0, m1, kk⟩ := draw_in hsp
  clear hsp
  refine ⟨_, (pss_cons (ps_while (passes_of rfl) (PW.pt (pw_and (pt_cmpR (r := rNeD k.K) (op_neD hr.units) (pe_ix (r := rIxL k.K) ix_list (pv 0) pe_int (fun _ _ => rfl)) (pe_lst pa_nil) (nomark _)) (pw_and1 (pt_cmpR op_eq (pe_ix (r := rIxL k.K) ix_list (pe_ix (r := rIxL k.K) ix_list (pv 0) pe_int (fun _ _ => rfl)) (pe_un un_neg pe_int) (fun _ _ => rfl)) pe_int (nomark _))))) (pss_one (ps_expr (pe_bm0 PySem.F.plainAttrs_list PySem.F.slot_list_pop PySem.F.type_list_pop mt_pop (pe_ix (r := rIxL k.K) ix_list (pv 0) pe_int (fun _ _ => rfl))))))
        (pss_cons (ps_if (pt_cmpR (r := rNeD k.K) (op_neD hr.units) (pe_ix (r := rIxL k.K) ix_list (pv 0) pe_int (fun _ _ => rfl)) (pe_lst pa_nil) (nomark _)) (pss_cons (ps_set (i := 2) sc__law_draw.nd rfl (Or.inl rfl) (pe_bm0 PySem.F.plainAttrs_list PySem.F.slot_list_pop PySem.F.type_list_pop mt_pop (pe_ix (r := rIxL k.K) ix_list (pv 0) pe_int (fun _ _ => rfl))))
        (pss_cons (ps_expr (pe_bm PySem.F.plainAttrs_list PySem.F.slot_list_append PySem.F.type_list_append mt_append (pe_ix (r := rIxL k.K) ix_list (pv 0) pe_int (fun _ _ => rfl)) (pa_cons (pe_op op_fdivA (pv 2) (pv 1)) pa_nil)))
        (pss_one (ps_ret (pe_op op_modN (pe_callTy call_int1 (by rfl) T.m_int boot_int (pa_cons (pv 2) pa_nil)) (pv 1)))))) pss_nil)
        (pss_cons (ps_asg (pe_op op_mod (pe_callTy call_int1 (by rfl) T.m_int boot_int (pa_cons (pe_op op_add (pe_op op_mul (pe_ix (r := rIxL k.K) ix_list (pv 0) pe_int (fun _ _ => rfl)) pe_int) pe_int) pa_nil)) pe_int) (pg_sub (pv 0) pe_int set_list))
        (pss_one (ps_ret (pe_op op_modN (pe_callTy call_int1 (by rfl) T.m_int boot_int (pa_cons (pe_op op_fdiv (pe_ix (r := rIxL k.K) ix_list (pv 0) pe_int (fun _ _ => rfl)) pe_int) pa_nil)) (pv 1))))))), ?_⟩
  have dv : ∀ i : Int, DivAny i m := fun i => divAny (b := 31) (by omega) (by omega) (by decide) (by decide)
  refine seq_while (fun H' => ∃ zs : List Int, H' h = some (.lst [.ref l, .int s]) ∧ H' l = some (.lst (zs.map V.int)) ∧ stripR zs = stripR zs0 ∧ zs.length ≤ 100 ∧ Kh h l H H') (muZ l) (fun H' => ∃ zs : List Int, H' h = some (.lst [.ref l, .int s]) ∧ H' l = some (.lst (zs.map V.int)) ∧ stripR zs0 = zs.reverse ∧ zs.length ≤ 100 ∧ Kh h l H H')
    (moT_and (moT_test (moE_op moR_neD (moE_op moR_ixL moE_var moE_c) moE_lst0)) (moT_test (moE_op moR_eq (moE_op moR_ixL (moE_op moR_ixL moE_var moE_c) (moE_un moE_c)) moE_c)))
    ⟨zs0, e10, e20, rfl, zl0, Kh.refl h l H⟩ ?_ ?_
  · rintro H1 ⟨zs, e1, e2, es, zl, kh⟩
    refine ixl rfl e1 rfl ⟨(by show 0 ≤ sizeLine; decide), fun q hq => ?_⟩
    have SQ : L2.Same H1 (upd H1 q (.lst [])) := RK.Same.upd hq
    have e1' := SQ _ _ e1
    have e2' := SQ _ _ e2
    have kh' := kh.trans (Kh.of (h := h) (l := l) SQ)
    refine ne_nil_ints (SQ _ _ e2) upd_same ⟨_, rfl, ?_⟩
    generalize upd H1 q (.lst []) = H2 at e1' e2' kh' SQ ⊢
    refine ite2 (fun hz => ?_) (fun hz => ?_)
    · rcases List.eq_nil_or_concat zs with rfl | ⟨ys, z, rfl⟩
      · exact absurd hz (by decide)
      · rw [List.concat_eq_append] at *
        rw [List.map_append] at e2'
        have ed : drawF zs0 s m = (z.fmod m, ys ++ [z.fdiv m], s) := by
          unfold drawF
          rw [es, List.reverse_append]
          show (z.fmod m, ys.reverse.reverse ++ [z.fdiv m], s) = _
          rw [List.reverse_reverse]
        rw [ed] at kk
        refine ixl rfl e1' rfl ⟨.inl ⟨rfl, _, SqL.of e2'⟩, l, _, .int z, rfl, rfl, e2', by simp, ?_⟩
        have e1'' : (upd H2 l (.lst ((ys.map V.int ++ [z].map V.int).dropLast))) h = some (.lst [.ref l, .int s]) := by rw [upd_ne ne]; exact e1'
        have e2'' : (upd H2 l (.lst ((ys.map V.int ++ [z].map V.int).dropLast))) l = some (.lst (ys.map V.int)) := by rw [upd_same]; simp
        have kh'' := kh'.trans (Kh.upd2 (h := h) (l := l) (H := H2) (o := .lst ((ys.map V.int ++ [z].map V.int).dropLast)))
        generalize upd H2 l (.lst ((ys.map V.int ++ [z].map V.int).dropLast)) = H3 at e1'' e2'' kh'' ⊢
        rw [List.length_append, List.length_singleton] at zl
        refine ixl rfl e1'' rfl ⟨.inl ⟨rfl, _, SqL.of e2''⟩, _, rfl, _, rfl, _, _, rfl, rfl, dv _, l, _, _, rfl, rfl, e2'', ?_, ?_⟩
        · rw [List.length_map]
          exact Nat.lt_of_lt_of_le (by omega : ys.length < 101) (by decide)
        · refine ⟨_, rfl, .inl ⟨_, rfl, _, rfl, _, _, rfl, rfl, (by omega : m ≠ 0), ?_⟩⟩
          refine kk _ ?_ ?_ (kh''.trans Kh.upd2)
          · rw [upd_ne ne]
            exact e1''
          · rw [upd_same, List.map_append]
            rfl
    · refine ixl rfl e1' rfl ⟨_, _, rfl, rfl, .inr ⟨by decide, by decide⟩, _, _, rfl, rfl, .inl ⟨_, rfl, _, _, rfl, rfl, (show (0 : Int) < 2147483647 by decide), _, rfl, h, _, _, 1, rfl, rfl, e1', rfl, ?_⟩⟩
      have ez : zs = [] := by
        cases zs with
        | nil => rfl
        | cons z zs => exact absurd (by simp) hz
      subst ez
      have ed : drawF zs0 s m = ((((s * 48271 + 11) % 2147483647) / 64).fmod m, [], (s * 48271 + 11) % 2147483647) := by
        unfold drawF
        rw [es]
        rfl
      rw [ed] at kk
      have e1'' : (upd H2 h (.lst ([V.ref l, .int s].set 1 (.int ((s * 48271 + 11) % 2147483647))))) h = some (.lst [.ref l, .int ((s * 48271 + 11) % 2147483647)]) := by rw [upd_same]; rfl
      have e2'' : (upd H2 h (.lst ([V.ref l, .int s].set 1 (.int ((s * 48271 + 11) % 2147483647))))) l = some (.lst (([] : List Int).map V.int)) := by rw [upd_ne ne.symm]; exact e2'
      refine ixl rfl e1'' rfl ⟨_, _, rfl, rfl, ⟨by decide, by decide⟩, .inl ⟨_, rfl, _, rfl, _, _, rfl, rfl, (by omega : m ≠ 0), ?_⟩⟩
      exact kk _ e1'' e2'' (kh'.trans Kh.upd1)
  · rintro H1 ⟨zs, e1, e2, es, zl, kh⟩
    refine ixl rfl e1 rfl ⟨(by show 0 ≤ sizeLine; decide), fun q hq => ?_⟩
    have SQ : L2.Same H1 (upd H1 q (.lst [])) := RK.Same.upd hq
    refine ne_nil_ints (SQ _ _ e2) upd_same ⟨_, rfl, ?_⟩
    have e1' := SQ _ _ e1
    have e2' := SQ _ _ e2
    have kh' := kh.trans (Kh.of (h := h) (l := l) SQ)
    have mz : muZ l H1 = zs.length := by rw [muZ_eq e2, List.length_map]
    generalize upd H1 q (.lst []) = H2 at e1' e2' kh' SQ ⊢
    refine ite2 (fun hz => ?_) (fun hz => ?_)
    · rcases List.eq_nil_or_concat zs with rfl | ⟨ys, z, rfl⟩
      · exact absurd hz (by decide)
      · rw [List.concat_eq_append] at *
        rw [List.map_append] at e2'
        refine ixl rfl e1' rfl ⟨1, rfl, l, _, _, _, rfl, rfl, SqL.of e2', atI_last, rfl, _, rfl, ?_⟩
        refine ite2 (fun hp => ?_) (fun hp => ?_)
        · have z0 : z = 0 := by simpa using hp
          subst z0
          refine ixl rfl e1' rfl ⟨.inl ⟨rfl, _, SqL.of e2'⟩, l, _, .int 0, rfl, rfl, e2', ?_, ⟨rfl, ys, ?_, ?_, ?_, ?_, kh'.trans Kh.upd2⟩, ?_⟩
          · simp
          · rw [upd_ne ne]
            exact e1'
          · rw [upd_same]
            simp
          · rw [← es, strip_app]
          · rw [List.length_append] at zl
            omega
          · rw [mz, muZ_eq upd_same]
            simp
        · exact ⟨ys ++ [z], e1', by rw [List.map_append]; exact e2', by rw [← es, strip_no (by simpa using hp)], zl, kh'⟩
    · have ez : zs = [] := by
        cases zs with
        | nil => rfl
        | cons z zs => exact absurd (by simp) hz
      subst ez
      exact ⟨[], e1', e2', by rw [← es]; rfl, zl, kh'⟩

abbrev s_is_integer : Stmt := topL 9
theorem sc_is_integer : FnScope N_is_integer ["value"] (defScope s_is_integer) := ⟨rfl, rfl, rfl, by decide +kernel, rfl, by decide +kernel, by decide +kernel⟩
theorem ok_is_integer {f : Addr} {fd : FuncData} (F : Fun k.K "is_integer" "is_integer" s_is_integer f fd) (T : Tf k mg AD)  :
    FnOk P w k.K mg base (L2.CX P w) 1 f fd ["value"] (spD k [.v] false F_is_integer) :=
  fn_okD F sc_is_integer rfl (by decide) fun cdv A outer s H E p hr hp tk => by
    have sc := sc_is_integer
    have hu1 := Nat.lt_of_le_of_lt (Nat.add_le_add_left (by decide : 1 ≤ 64) _) hr.units
    exact (pds_one (pds_ret (pdn_and (pd_isi T.ins T.is_int (.ty _) (pdv 0) (pe_bltn (v := .ty "int") (by rfl) T.m_int (by decide +kernel) rfl) rfl rfl T.m_isinstance) (pdn_one (pdn_not (pd_isi T.ins T.is_bool (.ty _) (pdv 0) (pe_bltn (v := .ty "bool") (by rfl) T.m_bool (by decide +kernel) rfl) rfl rfl T.m_isinstance))))))

abbrev s_is_number_within : Stmt := topL 10
theorem sc_is_number_within : FnScope N_is_number_within ["value", "low", "high"] (defScope s_is_number_within) := ⟨rfl, rfl, rfl, by decide +kernel, rfl, by decide +kernel, by decide +kernel⟩
theorem ok_is_number_within {f : Addr} {fd : FuncData} (F : Fun k.K "is_number_within" "is_number_within" s_is_number_within f fd) (T : Tf k mg AD) (c_is_integer : Cl P w k.K mg base (L2.CX P w) 1 "is_integer" ["value"] (spD k [.v] false F_is_integer)) :
    FnOk P w k.K mg base (L2.CX P w) 2 f fd ["value", "low", "high"] (spD k [.v, .v, .v] false F_is_number_within) :=
  fn_okD F sc_is_number_within rfl (by decide) fun cdv A outer s H E p hr hp tk => by
    have sc := sc_is_number_within
    have hu1 := Nat.lt_of_le_of_lt (Nat.add_le_add_left (by decide : 1 ≤ 64) _) hr.units
    exact (pds_one (pds_ret (pdn_and (pd_call c_is_integer hr tk (pdl_cons (pdv 0) pdl_nil)) (pdn_one (pdc_le_le hr.units (pdv 1) (pdv 0) (pdv 2))))))

abbrev s_is_name : Stmt := topL 11
theorem sc_is_name : FnScope N_is_name ["value"] (defScope s_is_name) := ⟨rfl, rfl, rfl, by decide +kernel, rfl, by decide +kernel, by decide +kernel⟩
theorem ok_is_name {f : Addr} {fd : FuncData} (F : Fun k.K "is_name" "is_name" s_is_name f fd) (T : Tf k mg AD)  :
    FnOk P w k.K mg base (L2.CX P w) 1 f fd ["value"] (spD k [.v] false F_is_name) :=
  fn_okD F sc_is_name rfl (by decide) fun cdv A outer s H E p hr hp tk => by
    have sc := sc_is_name
    have hu1 := Nat.lt_of_le_of_lt (Nat.add_le_add_left (by decide : 1 ≤ 64) _) hr.units
    exact (pds_cons (pds_if (pdw_bool (pdw_or (pdw_not (pdq_tru (pd_isi T.ins T.is_str (.ty _) (pdv 0) (pe_bltn (v := .ty "str") (by rfl) T.m_str (by decide +kernel) rfl) rfl rfl T.m_isinstance))) (pdw_or1 (pdw_not (pdq_le_le hr.units pdInt (pdf_len T.m_len (pdl_cons (pdv 0) pdl_nil)) pdInt))))) (pds_one (pds_ret pdBl)) pds_nil)
    (pds_one (pds_ret (pdf_all T.m_all (pdl_cons (pd_vis (pd_lc (own := [("sign", 1)]) rfl sc.nd (pdi_s (pdv 0)) (blkOk_by (N := N_is_name) (sc := defScope s_is_name) (by decide +kernel)) (fun _ _ _ _ _ => (pgd_name (i := 1) sc.nd rfl (by first | exact Or.inl rfl | exact Or.inr rfl) (hp := hp 1 rfl))) (fun _ _ _ _ _ => ptd_nil) (fun _ _ _ _ _ => (pdc_in hr.units (pdv 1) (pdg (v := .str "abcdefghijklmnopqrstuvwxyz") (by rfl) T.g_LETTERS (fun _ => .str _ (by decide +kernel))))) (by decide) (pn1 (hp 1 rfl)))) pdl_nil)))))

abbrev s_is_ascending : Stmt := topL 12
theorem sc_is_ascending : FnScope N_is_ascending ["values"] (defScope s_is_ascending) := ⟨rfl, rfl, rfl, by decide +kernel, rfl, by decide +kernel, by decide +kernel⟩
theorem ok_is_ascending {f : Addr} {fd : FuncData} (F : Fun k.K "is_ascending" "is_ascending" s_is_ascending f fd) (T : Tf k mg AD)  :
    FnOk P w k.K mg base (L2.CX P w) 1 f fd ["values"] (spD k [.v] false F_is_ascending) :=
  fn_okD F sc_is_ascending rfl (by decide) fun cdv A outer s H E p hr hp tk => by
    have sc := sc_is_ascending
    have hu1 := Nat.lt_of_le_of_lt (Nat.add_le_add_left (by decide : 1 ≤ 64) _) hr.units
    exact (pds_one (pds_ret (pdf_all T.m_all (pdl_cons (pd_vis (pd_lc (own := [("k", 1)]) rfl sc.nd (pdi_r2 (by rfl) T.m_range (pdl_cons pdInt (pdl_cons (pdf_len T.m_len (pdl_cons (pdv 0) pdl_nil)) pdl_nil))) (blkOk_by (N := N_is_ascending) (sc := defScope s_is_ascending) (by decide +kernel)) (fun _ _ _ _ _ => (pgd_name (i := 1) sc.nd rfl (by first | exact Or.inl rfl | exact Or.inr rfl) (hp := hp 1 rfl))) (fun _ _ _ _ _ => ptd_nil) (fun _ _ _ _ _ => (pdc_lt hr.units (pdx (pdv 0) (pdb_sub (pdv 1) pdInt)) (pdx (pdv 0) (pdv 1)))) (by decide) (pn1 (hp 1 rfl)))) pdl_nil))))

abbrev s__is_room : Stmt := topL 22
theorem sc__is_room : FnScope N__is_room ["value"] (defScope s__is_room) := ⟨rfl, rfl, rfl, by decide +kernel, rfl, by decide +kernel, by decide +kernel⟩
theorem ok__is_room {f : Addr} {fd : FuncData} (F : Fun k.K "_is_room" "_is_room" s__is_room f fd) (T : Tf k mg AD) (c_is_ascending : Cl P w k.K mg base (L2.CX P w) 1 "is_ascending" ["values"] (spD k [.v] false F_is_ascending)) (c_is_name : Cl P w k.K mg base (L2.CX P w) 1 "is_name" ["value"] (spD k [.v] false F_is_name)) :
    FnOk P w k.K mg base (L2.CX P w) 2 f fd ["value"] (spD k [.v] false F__is_room) :=
  fn_okD F sc__is_room rfl (by decide) fun cdv A outer s H E p hr hp tk => by
    have sc := sc__is_room
    have hu1 := Nat.lt_of_le_of_lt (Nat.add_le_add_left (by decide : 1 ≤ 64) _) hr.units
    exact (pds_cons (pds_if (pdw_bool (pdw_or (pdw_not (pdq_tru (pd_isi T.ins T.is_tuple (.ty _) (pdv 0) (pe_bltn (v := .ty "tuple") (by rfl) T.m_tuple (by decide +kernel) rfl) rfl rfl T.m_isinstance))) (pdw_or1 (pdw_not (pdq_le_le hr.units pdInt (pdf_len T.m_len (pdl_cons (pdv 0) pdl_nil)) pdInt))))) (pds_one (pds_ret pdBl)) pds_nil)
    (pds_one (pds_ret (pdn_and (pdf_all T.m_all (pdl_cons (pd_vis (pd_lc (own := [("item", 1)]) rfl sc.nd (pdi_t rfl (pdv 0)) (blkOk_by (N := N__is_room) (sc := defScope s__is_room) (by decide +kernel)) (fun _ _ _ _ _ => (pgd_name (i := 1) sc.nd rfl (by first | exact Or.inl rfl | exact Or.inr rfl) (hp := hp 1 rfl))) (fun _ _ _ _ _ => ptd_nil) (fun _ _ _ _ _ => (pd_call c_is_name hr takes0 (pdl_cons (pdv 1) pdl_nil))) (by decide) (pn1 (hp 1 rfl)))) pdl_nil)) (pdn_one (pd_call c_is_ascending hr tk (pdl_cons (pdv 0) pdl_nil)))))))

abbrev s__common : Stmt := topL 24
theorem sc__common : FnScope N__common ["room", "other"] (defScope s__common) := ⟨rfl, rfl, rfl, by decide +kernel, rfl, by decide +kernel, by decide +kernel⟩
theorem ok__common {f : Addr} {fd : FuncData} (F : Fun k.K "_common" "_common" s__common f fd) (T : Tf k mg AD)  :
    FnOk P w k.K mg base (L2.CX P w) 1 f fd ["room", "other"] (spD k [.v, .v] false F__common) :=
  fn_okD F sc__common rfl (by decide) fun cdv A outer s H E p hr hp tk => by
    have sc := sc__common
    have hu1 := Nat.lt_of_le_of_lt (Nat.add_le_add_left (by decide : 1 ≤ 64) _) hr.units
    exact (pds_one (pds_ret (pd_vis (pd_lc (own := [("outcome", 2)]) rfl sc.nd (pdi_t rfl (pdv 0)) (blkOk_by (N := N__common) (sc := defScope s__common) (by decide +kernel)) (fun _ _ _ _ _ => (pgd_name (i := 2) sc.nd rfl (by first | exact Or.inl rfl | exact Or.inr rfl) (hp := hp 2 rfl))) (fun _ _ _ _ _ => (ptd_one (pdq_in hr.units (pdv 2) (pdv 1)))) (fun _ _ _ _ _ => (pdv 2)) (by decide) (pn1 (hp 2 rfl))))))

abbrev s__crosses_twice : Stmt := topL 23
theorem sc__crosses_twice : FnScope N__crosses_twice ["room", "earlier"] (defScope s__crosses_twice) := ⟨rfl, rfl, rfl, by decide +kernel, rfl, by decide +kernel, by decide +kernel⟩
theorem ok__crosses_twice {f : Addr} {fd : FuncData} (F : Fun k.K "_crosses_twice" "_crosses_twice" s__crosses_twice f fd) (T : Tf k mg AD) (c__common : Cl P w k.K mg base (L2.CX P w) 1 "_common" ["room", "other"] (spD k [.v, .v] false F__common)) :
    FnOk P w k.K mg base (L2.CX P w) 2 f fd ["room", "earlier"] (spD k [.v, .v] false F__crosses_twice) :=
  fn_okD F sc__crosses_twice rfl (by decide) fun cdv A outer s H E p hr hp tk => by
    have sc := sc__crosses_twice
    have hu1 := Nat.lt_of_le_of_lt (Nat.add_le_add_left (by decide : 1 ≤ 64) _) hr.units
    exact (pds_one (pds_ret (pdf_any T.m_any (pdl_cons (pd_vis (pd_lc (own := [("other", 2)]) rfl sc.nd (pdi_t rfl (pdv 1)) (blkOk_by (N := N__crosses_twice) (sc := defScope s__crosses_twice) (by decide +kernel)) (fun _ _ _ _ _ => (pgd_name (i := 2) sc.nd rfl (by first | exact Or.inl rfl | exact Or.inr rfl) (hp := hp 2 rfl))) (fun _ _ _ _ _ => ptd_nil) (fun _ _ _ _ _ => (pdc_gt hr.units (pdf_len T.m_len (pdl_cons (pd_call c__common hr takes0 (pdl_cons (pdv 0) (pdl_cons (pdv 2) pdl_nil))) pdl_nil)) pdInt)) (by decide) (pn1 (hp 2 rfl)))) pdl_nil))))

abbrev s__homes_of : Stmt := topL 25
theorem sc__homes_of : FnScope N__homes_of ["rooms"] (defScope s__homes_of) := ⟨rfl, rfl, rfl, by decide +kernel, rfl, by decide +kernel, by decide +kernel⟩
theorem ok__homes_of {f : Addr} {fd : FuncData} (F : Fun k.K "_homes_of" "_homes_of" s__homes_of f fd) (T : Tf k mg AD)  :
    FnOk P w k.K mg base (L2.CX P w) 1 f fd ["rooms"] (spD k [.v] false F__homes_of) :=
  fn_okD F sc__homes_of rfl (by decide) fun cdv A outer s H E p hr hp tk => by
    have sc := sc__homes_of
    have hu1 := Nat.lt_of_le_of_lt (Nat.add_le_add_left (by decide : 1 ≤ 64) _) hr.units
    exact (pds_cons (pds_new (i := 1) sc.nd rfl (by first | exact Or.inl rfl | exact Or.inr rfl) pd_newK (hp := hp 1 rfl))
    (pds_cons (pds_for (passes_of rfl) rfl (pdi_enT rfl (by rfl) T.m_enumerate (pdl_cons (pdv 0) pdl_nil)) (pgd_tup rfl rfl (pgds_cons (pgd_name (i := 2) sc.nd rfl (by first | exact Or.inl rfl | exact Or.inr rfl) (hp := hp 2 rfl)) (pgds_cons (pgd_name (i := 3) sc.nd rfl (by first | exact Or.inl rfl | exact Or.inr rfl) (hp := hp 3 rfl)) pgds_nil)) (gs_cons_len (gs_cons_len gs_nil_len))) (pds_one (pds_for (passes_of rfl) rfl (pdi_t rfl (pdv 3)) (pgd_name (i := 4) sc.nd rfl (by first | exact Or.inl rfl | exact Or.inr rfl) (hp := hp 4 rfl)) (pds_one (pds_putD (j := 1) hu1 rfl (by first | exact Or.inl rfl | exact Or.inr (Or.inl rfl) | exact Or.inr (Or.inr rfl)) (pdv 4) (pdb_add (pdd_get2 hr.units (pdv 1) (pdv 4) (pd_tup pdl_nil)) (pd_tup (pdl_cons (pdv 2) pdl_nil))) (by rfl))))))
    (pds_one (pds_ret (pdv 1)))))

abbrev s_Book___init__ : Stmt := metL 21 0
theorem sc_Book___init__ : FnScope N_Book___init__ ["self", "rooms"] (defScope s_Book___init__) := ⟨rfl, rfl, rfl, by decide +kernel, rfl, by decide +kernel, by decide +kernel⟩
theorem ok_Book___init__ {f : Addr} {fd : FuncData} (F : Fun k.K "__init__" "Book.__init__" s_Book___init__ f fd) (T : Tf k mg AD) (c__crosses_twice : Cl P w k.K mg base (L2.CX P w) 2 "_crosses_twice" ["room", "earlier"] (spD k [.v, .v] false F__crosses_twice)) (c__is_room : Cl P w k.K mg base (L2.CX P w) 2 "_is_room" ["value"] (spD k [.v] false F__is_room)) (c__homes_of : Cl P w k.K mg base (L2.CX P w) 1 "_homes_of" ["rooms"] (spD k [.v] false F__homes_of)) {fd_InvalidBook : FuncData} (e_InvalidBook : FnOk P w k.K mg base CX0 1 (AD "InvalidBook.__init__") fd_InvalidBook ["self", "at"] (spIni k.K "at")) (b_InvalidBook : L2.Binds k.K fd_InvalidBook ["self", "at"] []) :
    FnOk P w k.K mg base (L2.CX P w) 3 f fd ["self", "rooms"] (spD k [.o, .v] false F_Book___init__) :=
  fn_okD F sc_Book___init__ rfl (by decide) fun cdv A outer s H E p hr hp tk => by
    have sc := sc_Book___init__
    have hu1 := Nat.lt_of_le_of_lt (Nat.add_le_add_left (by decide : 1 ≤ 64) _) hr.units
    exact (pds_cons (pds_if (pdw_bool (pdw_or (pdw_not (pdq_tru (pd_isi T.ins T.is_tuple (.ty _) (pdv 1) (pe_bltn (v := .ty "tuple") (by rfl) T.m_tuple (by decide +kernel) rfl) rfl rfl T.m_isinstance))) (pdw_or1 (pdw_not (pdq_le_le hr.units pdInt (pdf_len T.m_len (pdl_cons (pdv 1) pdl_nil)) (pdg (v := .int 10) (by rfl) T.g_MOST_ROOMS (fun _ => .int _))))))) (pds_one (pds_raise T.e_InvalidBook e_InvalidBook b_InvalidBook T.n_InvalidBook T.d_InvalidBook hr rfl tk (pdu_neg pdInt))) pds_nil)
    (pds_cons (pds_for (passes_of rfl) rfl (pdi_enT rfl (by rfl) T.m_enumerate (pdl_cons (pdv 1) pdl_nil)) (pgd_tup rfl rfl (pgds_cons (pgd_name (i := 2) sc.nd rfl (by first | exact Or.inl rfl | exact Or.inr rfl) (hp := hp 2 rfl)) (pgds_cons (pgd_name (i := 3) sc.nd rfl (by first | exact Or.inl rfl | exact Or.inr rfl) (hp := hp 3 rfl)) pgds_nil)) (gs_cons_len (gs_cons_len gs_nil_len))) (pds_one (pds_if (pdw_bool (pdw_or (pdw_not (pdq_tru (pd_call c__is_room hr tk (pdl_cons (pdv 3) pdl_nil)))) (pdw_or1 (pdq_tru (pd_call c__crosses_twice hr tk (pdl_cons (pdv 3) (pdl_cons (pdsl_T (pdv 1) pdo_none (pdo_some (pdv 2))) pdl_nil))))))) (pds_one (pds_raise T.e_InvalidBook e_InvalidBook b_InvalidBook T.n_InvalidBook T.d_InvalidBook hr rfl tk (pdv 2))) pds_nil)))
    (pds_cons (pds_set (i := 4) sc.nd rfl (by first | exact Or.inl rfl | exact Or.inr rfl) (pd_call c__homes_of hr tk (pdl_cons (pdv 1) pdl_nil)) (hp := hp 4 rfl))
    (pds_cons (pds_if (pdq_gt hr.units (pdf_len T.m_len (pdl_cons (pdv 4) pdl_nil)) (pdg (v := .int 24) (by rfl) T.g_MOST_OUTCOMES (fun _ => .int _))) (pds_one (pds_raise T.e_InvalidBook e_InvalidBook b_InvalidBook T.n_InvalidBook T.d_InvalidBook hr rfl tk (pdf_len T.m_len (pdl_cons (pdv 1) pdl_nil)))) pds_nil)
    (pds_cons (pds_fld (i := 0) rfl (Or.inl rfl) (pdv 1) T.f_rooms rfl)
    (pds_one (pds_fld (i := 0) rfl (Or.inl rfl) (pdv 4) T.f__homes rfl)))))))

abbrev s_Book_rooms_of : Stmt := metL 21 4
theorem sc_Book_rooms_of : FnScope N_Book_rooms_of ["self", "outcome"] (defScope s_Book_rooms_of) := ⟨rfl, rfl, rfl, by decide +kernel, rfl, by decide +kernel, by decide +kernel⟩
theorem ok_Book_rooms_of {f : Addr} {fd : FuncData} (F : Fun k.K "rooms_of" "Book.rooms_of" s_Book_rooms_of f fd) (T : Tf k mg AD)  :
    FnOk P w k.K mg base (L2.CX P w) 1 f fd ["self", "outcome"] (spD k [.v, .v] false F_Book_rooms_of) :=
  fn_okD F sc_Book_rooms_of rfl (by decide) fun cdv A outer s H E p hr hp tk => by
    have sc := sc_Book_rooms_of
    have hu1 := Nat.lt_of_le_of_lt (Nat.add_le_add_left (by decide : 1 ≤ 64) _) hr.units
    exact (pds_cons (pds_if (pdw_not (pdq_tru (pd_isi T.ins T.is_str (.ty _) (pdv 1) (pe_bltn (v := .ty "str") (by rfl) T.m_str (by decide +kernel) rfl) rfl rfl T.m_isinstance))) (pds_one (pds_ret (pd_tup pdl_nil))) pds_nil)
    (pds_one (pds_ret (pdd_get2 hr.units (pd_fld (pdv 0) T.f__homes rfl) (pdv 1) (pd_tup pdl_nil)))))

abbrev s_Book_outcomes : Stmt := metL 21 2
theorem sc_Book_outcomes : FnScope N_Book_outcomes ["self"] (defScope s_Book_outcomes) := ⟨rfl, rfl, rfl, by decide +kernel, rfl, by decide +kernel, by decide +kernel⟩
theorem ok_Book_outcomes {f : Addr} {fd : FuncData} (F : Fun k.K "outcomes" "Book.outcomes" s_Book_outcomes f fd) (T : Tf k mg AD)  :
    FnOk P w k.K mg base (L2.CX P w) 1 f fd ["self"] (spD k [.v] false F_Book_outcomes) :=
  fn_okD F sc_Book_outcomes rfl (by decide) fun cdv A outer s H E p hr hp tk => by
    have sc := sc_Book_outcomes
    have hu1 := Nat.lt_of_le_of_lt (Nat.add_le_add_left (by decide : 1 ≤ 64) _) hr.units
    exact (pds_one (pds_ret (pdf_tuple T.m_tuple (pdl_cons (pd_vis (pdf_sortedK T.m_sorted (pdl_cons (pd_fld (pdv 0) T.f__homes rfl) pdl_nil))) pdl_nil))))

abbrev s__beside : Stmt := topL 14
theorem sc__beside : FnScope N__beside ["book", "outcome"] (defScope s__beside) := ⟨rfl, rfl, rfl, by decide +kernel, rfl, by decide +kernel, by decide +kernel⟩
theorem ok__beside {f : Addr} {fd : FuncData} (F : Fun k.K "_beside" "_beside" s__beside f fd) (T : Tf k mg AD) (c_Book_rooms_of : Cm P w k.K mg base (L2.CX P w) 1 (AD "Book") "rooms_of" ["self", "outcome"] (spD k [.v, .v] false F_Book_rooms_of)) :
    FnOk P w k.K mg base (L2.CX P w) 2 f fd ["book", "outcome"] (spD k [.v, .v] false F__beside) :=
  fn_okD F sc__beside rfl (by decide) fun cdv A outer s H E p hr hp tk => by
    have sc := sc__beside
    have hu1 := Nat.lt_of_le_of_lt (Nat.add_le_add_left (by decide : 1 ≤ 64) _) hr.units
    exact (pds_cons (pds_setLc (i := 2) (own := [("room", 3)]) rfl sc.nd rfl rfl rfl (pdi_t rfl (pd_meth c_Book_rooms_of T.cl_Book T.hc_Book hr tk (pdv 0) (pdl_cons (pdv 1) pdl_nil))) (blkOk_by (N := N__beside) (sc := defScope s__beside) (by decide +kernel)) (fun _ _ _ _ _ => (pgd_name (i := 3) sc.nd rfl (by first | exact Or.inl rfl | exact Or.inr rfl) (hp := hp 3 rfl))) (fun _ _ _ _ _ => ptd_nil) (fun _ _ _ _ _ => (pdx (pd_fld (pdv 0) T.f_rooms rfl) (pdv 3))) (by decide) (pn1 (hp 3 rfl)) (hp := hp 2 rfl))
    (pds_one (pds_ret (pdf_tuple T.m_tuple (pdl_cons (pd_vis (pdf_sorted hr.units T.m_sorted (pdl_cons (pd_vis (pd_lc2 (own := [("room", 3), ("other", 4)]) (vs1 := [4]) rfl sc.nd (pdi_l rfl (pdv 2)) (blkOk_by (N := N__beside) (sc := defScope s__beside) (by decide +kernel)) (by decide) (fun _ _ _ _ _ => (pgd_name (i := 3) sc.nd rfl (by first | exact Or.inl rfl | exact Or.inr rfl) (hp := hp 3 rfl))) (fun _ _ _ _ _ => ptd_nil) (fun _ _ _ _ _ => (pdi_t rfl (pdv 3))) (fun _ _ _ _ _ => (pgd_name (i := 4) sc.nd rfl (by first | exact Or.inl rfl | exact Or.inr rfl) (hp := hp 4 rfl))) (fun _ _ _ _ _ => (ptd_one (pdq_ne hr.units (pdv 4) (pdv 1)))) (fun _ _ _ _ _ => (pdv 4)) (by decide) (by decide) (pn2 (hp 3 rfl) (hp 4 rfl)))) pdl_nil))) pdl_nil)))))

abbrev s_rivals : Stmt := topL 13
theorem sc_rivals : FnScope N_rivals ["book"] (defScope s_rivals) := ⟨rfl, rfl, rfl, by decide +kernel, rfl, by decide +kernel, by decide +kernel⟩
theorem ok_rivals {f : Addr} {fd : FuncData} (F : Fun k.K "rivals" "rivals" s_rivals f fd) (T : Tf k mg AD) (c_Book_outcomes : Cm P w k.K mg base (L2.CX P w) 1 (AD "Book") "outcomes" ["self"] (spD k [.v] false F_Book_outcomes)) (c__beside : Cl P w k.K mg base (L2.CX P w) 2 "_beside" ["book", "outcome"] (spD k [.v, .v] false F__beside)) :
    FnOk P w k.K mg base (L2.CX P w) 3 f fd ["book"] (spD k [.v] false F_rivals) :=
  fn_okD F sc_rivals rfl (by decide) fun cdv A outer s H E p hr hp tk => by
    have sc := sc_rivals
    have hu1 := Nat.lt_of_le_of_lt (Nat.add_le_add_left (by decide : 1 ≤ 64) _) hr.units
    exact (pds_one (pds_ret (pd_vis (pd_dc (own := [("outcome", 1)]) rfl sc.nd (pdi_t rfl (pd_meth0 c_Book_outcomes T.cl_Book T.hc_Book hr tk (pdv 0))) (blkOk_by (N := N_rivals) (sc := defScope s_rivals) (by decide +kernel)) (fun _ _ _ _ _ => (pgd_name (i := 1) sc.nd rfl (by first | exact Or.inl rfl | exact Or.inr rfl) (hp := hp 1 rfl))) (fun _ _ _ _ _ => ptd_nil) (fun _ _ _ _ _ => (pdv 1)) (fun _ _ _ _ _ => (pd_call c__beside hr takes0 (pdl_cons (pdv 0) (pdl_cons (pdv 1) pdl_nil)))) (by decide) (pn1 (hp 1 rfl))))))

abbrev s__may_end : Stmt := topL 16
theorem sc__may_end : FnScope N__may_end ["lot", "name", "clashes"] (defScope s__may_end) := ⟨rfl, rfl, rfl, by decide +kernel, rfl, by decide +kernel, by decide +kernel⟩
theorem ok__may_end {f : Addr} {fd : FuncData} (F : Fun k.K "_may_end" "_may_end" s__may_end f fd) (T : Tf k mg AD)  :
    FnOk P w k.K mg base (L2.CX P w) 1 f fd ["lot", "name", "clashes"] (spD k [.v, .v, .v] false F__may_end) :=
  fn_okD F sc__may_end rfl (by decide) fun cdv A outer s H E p hr hp tk => by
    have sc := sc__may_end
    have hu1 := Nat.lt_of_le_of_lt (Nat.add_le_add_left (by decide : 1 ≤ 64) _) hr.units
    exact (pds_cons (pds_if (pdw_bool (pdw_and (pdq_tru (pdv 0)) (pdw_and1 (pdw_not (pdq_lt hr.units (pdx (pdv 0) (pdu_neg pdInt)) (pdv 1)))))) (pds_one (pds_ret pdBl)) pds_nil)
    (pds_one (pds_ret (pdn_not (pdf_any T.m_any (pdl_cons (pd_vis (pd_lc (own := [("item", 3)]) rfl sc.nd (pdi_t rfl (pdv 0)) (blkOk_by (N := N__may_end) (sc := defScope s__may_end) (by decide +kernel)) (fun _ _ _ _ _ => (pgd_name (i := 3) sc.nd rfl (by first | exact Or.inl rfl | exact Or.inr rfl) (hp := hp 3 rfl))) (fun _ _ _ _ _ => ptd_nil) (fun _ _ _ _ _ => (pdc_in hr.units (pdv 1) (pdx_d hr.units (pdv 2) (pdv 3)))) (by decide) (pn1 (hp 3 rfl)))) pdl_nil))))))

abbrev s_longer_lots : Stmt := topL 15
theorem sc_longer_lots : FnScope N_longer_lots ["lots", "names", "clashes"] (defScope s_longer_lots) := ⟨rfl, rfl, rfl, by decide +kernel, rfl, by decide +kernel, by decide +kernel⟩
theorem ok_longer_lots {f : Addr} {fd : FuncData} (F : Fun k.K "longer_lots" "longer_lots" s_longer_lots f fd) (T : Tf k mg AD) (c__may_end : Cl P w k.K mg base (L2.CX P w) 1 "_may_end" ["lot", "name", "clashes"] (spD k [.v, .v, .v] false F__may_end)) :
    FnOk P w k.K mg base (L2.CX P w) 2 f fd ["lots", "names", "clashes"] (spD k [.v, .v, .v] false F_longer_lots) :=
  fn_okD F sc_longer_lots rfl (by decide) fun cdv A outer s H E p hr hp tk => by
    have sc := sc_longer_lots
    have hu1 := Nat.lt_of_le_of_lt (Nat.add_le_add_left (by decide : 1 ≤ 64) _) hr.units
    exact (pds_one (pds_ret (pd_vis (pd_lc2 (own := [("lot", 3), ("name", 4)]) (vs1 := [4]) rfl sc.nd (pdi_l rfl (pdv 0)) (blkOk_by (N := N_longer_lots) (sc := defScope s_longer_lots) (by decide +kernel)) (by decide) (fun _ _ _ _ _ => (pgd_name (i := 3) sc.nd rfl (by first | exact Or.inl rfl | exact Or.inr rfl) (hp := hp 3 rfl))) (fun _ _ _ _ _ => ptd_nil) (fun _ _ _ _ _ => (pdi_t rfl (pdv 1))) (fun _ _ _ _ _ => (pgd_name (i := 4) sc.nd rfl (by first | exact Or.inl rfl | exact Or.inr rfl) (hp := hp 4 rfl))) (fun _ _ _ _ _ => (ptd_one (pdq_tru (pd_call c__may_end hr takes0 (pdl_cons (pdv 3) (pdl_cons (pdv 4) (pdl_cons (pdv 2) pdl_nil))))))) (fun _ _ _ _ _ => (pdb_add (pdv 3) (pd_tup (pdl_cons (pdv 4) pdl_nil)))) (by decide) (by decide) (pn2 (hp 3 rfl) (hp 4 rfl))))))

abbrev s_lots_without : Stmt := topL 17
theorem sc_lots_without : FnScope N_lots_without ["names", "clashes", "size"] (defScope s_lots_without) := ⟨rfl, rfl, rfl, by decide +kernel, rfl, by decide +kernel, by decide +kernel⟩
theorem ok_lots_without {f : Addr} {fd : FuncData} (F : Fun k.K "lots_without" "lots_without" s_lots_without f fd) (T : Tf k mg AD) (c_longer_lots : Cl P w k.K mg base (L2.CX P w) 2 "longer_lots" ["lots", "names", "clashes"] (spD k [.v, .v, .v] false F_longer_lots)) {fd_Refused : FuncData} (e_Refused : FnOk P w k.K mg base CX0 1 (AD "Refused.__init__") fd_Refused ["self", "word"] (spIni k.K "word")) (b_Refused : L2.Binds k.K fd_Refused ["self", "word"] []) :
    FnOk P w k.K mg base (L2.CX P w) 3 f fd ["names", "clashes", "size"] (spD k [.v, .v, .v] false F_lots_without) :=
  fn_okD F sc_lots_without rfl (by decide) fun cdv A outer s H E p hr hp tk => by
    have sc := sc_lots_without
    have hu1 := Nat.lt_of_le_of_lt (Nat.add_le_add_left (by decide : 1 ≤ 64) _) hr.units
    exact (pds_cons (pds_set (i := 3) sc.nd rfl (by first | exact Or.inl rfl | exact Or.inr rfl) (pd_vis (pd_lst (pdl_cons (pd_tup pdl_nil) pdl_nil))) (hp := hp 3 rfl))
    (pds_cons (pds_for (passes_of rfl) rfl (pdi_r1 (by rfl) T.m_range (pdl_cons (pdv 2) pdl_nil)) (pgd_name (i := 4) sc.nd rfl (by first | exact Or.inl rfl | exact Or.inr rfl) (hp := hp 4 rfl)) (pds_cons (pds_set (i := 3) sc.nd rfl (by first | exact Or.inl rfl | exact Or.inr rfl) (pd_call c_longer_lots hr tk (pdl_cons (pdv 3) (pdl_cons (pdv 0) (pdl_cons (pdv 1) pdl_nil)))) (hp := hp 3 rfl))
    (pds_one (pds_if (pdq_gt hr.units (pdf_len T.m_len (pdl_cons (pdv 3) pdl_nil)) (pdg (v := .int 1000) (by rfl) T.g_MOST_LOTS (fun _ => .int _))) (pds_one (pds_raise T.e_Refused e_Refused b_Refused T.n_Refused T.d_Refused hr rfl tk pdStr)) pds_nil))))
    (pds_one (pds_ret (pdf_tuple T.m_tuple (pdl_cons (pdv 3) pdl_nil))))))

abbrev s_apart_lots : Stmt := topL 27
theorem sc_apart_lots : FnScope N_apart_lots ["book", "size"] (defScope s_apart_lots) := ⟨rfl, rfl, rfl, by decide +kernel, rfl, by decide +kernel, by decide +kernel⟩
theorem ok_apart_lots {f : Addr} {fd : FuncData} (F : Fun k.K "apart_lots" "apart_lots" s_apart_lots f fd) (T : Tf k mg AD) (c_is_number_within : Cl P w k.K mg base (L2.CX P w) 2 "is_number_within" ["value", "low", "high"] (spD k [.v, .v, .v] false F_is_number_within)) (c_rivals : Cl P w k.K mg base (L2.CX P w) 3 "rivals" ["book"] (spD k [.v] false F_rivals)) (c_Book_outcomes : Cm P w k.K mg base (L2.CX P w) 1 (AD "Book") "outcomes" ["self"] (spD k [.v] false F_Book_outcomes)) (c_lots_without : Cl P w k.K mg base (L2.CX P w) 3 "lots_without" ["names", "clashes", "size"] (spD k [.v, .v, .v] false F_lots_without)) {fd_InvalidNumber : FuncData} (e_InvalidNumber : FnOk P w k.K mg base CX0 1 (AD "InvalidNumber.__init__") fd_InvalidNumber ["self", "word"] (spIni k.K "word")) (b_InvalidNumber : L2.Binds k.K fd_InvalidNumber ["self", "word"] []) :
    FnOk P w k.K mg base (L2.CX P w) 5 f fd ["book", "size"] (spD k [.v, .v] false F_apart_lots) :=
  fn_okD F sc_apart_lots rfl (by decide) fun cdv A outer s H E p hr hp tk => by
    have sc := sc_apart_lots
    have hu1 := Nat.lt_of_le_of_lt (Nat.add_le_add_left (by decide : 1 ≤ 64) _) hr.units
    exact (pds_cons (pds_if (pdw_not (pdq_tru (pd_call c_is_number_within hr tk (pdl_cons (pdv 1) (pdl_cons pdInt (pdl_cons pdInt pdl_nil)))))) (pds_one (pds_raise T.e_InvalidNumber e_InvalidNumber b_InvalidNumber T.n_InvalidNumber T.d_InvalidNumber hr rfl tk pdStr)) pds_nil)
    (pds_one (pds_ret (pd_call c_lots_without hr tk (pdl_cons (pd_meth0 c_Book_outcomes T.cl_Book T.hc_Book hr tk (pdv 0)) (pdl_cons (pd_call c_rivals hr tk (pdl_cons (pdv 0) pdl_nil)) (pdl_cons (pdv 1) pdl_nil)))))))

abbrev s__law_pick : Stmt := topL 31
theorem sc__law_pick : FnScope N__law_pick ["heap", "some"] (defScope s__law_pick) := ⟨rfl, rfl, rfl, by decide +kernel, rfl, by decide +kernel, by decide +kernel⟩
theorem ok__law_pick {f : Addr} {fd : FuncData} (F : Fun k.K "_law_pick" "_law_pick" s__law_pick f fd) (T : Tf k mg AD) (c__law_draw : Cl P w k.K mg base (L2.CX P w) 1 "_law_draw" ["heap", "many"] (spD k [.h, .v] false F__law_draw)) :
    FnOk P w k.K mg base (L2.CX P w) 2 f fd ["heap", "some"] (spD k [.h, .v] false F__law_pick) :=
  fn_okD F sc__law_pick rfl (by decide) fun cdv A outer s H E p hr hp tk => by
    have sc := sc__law_pick
    have hu1 := Nat.lt_of_le_of_lt (Nat.add_le_add_left (by decide : 1 ≤ 64) _) hr.units
    exact (pds_one (pds_ret (pdx (pdv 1) (pd_call c__law_draw hr tk (pdl_cons (pdv 0) (pdl_cons (pdf_len T.m_len (pdl_cons (pdv 1) pdl_nil)) pdl_nil))))))

abbrev s__law_names : Stmt := topL 32
theorem sc__law_names : FnScope N__law_names ["heap", "many"] (defScope s__law_names) := ⟨rfl, rfl, rfl, by decide +kernel, rfl, by decide +kernel, by decide +kernel⟩
theorem ok__law_names {f : Addr} {fd : FuncData} (F : Fun k.K "_law_names" "_law_names" s__law_names f fd) (T : Tf k mg AD) (c__law_draw : Cl P w k.K mg base (L2.CX P w) 1 "_law_draw" ["heap", "many"] (spD k [.h, .v] false F__law_draw)) (c__law_pick : Cl P w k.K mg base (L2.CX P w) 2 "_law_pick" ["heap", "some"] (spD k [.h, .v] false F__law_pick)) :
    FnOk P w k.K mg base (L2.CX P w) 3 f fd ["heap", "many"] (spD k [.h, .v] false F__law_names) :=
  fn_okD F sc__law_names rfl (by decide) fun cdv A outer s H E p hr hp tk => by
    have sc := sc__law_names
    have hu1 := Nat.lt_of_le_of_lt (Nat.add_le_add_left (by decide : 1 ≤ 64) _) hr.units
    exact (pds_cons (pds_parT (i := 2) (j := 3) (c1 := (.v (eC (.str "abcdefghijklmnopqrstuvwxyz")))) (c2 := (.n (eLst lNil))) rfl sc.nd rfl rfl (by decide) (by first | exact Or.inl rfl | exact Or.inr rfl) (by first | exact Or.inl rfl | exact Or.inr rfl) pdStr (pd_lst pdl_nil) (hp 2 rfl) (hp 3 rfl))
    (pds_cons (pds_set (i := 4) sc.nd rfl (by first | exact Or.inl rfl | exact Or.inr rfl) (pd_call c__law_pick hr tk (pdl_cons (pdv 0) (pdl_cons (pd_vis (pd_lst (pdl_cons pdStr (pdl_cons pdStr (pdl_cons (pdx (pdv 2) (pd_call c__law_draw hr tk (pdl_cons (pdv 0) (pdl_cons pdInt pdl_nil)))) (pdl_cons (pdb_mul (pdx (pdv 2) (pd_call c__law_draw hr tk (pdl_cons (pdv 0) (pdl_cons pdInt pdl_nil)))) pdInt) pdl_nil)))))) pdl_nil))) (hp := hp 4 rfl))
    (pds_cons (pds_for (passes_of rfl) rfl (pdi_r1 (by rfl) T.m_range (pdl_cons (pdv 1) pdl_nil)) (pgd_name (i := 5) sc.nd rfl (by first | exact Or.inl rfl | exact Or.inr rfl) (hp := hp 5 rfl)) (pds_cons (pds_set (i := 6) sc.nd rfl (by first | exact Or.inl rfl | exact Or.inr rfl) (pdb_add (pdv 4) (pd_join pdStr (pd_vis (pd_lc (own := [("place", 7)]) rfl sc.nd (pdi_r1 (by rfl) T.m_range (pdl_cons (pdb_add pdInt (pd_call c__law_draw hr tk (pdl_cons (pdv 0) (pdl_cons pdInt pdl_nil)))) pdl_nil)) (blkOk_by (N := N__law_names) (sc := defScope s__law_names) (by decide +kernel)) (fun _ _ _ _ _ => (pgd_name (i := 7) sc.nd rfl (by first | exact Or.inl rfl | exact Or.inr rfl) (hp := hp 7 rfl))) (fun _ _ _ _ _ => ptd_nil) (fun _ _ _ _ _ => (pdx (pdv 2) (pd_call c__law_draw hr takes0 (pdl_cons (pdv 0) (pdl_cons pdInt pdl_nil))))) (by decide) (pn1 (hp 7 rfl)))))) (hp := hp 6 rfl))
    (pds_cons (pds_for (passes_of rfl) rfl (pdi_s (pdv 2)) (pgd_name (i := 8) sc.nd rfl (by first | exact Or.inl rfl | exact Or.inr rfl) (hp := hp 8 rfl)) (pds_one (pds_set (i := 6) sc.nd rfl (by first | exact Or.inl rfl | exact Or.inr rfl) (pd_if (pdq_in hr.units (pdv 6) (pdv 3)) (pdb_add (pdsl_S (pdv 6) pdo_none (pdo_some pdInt)) (pdv 8)) (pdv 6)) (hp := hp 6 rfl))))
    (pds_one (pds_expr (pd_mt (j := 3) PySem.F.slot_list_append PySem.F.type_list_append mt_append c_append rfl (by first | exact Or.inl rfl | exact Or.inr (Or.inl rfl) | exact Or.inr (Or.inr rfl)) (pdl_cons (pdv 6) pdl_nil)))))))
    (pds_one (pds_ret (pdv 3))))))

abbrev s__law_apart : Stmt := topL 33
theorem sc__law_apart : FnScope N__law_apart ["rooms", "taken", "one"] (defScope s__law_apart) := ⟨rfl, rfl, rfl, by decide +kernel, rfl, by decide +kernel, by decide +kernel⟩
theorem ok__law_apart {f : Addr} {fd : FuncData} (F : Fun k.K "_law_apart" "_law_apart" s__law_apart f fd) (T : Tf k mg AD)  :
    FnOk P w k.K mg base (L2.CX P w) 1 f fd ["rooms", "taken", "one"] (spD k [.v, .v, .v] false F__law_apart) :=
  fn_okD F sc__law_apart rfl (by decide) fun cdv A outer s H E p hr hp tk => by
    have sc := sc__law_apart
    have hu1 := Nat.lt_of_le_of_lt (Nat.add_le_add_left (by decide : 1 ≤ 64) _) hr.units
    exact (pds_cons (pds_for (passes_of rfl) rfl (pdi_l rfl (pdv 0)) (pgd_name (i := 3) sc.nd rfl (by first | exact Or.inl rfl | exact Or.inr rfl) (hp := hp 3 rfl)) (pds_one (pds_if (pdw_bool (pdw_and (pdq_in hr.units (pdv 2) (pdv 3)) (pdw_and1 (pdq_tru (pdf_any T.m_any (pdl_cons (pd_vis (pd_lc (own := [("other", 4)]) rfl sc.nd (pdi_l rfl (pdv 1)) (blkOk_by (N := N__law_apart) (sc := defScope s__law_apart) (by decide +kernel)) (fun _ _ _ _ _ => (pgd_name (i := 4) sc.nd rfl (by first | exact Or.inl rfl | exact Or.inr rfl) (hp := hp 4 rfl))) (fun _ _ _ _ _ => ptd_nil) (fun _ _ _ _ _ => (pdc_in hr.units (pdv 4) (pdv 3))) (by decide) (pn1 (hp 4 rfl)))) pdl_nil)))))) (pds_one (pds_ret pdBl)) pds_nil)))
    (pds_one (pds_ret (pdc_notin hr.units (pdv 2) (pdv 1)))))

abbrev s__law_rooms : Stmt := topL 34
theorem sc__law_rooms : FnScope N__law_rooms ["heap", "names", "many", "most"] (defScope s__law_rooms) := ⟨rfl, rfl, rfl, by decide +kernel, rfl, by decide +kernel, by decide +kernel⟩
theorem ok__law_rooms {f : Addr} {fd : FuncData} (F : Fun k.K "_law_rooms" "_law_rooms" s__law_rooms f fd) (T : Tf k mg AD) (c__law_draw : Cl P w k.K mg base (L2.CX P w) 1 "_law_draw" ["heap", "many"] (spD k [.h, .v] false F__law_draw)) (c__law_apart : Cl P w k.K mg base (L2.CX P w) 1 "_law_apart" ["rooms", "taken", "one"] (spD k [.v, .v, .v] false F__law_apart)) (c__law_pick : Cl P w k.K mg base (L2.CX P w) 2 "_law_pick" ["heap", "some"] (spD k [.h, .v] false F__law_pick)) :
    FnOk P w k.K mg base (L2.CX P w) 3 f fd ["heap", "names", "many", "most"] (spD k [.h, .v, .v, .v] false F__law_rooms) :=
  fn_okD F sc__law_rooms rfl (by decide) fun cdv A outer s H E p hr hp tk => by
    have sc := sc__law_rooms
    have hu1 := Nat.lt_of_le_of_lt (Nat.add_le_add_left (by decide : 1 ≤ 64) _) hr.units
    exact (pds_cons (pds_parT (i := 4) (j := 5) (c1 := (.n (eLst lNil))) (c2 := (.v (eVis (eLst lNil)))) rfl sc.nd rfl rfl (by decide) (by first | exact Or.inl rfl | exact Or.inr rfl) (by first | exact Or.inl rfl | exact Or.inr rfl) (pd_lst pdl_nil) (pd_vis (pd_lst pdl_nil)) (hp 4 rfl) (hp 5 rfl))
    (pds_cons (pds_for (passes_of rfl) rfl (pdi_r1 (by rfl) T.m_range (pdl_cons (pdv 2) pdl_nil)) (pgd_name (i := 6) sc.nd rfl (by first | exact Or.inl rfl | exact Or.inr rfl) (hp := hp 6 rfl)) (pds_cons (pds_parT (i := 7) (j := 8) (c1 := (.v (eOp dAdd (eC (.int 3)) (eCall [.h, .v] F__law_draw (lCons (eVar 0) (lCons (eOp dSub (eVar 3) (eC (.int 2))) lNil)))))) (c2 := (.n (eLst lNil))) rfl sc.nd rfl rfl (by decide) (by first | exact Or.inl rfl | exact Or.inr rfl) (by first | exact Or.inl rfl | exact Or.inr rfl) (pdb_add pdInt (pd_call c__law_draw hr tk (pdl_cons (pdv 0) (pdl_cons (pdb_sub (pdv 3) pdInt) pdl_nil)))) (pd_lst pdl_nil) (hp 7 rfl) (hp 8 rfl))
    (pds_cons (pds_for (passes_of rfl) rfl (pdi_r1 (by rfl) T.m_range (pdl_cons (pdv 7) pdl_nil)) (pgd_name (i := 9) sc.nd rfl (by first | exact Or.inl rfl | exact Or.inr rfl) (hp := hp 9 rfl)) (pds_cons (pds_setLc (i := 10) (own := [("one", 11)]) rfl sc.nd rfl rfl rfl (pdi_l rfl (pdv 5)) (blkOk_by (N := N__law_rooms) (sc := defScope s__law_rooms) (by decide +kernel)) (fun _ _ _ _ _ => (pgd_name (i := 11) sc.nd rfl (by first | exact Or.inl rfl | exact Or.inr rfl) (hp := hp 11 rfl))) (fun _ _ _ _ _ => (ptd_one (pdq_tru (pd_call c__law_apart hr takes0 (pdl_cons (pdv 4) (pdl_cons (pdv 8) (pdl_cons (pdv 11) pdl_nil))))))) (fun _ _ _ _ _ => (pdv 11)) (by decide) (pn1 (hp 11 rfl)) (hp := hp 10 rfl))
    (pds_cons (pds_setLc (i := 12) (own := [("one", 11)]) rfl sc.nd rfl rfl rfl (pdi_l rfl (pdv 1)) (blkOk_by (N := N__law_rooms) (sc := defScope s__law_rooms) (by decide +kernel)) (fun _ _ _ _ _ => (pgd_name (i := 11) sc.nd rfl (by first | exact Or.inl rfl | exact Or.inr rfl) (hp := hp 11 rfl))) (fun _ _ _ _ _ => (ptd_one (pdw_bool (pdw_and (pdq_notin hr.units (pdv 11) (pdv 5)) (pdw_and1 (pdq_notin hr.units (pdv 11) (pdv 8))))))) (fun _ _ _ _ _ => (pdv 11)) (by decide) (pn1 (hp 11 rfl)) (hp := hp 12 rfl))
    (pds_one (pds_if (pdw_bool (pdw_and (pdq_ne hr.units (pdv 10) (pd_vis (pd_lst pdl_nil))) (pdw_and1 (pdw_bool (pdw_or (pdq_eq hr.units (pdv 12) (pd_vis (pd_lst pdl_nil))) (pdw_or1 (pdq_eq hr.units (pd_call c__law_draw hr tk (pdl_cons (pdv 0) (pdl_cons pdInt pdl_nil))) pdInt))))))) (pds_one (pds_expr (pd_mt (j := 8) PySem.F.slot_list_append PySem.F.type_list_append mt_append c_append rfl (by first | exact Or.inl rfl | exact Or.inr (Or.inl rfl) | exact Or.inr (Or.inr rfl)) (pdl_cons (pd_call c__law_pick hr tk (pdl_cons (pdv 0) (pdl_cons (pdv 10) pdl_nil))) pdl_nil)))) (pds_one (pds_if (pdq_ne hr.units (pdv 12) (pd_vis (pd_lst pdl_nil))) (pds_one (pds_expr (pd_mt (j := 8) PySem.F.slot_list_append PySem.F.type_list_append mt_append c_append rfl (by first | exact Or.inl rfl | exact Or.inr (Or.inl rfl) | exact Or.inr (Or.inr rfl)) (pdl_cons (pd_call c__law_pick hr tk (pdl_cons (pdv 0) (pdl_cons (pdv 12) pdl_nil))) pdl_nil)))) pds_nil)))))))
    (pds_one (pds_if (pdq_gt hr.units (pdf_len T.m_len (pdl_cons (pdv 8) pdl_nil)) pdInt) (pds_cons (pds_expr (pd_mt (j := 4) PySem.F.slot_list_append PySem.F.type_list_append mt_append c_append rfl (by first | exact Or.inl rfl | exact Or.inr (Or.inl rfl) | exact Or.inr (Or.inr rfl)) (pdl_cons (pdf_tuple T.m_tuple (pdl_cons (pd_vis (pdf_sorted hr.units T.m_sorted (pdl_cons (pdv 8) pdl_nil))) pdl_nil)) pdl_nil)))
    (pds_one (pds_set (i := 5) sc.nd rfl (by first | exact Or.inl rfl | exact Or.inr rfl) (pd_vis (pdb_cat (pdv 5) (pd_vis (pd_lc (own := [("one", 11)]) rfl sc.nd (pdi_l rfl (pdv 8)) (blkOk_by (N := N__law_rooms) (sc := defScope s__law_rooms) (by decide +kernel)) (fun _ _ _ _ _ => (pgd_name (i := 11) sc.nd rfl (by first | exact Or.inl rfl | exact Or.inr rfl) (hp := hp 11 rfl))) (fun _ _ _ _ _ => (ptd_one (pdq_notin hr.units (pdv 11) (pdv 5)))) (fun _ _ _ _ _ => (pdv 11)) (by decide) (pn1 (hp 11 rfl)))))) (hp := hp 5 rfl)))) pds_nil)))))
    (pds_one (pds_ret (pdv 4)))))

abbrev s__law_known : Stmt := topL 35
theorem sc__law_known : FnScope N__law_known ["rooms"] (defScope s__law_known) := ⟨rfl, rfl, rfl, by decide +kernel, rfl, by decide +kernel, by decide +kernel⟩
theorem ok__law_known {f : Addr} {fd : FuncData} (F : Fun k.K "_law_known" "_law_known" s__law_known f fd) (T : Tf k mg AD)  :
    FnOk P w k.K mg base (L2.CX P w) 1 f fd ["rooms"] (spD k [.v] false F__law_known) :=
  fn_okD F sc__law_known rfl (by decide) fun cdv A outer s H E p hr hp tk => by
    have sc := sc__law_known
    have hu1 := Nat.lt_of_le_of_lt (Nat.add_le_add_left (by decide : 1 ≤ 64) _) hr.units
    exact (pds_cons (pds_set (i := 1) sc.nd rfl (by first | exact Or.inl rfl | exact Or.inr rfl) (pd_vis (pd_lst pdl_nil)) (hp := hp 1 rfl))
    (pds_cons (pds_for (passes_of rfl) rfl (pdi_l rfl (pdv 0)) (pgd_name (i := 2) sc.nd rfl (by first | exact Or.inl rfl | exact Or.inr rfl) (hp := hp 2 rfl)) (pds_one (pds_set (i := 1) sc.nd rfl (by first | exact Or.inl rfl | exact Or.inr rfl) (pd_vis (pdb_cat (pdv 1) (pd_vis (pd_lc (own := [("one", 3)]) rfl sc.nd (pdi_t rfl (pdv 2)) (blkOk_by (N := N__law_known) (sc := defScope s__law_known) (by decide +kernel)) (fun _ _ _ _ _ => (pgd_name (i := 3) sc.nd rfl (by first | exact Or.inl rfl | exact Or.inr rfl) (hp := hp 3 rfl))) (fun _ _ _ _ _ => (ptd_one (pdq_notin hr.units (pdv 3) (pdv 1)))) (fun _ _ _ _ _ => (pdv 3)) (by decide) (pn1 (hp 3 rfl)))))) (hp := hp 1 rfl))))
    (pds_one (pds_ret (pd_vis (pdf_sorted hr.units T.m_sorted (pdl_cons (pdv 1) pdl_nil)))))))

abbrev s__law_told : Stmt := topL 36
theorem sc__law_told : FnScope N__law_told ["book", "size"] (defScope s__law_told) := ⟨rfl, rfl, rfl, by decide +kernel, rfl, by decide +kernel, by decide +kernel⟩
theorem ok__law_told {f : Addr} {fd : FuncData} (F : Fun k.K "_law_told" "_law_told" s__law_told f fd) (T : Tf k mg AD) {gV_k_apart_lots_book_size : List V → List V → List V} (k_apart_lots_book_size : Ck P w k.K mg base (L2.CX P w) 5 "apart_lots" ["book", "size"] ["book", "size"] gV_k_apart_lots_book_size (spD k [.v, .v] false F_apart_lots)) (hgv_k_apart_lots_book_size : ∀ zs, gV_k_apart_lots_book_size [] zs = [0, 1].filterMap (zs[·]?)) :
    FnOk P w k.K mg base (L2.CX P w) 6 f fd ["book", "size"] (spD k [.v, .v] false F__law_told) :=
  fn_okD F sc__law_told rfl (by decide) fun cdv A outer s H E p hr hp tk => by
    have sc := sc__law_told
    have hu1 := Nat.lt_of_le_of_lt (Nat.add_le_add_left (by decide : 1 ≤ 64) _) hr.units
    exact (pds_one (pds_try rfl rfl sc.nd tk rfl (fun W pn xe tkB poB => (pds_one (pds_ret (pd_vis (pd_lst (pdl_cons pdStr (pdl_cons (pd_kcall k_apart_lots_book_size hr tkB (pdk_cons (pdv 0) (pdk_cons (pdv 1) pdk_nil)) hgv_k_apart_lots_book_size) pdl_nil))))))) (.cons (cv := .ref (AD "InvalidNumber")) ⟨rfl, by decide, Or.inl T.x_InvalidNumber⟩ ⟨rfl, rfl⟩ (hp 2 rfl) T.h_InvalidNumber (fun a oe cls d pn c C x kp hz hf hsel hec hcl hkp => (pds_one (pds_ret (pd_vis (pd_lst (pdl_cons pdStr (pdl_cons (T.fd ▸ pd_xf (i := 2) T.er hz hf hec hcl hkp) pdl_nil))))))) (.cons (cv := .ref (AD "Refused")) ⟨rfl, by decide, Or.inl T.x_Refused⟩ ⟨rfl, rfl⟩ (hp 2 rfl) T.h_Refused (fun a oe cls d pn c C x kp hz hf hsel hec hcl hkp => (pds_one (pds_ret (pd_vis (pd_lst (pdl_cons pdStr (pdl_cons (T.fd ▸ pd_xf (i := 2) T.er hz hf hec hcl hkp) pdl_nil))))))) (.cons (cv := .ref (AD "RoomError")) ⟨rfl, by decide, Or.inl T.x_RoomError⟩ trivial trivial T.h_RoomError (fun a oe cls d pn c C x kp hz hf hsel hec hcl hkp => (pds_one (pds_ret (pd_vis (pd_lst (pdl_cons pdStr pdl_nil)))))) .nil)))))

abbrev s__law_lots : Stmt := topL 37
theorem sc__law_lots : FnScope N__law_lots ["rooms", "many"] (defScope s__law_lots) := ⟨rfl, rfl, rfl, by decide +kernel, rfl, by decide +kernel, by decide +kernel⟩
theorem ok__law_lots {f : Addr} {fd : FuncData} (F : Fun k.K "_law_lots" "_law_lots" s__law_lots f fd) (T : Tf k mg AD) (c__law_known : Cl P w k.K mg base (L2.CX P w) 1 "_law_known" ["rooms"] (spD k [.v] false F__law_known)) (c__law_apart : Cl P w k.K mg base (L2.CX P w) 1 "_law_apart" ["rooms", "taken", "one"] (spD k [.v, .v, .v] false F__law_apart)) :
    FnOk P w k.K mg base (L2.CX P w) 2 f fd ["rooms", "many"] (spD k [.v, .v] false F__law_lots) :=
  fn_okD F sc__law_lots rfl (by decide) fun cdv A outer s H E p hr hp tk => by
    have sc := sc__law_lots
    have hu1 := Nat.lt_of_le_of_lt (Nat.add_le_add_left (by decide : 1 ≤ 64) _) hr.units
    exact (pds_cons (pds_set (i := 2) sc.nd rfl (by first | exact Or.inl rfl | exact Or.inr rfl) (pd_call c__law_known hr tk (pdl_cons (pdv 0) pdl_nil)) (hp := hp 2 rfl))
    (pds_cons (pds_parT (i := 3) (j := 4) (c1 := (.n (fun e => .ok (.dic false []) e))) (c2 := (.n (eLst (lCons (eVis (eLst (lCons (eTup lNil) lNil))) lNil)))) rfl sc.nd rfl rfl (by decide) (by first | exact Or.inl rfl | exact Or.inr rfl) (by first | exact Or.inl rfl | exact Or.inr rfl) pd_newK (pd_lst (pdl_cons (pd_vis (pd_lst (pdl_cons (pd_tup pdl_nil) pdl_nil))) pdl_nil)) (hp 3 rfl) (hp 4 rfl))
    (pds_cons (pds_for (passes_of rfl) rfl (pdi_l rfl (pdv 2)) (pgd_name (i := 5) sc.nd rfl (by first | exact Or.inl rfl | exact Or.inr rfl) (hp := hp 5 rfl)) (pds_one (pds_putD (j := 3) hu1 rfl (by first | exact Or.inl rfl | exact Or.inr (Or.inl rfl) | exact Or.inr (Or.inr rfl)) (pdv 5) (pd_vis (pd_lc (own := [("other", 6)]) rfl sc.nd (pdi_l rfl (pdv 2)) (blkOk_by (N := N__law_lots) (sc := defScope s__law_lots) (by decide +kernel)) (fun _ _ _ _ _ => (pgd_name (i := 6) sc.nd rfl (by first | exact Or.inl rfl | exact Or.inr rfl) (hp := hp 6 rfl))) (fun _ _ _ _ _ => (ptd_one (pdw_bool (pdw_and (pdq_gt hr.units (pdv 6) (pdv 5)) (pdw_and1 (pdq_tru (pd_call c__law_apart hr takes0 (pdl_cons (pdv 0) (pdl_cons (pd_vis (pd_lst (pdl_cons (pdv 5) pdl_nil))) (pdl_cons (pdv 6) pdl_nil)))))))))) (fun _ _ _ _ _ => (pdv 6)) (by decide) (pn1 (hp 6 rfl)))) (by rfl))))
    (pds_cons (pds_for (passes_of rfl) rfl (pdi_r2 (by rfl) T.m_range (pdl_cons pdInt (pdl_cons pdInt pdl_nil))) (pgd_name (i := 7) sc.nd rfl (by first | exact Or.inl rfl | exact Or.inr rfl) (hp := hp 7 rfl)) (pds_cons (pds_set (i := 8) sc.nd rfl (by first | exact Or.inl rfl | exact Or.inr rfl) (pd_vis (pd_lst pdl_nil)) (hp := hp 8 rfl))
    (pds_cons (pds_if (pdq_gt hr.units (pdf_len T.m_len (pdl_cons (pdx (pdv 4) (pdu_neg pdInt)) pdl_nil)) (pdv 1)) (pds_one pds_break) pds_nil)
    (pds_cons (pds_for (passes_of rfl) rfl (pdi_l rfl (pdx (pdv 4) (pdu_neg pdInt))) (pgd_name (i := 9) sc.nd rfl (by first | exact Or.inl rfl | exact Or.inr rfl) (hp := hp 9 rfl)) (pds_one (pds_if (pdq_eq hr.units (pdv 9) (pd_tup pdl_nil)) (pds_one (pds_setLc (i := 8) (own := [("one", 5)]) rfl sc.nd rfl rfl rfl (pdi_l rfl (pdv 2)) (blkOk_by (N := N__law_lots) (sc := defScope s__law_lots) (by decide +kernel)) (fun _ _ _ _ _ => (pgd_name (i := 5) sc.nd rfl (by first | exact Or.inl rfl | exact Or.inr rfl) (hp := hp 5 rfl))) (fun _ _ _ _ _ => ptd_nil) (fun _ _ _ _ _ => (pd_tup (pdl_cons (pdv 5) pdl_nil))) (by decide) (pn1 (hp 5 rfl)) (hp := hp 8 rfl))) (pds_cons (pds_setLc (i := 10) (own := [("one", 5)]) rfl sc.nd rfl rfl rfl (pdi_l rfl (pdx_d hr.units (pdv 3) (pdx (pdv 9) (pdu_neg pdInt)))) (blkOk_by (N := N__law_lots) (sc := defScope s__law_lots) (by decide +kernel)) (fun _ _ _ _ _ => (pgd_name (i := 5) sc.nd rfl (by first | exact Or.inl rfl | exact Or.inr rfl) (hp := hp 5 rfl))) (fun _ _ _ _ _ => (ptd_one (pdq_tru (pdf_all T.m_all (pdl_cons (pd_vis (pd_lc (own := [("other", 6)]) rfl sc.nd (pdi_t rfl (pdv 9)) (by dsimp only [L2.Cx.blk, compEnvC]; exact blkOk_by (by rfl)) (fun _ _ _ _ _ => (pgd_name (i := 6) sc.nd rfl (by first | exact Or.inl rfl | exact Or.inr rfl) (hp := hp 6 rfl))) (fun _ _ _ _ _ => ptd_nil) (fun _ _ _ _ _ => (pdc_in hr.units (pdv 5) (pdx_d hr.units (pdv 3) (pdv 6)))) (by decide) (pn1 (hp 6 rfl)))) pdl_nil))))) (fun _ _ _ _ _ => (pdv 5)) (by decide) (pn1 (hp 5 rfl)) (hp := hp 10 rfl))
    (pds_one (pds_set (i := 8) sc.nd rfl (by first | exact Or.inl rfl | exact Or.inr rfl) (pd_vis (pdb_cat (pdv 8) (pd_vis (pd_lc (own := [("one", 5)]) rfl sc.nd (pdi_l rfl (pdv 10)) (blkOk_by (N := N__law_lots) (sc := defScope s__law_lots) (by decide +kernel)) (fun _ _ _ _ _ => (pgd_name (i := 5) sc.nd rfl (by first | exact Or.inl rfl | exact Or.inr rfl) (hp := hp 5 rfl))) (fun _ _ _ _ _ => ptd_nil) (fun _ _ _ _ _ => (pdb_add (pdv 9) (pd_tup (pdl_cons (pdv 5) pdl_nil)))) (by decide) (pn1 (hp 5 rfl)))))) (hp := hp 8 rfl)))))))
    (pds_one (pds_expr (pd_mt (j := 4) PySem.F.slot_list_append PySem.F.type_list_append mt_append c_append rfl (by first | exact Or.inl rfl | exact Or.inr (Or.inl rfl) | exact Or.inr (Or.inr rfl)) (pdl_cons (pdv 8) pdl_nil))))))))
    (pds_one (pds_ret (pdv 4)))))))

abbrev s__law_bounds : Stmt := topL 38
theorem sc__law_bounds : FnScope N__law_bounds ["names", "many"] (defScope s__law_bounds) := ⟨rfl, rfl, rfl, by decide +kernel, rfl, by decide +kernel, by decide +kernel⟩
theorem ok__law_bounds {f : Addr} {fd : FuncData} (F : Fun k.K "_law_bounds" "_law_bounds" s__law_bounds f fd) (T : Tf k mg AD) (c_Book : Cc P w k.K mg base (L2.CX P w) 3 "Book" (AD "Book") ["self", "rooms"] (spD k [.o, .v] false F_Book___init__)) (c__law_told : Cl P w k.K mg base (L2.CX P w) 6 "_law_told" ["book", "size"] (spD k [.v, .v] false F__law_told)) :
    FnOk P w k.K mg base (L2.CX P w) 7 f fd ["names", "many"] (spD k [.v, .v] false F__law_bounds) :=
  fn_okD F sc__law_bounds rfl (by decide) fun cdv A outer s H E p hr hp tk => by
    have sc := sc__law_bounds
    have hu1 := Nat.lt_of_le_of_lt (Nat.add_le_add_left (by decide : 1 ≤ 64) _) hr.units
    exact (pds_cons (pds_par (i := 2) (j := 3) (c1 := (.v (eVis (eLc (iR1 (lCons (eVar 1) lNil)) (gN 4) qYes (eCB (un dTuple) (lCons (eVis (eCBN (un dSorted) (lCons (eVis (eSlN dCutL (eVar 0) (qO (eOp dMul (eC (.int 3)) (eVar 4))) (qO (eOp dAdd (eOp dMul (eC (.int 3)) (eVar 4)) (eC (.int 3)))))) lNil))) lNil)) [4])))) (c2 := (.n (eLst lNil))) rfl sc.nd rfl rfl (by decide) rfl rfl (pd_vis (pd_lc (own := [("at", 4)]) rfl sc.nd (pdi_r1 (by rfl) T.m_range (pdl_cons (pdv 1) pdl_nil)) (blkOk_by (N := N__law_bounds) (sc := defScope s__law_bounds) (by decide +kernel)) (fun _ _ _ _ _ => (pgd_name (i := 4) sc.nd rfl (by first | exact Or.inl rfl | exact Or.inr rfl) (hp := hp 4 rfl))) (fun _ _ _ _ _ => ptd_nil) (fun _ _ _ _ _ => (pdf_tuple T.m_tuple (pdl_cons (pd_vis (pdf_sorted hr.units T.m_sorted (pdl_cons (pd_vis (pdsl_L (pdv 0) (pdo_some (pdb_mul pdInt (pdv 4))) (pdo_some (pdb_add (pdb_mul pdInt (pdv 4)) pdInt)))) pdl_nil))) pdl_nil))) (by decide) (pn1 (hp 4 rfl)))) (pd_lst pdl_nil) (by rfl) (hp 2 rfl) (hp 3 rfl))
    (pds_cons (pds_set (i := 5) sc.nd rfl (by first | exact Or.inl rfl | exact Or.inr rfl) (pd_vis (pd_make c_Book T.hc_Book hr tk (pdl_cons (pdf_tuple T.m_tuple (pdl_cons (pdv 2) pdl_nil)) pdl_nil))) (hp := hp 5 rfl))
    (pds_cons (pds_for (passes_of rfl) rfl (pdi_r2 (by rfl) T.m_range (pdl_cons (pd_if (pdq_eq hr.units (pdv 1) pdInt) pdInt pdInt) (pdl_cons pdInt pdl_nil))) (pgd_name (i := 6) sc.nd rfl (by first | exact Or.inl rfl | exact Or.inr rfl) (hp := hp 6 rfl)) (pds_one (pds_if (pdq_ne hr.units (pd_call c__law_told hr tk (pdl_cons (pdv 5) (pdl_cons (pdv 6) pdl_nil))) (pd_vis (pd_lst (pdl_cons pdStr (pdl_cons pdStr pdl_nil))))) (pds_one (pds_ret pdBl)) pds_nil)))
    (pds_cons (pds_for (passes_of rfl) rfl (pdi_r1 (by rfl) T.m_range (pdl_cons (pd_if (pdq_eq hr.units (pdv 1) pdInt) (pdv 1) pdInt) pdl_nil)) (pgd_name (i := 7) sc.nd rfl (by first | exact Or.inl rfl | exact Or.inr rfl) (hp := hp 7 rfl)) (pds_one (pds_for (passes_of rfl) rfl (pdi_r2 (by rfl) T.m_range (pdl_cons (pdb_add (pdv 7) pdInt) (pdl_cons (pdv 1) pdl_nil))) (pgd_name (i := 8) sc.nd rfl (by first | exact Or.inl rfl | exact Or.inr rfl) (hp := hp 8 rfl)) (pds_one (pds_for (passes_of rfl) rfl (pdi_r2 (by rfl) T.m_range (pdl_cons (pdb_add (pdv 8) pdInt) (pdl_cons (pdv 1) pdl_nil))) (pgd_name (i := 9) sc.nd rfl (by first | exact Or.inl rfl | exact Or.inr rfl) (hp := hp 9 rfl)) (pds_one (pds_for (passes_of rfl) rfl (pdi_t rfl (pdx (pdv 2) (pdv 7))) (pgd_name (i := 10) sc.nd rfl (by first | exact Or.inl rfl | exact Or.inr rfl) (hp := hp 10 rfl)) (pds_one (pds_for (passes_of rfl) rfl (pdi_t rfl (pdx (pdv 2) (pdv 8))) (pgd_name (i := 11) sc.nd rfl (by first | exact Or.inl rfl | exact Or.inr rfl) (hp := hp 11 rfl)) (pds_one (pds_expr (pd_mt (j := 3) PySem.F.slot_list_extend PySem.F.type_list_extend mt_extend c_extend rfl (by first | exact Or.inl rfl | exact Or.inr (Or.inl rfl) | exact Or.inr (Or.inr rfl)) (pdl_cons (pd_vis (pd_lc (own := [("last", 12)]) rfl sc.nd (pdi_t rfl (pdx (pdv 2) (pdv 9))) (blkOk_by (N := N__law_bounds) (sc := defScope s__law_bounds) (by decide +kernel)) (fun _ _ _ _ _ => (pgd_name (i := 12) sc.nd rfl (by first | exact Or.inl rfl | exact Or.inr rfl) (hp := hp 12 rfl))) (fun _ _ _ _ _ => ptd_nil) (fun _ _ _ _ _ => (pdf_tuple T.m_tuple (pdl_cons (pd_vis (pdf_sorted hr.units T.m_sorted (pdl_cons (pd_vis (pd_lst (pdl_cons (pdv 10) (pdl_cons (pdv 11) (pdl_cons (pdv 12) pdl_nil))))) pdl_nil))) pdl_nil))) (by decide) (pn1 (hp 12 rfl)))) pdl_nil)))))))))))))
    (pds_one (pds_ret (pdn_or (pdc_eq hr.units (pdv 1) pdInt) (pdn_one (pdn_and (pdc_eq hr.units (pdf_len T.m_len (pdl_cons (pdv 3) pdl_nil)) pdInt) (pdn_one (pdc_eq hr.units (pd_call c__law_told hr tk (pdl_cons (pdv 5) (pdl_cons pdInt pdl_nil))) (pd_vis (pd_lst (pdl_cons pdStr (pdl_cons (pdf_tuple T.m_tuple (pdl_cons (pd_vis (pdf_sorted hr.units T.m_sorted (pdl_cons (pdv 3) pdl_nil))) pdl_nil)) pdl_nil)))))))))))))))

abbrev s__law_later : Stmt := topL 39
theorem sc__law_later : FnScope N__law_later ["names"] (defScope s__law_later) := ⟨rfl, rfl, rfl, by decide +kernel, rfl, by decide +kernel, by decide +kernel⟩
theorem ok__law_later {f : Addr} {fd : FuncData} (F : Fun k.K "_law_later" "_law_later" s__law_later f fd) (T : Tf k mg AD) (c_Book : Cc P w k.K mg base (L2.CX P w) 3 "Book" (AD "Book") ["self", "rooms"] (spD k [.o, .v] false F_Book___init__)) (c__law_told : Cl P w k.K mg base (L2.CX P w) 6 "_law_told" ["book", "size"] (spD k [.v, .v] false F__law_told)) :
    FnOk P w k.K mg base (L2.CX P w) 7 f fd ["names"] (spD k [.v] false F__law_later) :=
  fn_okD F sc__law_later rfl (by decide) fun cdv A outer s H E p hr hp tk => by
    have sc := sc__law_later
    have hu1 := Nat.lt_of_le_of_lt (Nat.add_le_add_left (by decide : 1 ≤ 64) _) hr.units
    exact (pds_cons (pds_set (i := 1) sc.nd rfl (by first | exact Or.inl rfl | exact Or.inr rfl) (pd_vis (pd_lst (pdl_cons pdInt (pdl_cons pdInt (pdl_cons pdInt (pdl_cons pdInt (pdl_cons pdInt (pdl_cons pdInt pdl_nil)))))))) (hp := hp 1 rfl))
    (pds_cons (pds_setLc (i := 2) (own := [("at", 3)]) rfl sc.nd rfl rfl rfl (pdi_r1 (by rfl) T.m_range (pdl_cons pdInt pdl_nil)) (blkOk_by (N := N__law_later) (sc := defScope s__law_later) (by decide +kernel)) (fun _ _ _ _ _ => (pgd_name (i := 3) sc.nd rfl (by first | exact Or.inl rfl | exact Or.inr rfl) (hp := hp 3 rfl))) (fun _ _ _ _ _ => ptd_nil) (fun _ _ _ _ _ => (pdf_tuple T.m_tuple (pdl_cons (pd_vis (pdf_sorted hr.units T.m_sorted (pdl_cons (pd_vis (pdsl_L (pdv 0) (pdo_some (pdx (pdv 1) (pdv 3))) (pdo_some (pdx (pdv 1) (pdb_add (pdv 3) pdInt))))) pdl_nil))) pdl_nil))) (by decide) (pn1 (hp 3 rfl)) (hp := hp 2 rfl))
    (pds_one (pds_ret (pdc_eq hr.units (pd_call c__law_told hr tk (pdl_cons (pd_vis (pd_make c_Book T.hc_Book hr tk (pdl_cons (pdf_tuple T.m_tuple (pdl_cons (pdv 2) pdl_nil)) pdl_nil))) (pdl_cons pdInt pdl_nil))) (pd_vis (pd_lst (pdl_cons pdStr (pdl_cons pdStr pdl_nil)))))))))

abbrev s__law_edge : Stmt := topL 40
theorem sc__law_edge : FnScope N__law_edge ["names"] (defScope s__law_edge) := ⟨rfl, rfl, rfl, by decide +kernel, rfl, by decide +kernel, by decide +kernel⟩
theorem ok__law_edge {f : Addr} {fd : FuncData} (F : Fun k.K "_law_edge" "_law_edge" s__law_edge f fd) (T : Tf k mg AD) (c__law_lots : Cl P w k.K mg base (L2.CX P w) 2 "_law_lots" ["rooms", "many"] (spD k [.v, .v] false F__law_lots)) (c_Book : Cc P w k.K mg base (L2.CX P w) 3 "Book" (AD "Book") ["self", "rooms"] (spD k [.o, .v] false F_Book___init__)) (c__law_told : Cl P w k.K mg base (L2.CX P w) 6 "_law_told" ["book", "size"] (spD k [.v, .v] false F__law_told)) :
    FnOk P w k.K mg base (L2.CX P w) 7 f fd ["names"] (spD k [.v] false F__law_edge) :=
  fn_okD F sc__law_edge rfl (by decide) fun cdv A outer s H E p hr hp tk => by
    have sc := sc__law_edge
    have hu1 := Nat.lt_of_le_of_lt (Nat.add_le_add_left (by decide : 1 ≤ 64) _) hr.units
    exact (pds_cons (pds_for (passes_of rfl) rfl (pdi_l rfl (pd_vis (pd_lst (pdl_cons (pd_tup (pdl_cons pdStr (pdl_cons pdInt pdl_nil))) (pdl_cons (pd_tup (pdl_cons pdStr (pdl_cons pdInt pdl_nil))) pdl_nil))))) (pgd_tup rfl rfl (pgds_cons (pgd_name (i := 1) sc.nd rfl (by first | exact Or.inl rfl | exact Or.inr rfl) (hp := hp 1 rfl)) (pgds_cons (pgd_name (i := 2) sc.nd rfl (by first | exact Or.inl rfl | exact Or.inr rfl) (hp := hp 2 rfl)) pgds_nil)) (gs_cons_len (gs_cons_len gs_nil_len))) (pds_cons (pds_setLc (i := 3) (own := [("word", 5)]) rfl sc.nd rfl rfl rfl (pdi_l rfl (pd_vis (pd_split (pdv 1) pdStr))) (blkOk_by (N := N__law_edge) (sc := defScope s__law_edge) (by decide +kernel)) (fun _ _ _ _ _ => (pgd_name (i := 5) sc.nd rfl (by first | exact Or.inl rfl | exact Or.inr rfl) (hp := hp 5 rfl))) (fun _ _ _ _ _ => ptd_nil) (fun _ _ _ _ _ => (pdf_tuple T.m_tuple (pdl_cons (pd_vis (pdf_sorted hr.units T.m_sorted (pdl_cons (pd_vis (pd_lc (own := [("letter", 4)]) rfl sc.nd (pdi_s (pdv 5)) (by dsimp only [L2.Cx.blk, compEnvC]; exact blkOk_by (by rfl)) (fun _ _ _ _ _ => (pgd_name (i := 4) sc.nd rfl (by first | exact Or.inl rfl | exact Or.inr rfl) (hp := hp 4 rfl))) (fun _ _ _ _ _ => ptd_nil) (fun _ _ _ _ _ => (pdx (pdv 0) (pdb_sub (pdf_ord T.m_ord (pdl_cons (pdv 4) pdl_nil)) pdInt))) (by decide) (pn1 (hp 4 rfl)))) pdl_nil))) pdl_nil))) (by decide) (pn1 (hp 5 rfl)) (hp := hp 3 rfl))
    (pds_cons (pds_par (i := 6) (j := 7) (c1 := (.v (eCB (un dTuple) (lCons (eOp dIx (eCall [.v, .v] F__law_lots (lCons (eVar 3) (lCons (eC (.int 300)) lNil))) (eC (.int 3))) lNil)))) (c2 := (.v (eCall [.v, .v] F__law_told (lCons (eVis (eMake "Book" [.v] F_Book___init__ (lCons (eCB (un dTuple) (lCons (eVar 3) lNil)) lNil))) (lCons (eC (.int 3)) lNil))))) rfl sc.nd rfl rfl (by decide) rfl rfl (pdf_tuple T.m_tuple (pdl_cons (pdx (pd_call c__law_lots hr tk (pdl_cons (pdv 3) (pdl_cons pdInt pdl_nil))) pdInt) pdl_nil)) (pd_call c__law_told hr tk (pdl_cons (pd_vis (pd_make c_Book T.hc_Book hr tk (pdl_cons (pdf_tuple T.m_tuple (pdl_cons (pdv 3) pdl_nil)) pdl_nil))) (pdl_cons pdInt pdl_nil))) (by rfl) (hp 6 rfl) (hp 7 rfl))
    (pds_one (pds_if (pdw_bool (pdw_or (pdq_ne hr.units (pdf_len T.m_len (pdl_cons (pdv 6) pdl_nil)) (pdv 2)) (pdw_or1 (pdq_ne hr.units (pdv 7) (pd_if (pdq_eq hr.units (pdv 2) pdInt) (pd_vis (pd_lst (pdl_cons pdStr (pdl_cons (pdv 6) pdl_nil)))) (pd_vis (pd_lst (pdl_cons pdStr (pdl_cons pdStr pdl_nil))))))))) (pds_one (pds_ret pdBl)) pds_nil)))))
    (pds_one (pds_ret pdBl)))

abbrev s_law : Stmt := topL 41
theorem sc_law : FnScope N_law ["script"] (defScope s_law) := ⟨rfl, rfl, rfl, by decide +kernel, rfl, by decide +kernel, by decide +kernel⟩
theorem ok_law {f : Addr} {fd : FuncData} (F : Fun k.K "law" "law" s_law f fd) (T : Tf k mg AD) (c__law_heap : Cl P w k.K mg base (L2.CX P w) 1 "_law_heap" ["script"] (spHeapD k hpF)) (c__law_names : Cl P w k.K mg base (L2.CX P w) 3 "_law_names" ["heap", "many"] (spD k [.h, .v] false F__law_names)) (c__law_draw : Cl P w k.K mg base (L2.CX P w) 1 "_law_draw" ["heap", "many"] (spD k [.h, .v] false F__law_draw)) (c__law_rooms : Cl P w k.K mg base (L2.CX P w) 3 "_law_rooms" ["heap", "names", "many", "most"] (spD k [.h, .v, .v, .v] false F__law_rooms)) (c__law_bounds : Cl P w k.K mg base (L2.CX P w) 7 "_law_bounds" ["names", "many"] (spD k [.v, .v] false F__law_bounds)) (c__law_later : Cl P w k.K mg base (L2.CX P w) 7 "_law_later" ["names"] (spD k [.v] false F__law_later)) (c__law_edge : Cl P w k.K mg base (L2.CX P w) 7 "_law_edge" ["names"] (spD k [.v] false F__law_edge)) (c_Book : Cc P w k.K mg base (L2.CX P w) 3 "Book" (AD "Book") ["self", "rooms"] (spD k [.o, .v] false F_Book___init__)) (c__law_lots : Cl P w k.K mg base (L2.CX P w) 2 "_law_lots" ["rooms", "many"] (spD k [.v, .v] false F__law_lots)) (c__law_told : Cl P w k.K mg base (L2.CX P w) 6 "_law_told" ["book", "size"] (spD k [.v, .v] false F__law_told)) :
    FnOk P w k.K mg base CX0 8 f fd ["script"] (fun vs H Q _ => spD k [.v] false F_law vs H Q (fun _ _ _ => False)) :=
  fn_okD0 F sc_law rfl (by decide) fun cdv A outer s H E p hr hp tk => by
    have sc := sc_law
    have hu1 := Nat.lt_of_le_of_lt (Nat.add_le_add_left (by decide : 1 ≤ 64) _) hr.units
    exact (pds_cons (pds_heap (i := 1) c__law_heap hr tk sc.nd rfl (by first | exact Or.inl rfl | exact Or.inr rfl) (pdl_cons (pdv 0) pdl_nil) (hp := hp 1 rfl))
    (pds_cons (pds_set (i := 2) sc.nd rfl (by first | exact Or.inl rfl | exact Or.inr rfl) (pd_call c__law_names hr tk (pdl_cons (pdv 1) (pdl_cons pdInt pdl_nil))) (hp := hp 2 rfl))
    (pds_cons (pds_set (i := 3) sc.nd rfl (by first | exact Or.inl rfl | exact Or.inr rfl) (pd_call c__law_rooms hr tk (pdl_cons (pdv 1) (pdl_cons (pdv 2) (pdl_cons (pdb_add pdInt (pd_call c__law_draw hr tk (pdl_cons (pdv 1) (pdl_cons pdInt pdl_nil)))) (pdl_cons (pdb_add pdInt (pd_call c__law_draw hr tk (pdl_cons (pdv 1) (pdl_cons pdInt pdl_nil)))) pdl_nil))))) (hp := hp 3 rfl))
    (pds_cons (pds_set (i := 4) sc.nd rfl (by first | exact Or.inl rfl | exact Or.inr rfl) (pd_call c__law_draw hr tk (pdl_cons (pdv 1) (pdl_cons pdInt pdl_nil))) (hp := hp 4 rfl))
    (pds_cons (pds_if (pdw_bool (pdw_and (pdq_lt hr.units (pdv 4) pdInt) (pdw_and1 (pdw_not (pdq_tru (pd_call c__law_bounds hr tk (pdl_cons (pdv 2) (pdl_cons (pdb_add pdInt (pdv 4)) pdl_nil)))))))) (pds_one (pds_ret pdBl)) pds_nil)
    (pds_cons (pds_if (pdw_bool (pdw_and (pdq_eq hr.units (pdv 4) pdInt) (pdw_and1 (pdw_not (pdq_tru (pd_call c__law_later hr tk (pdl_cons (pdv 2) pdl_nil))))))) (pds_one (pds_ret pdBl)) pds_nil)
    (pds_cons (pds_if (pdw_bool (pdw_and (pdq_eq hr.units (pdv 4) pdInt) (pdw_and1 (pdw_not (pdq_tru (pd_call c__law_edge hr tk (pdl_cons (pdv 2) pdl_nil))))))) (pds_one (pds_ret pdBl)) pds_nil)
    (pds_cons (pds_par (i := 5) (j := 6) (c1 := (.v (eVis (eMake "Book" [.v] F_Book___init__ (lCons (eCB (un dTuple) (lCons (eVar 3) lNil)) lNil))))) (c2 := (.v (eCall [.v, .v] F__law_lots (lCons (eVar 3) (lCons (eC (.int 60)) lNil))))) rfl sc.nd rfl rfl (by decide) rfl rfl (pd_vis (pd_make c_Book T.hc_Book hr tk (pdl_cons (pdf_tuple T.m_tuple (pdl_cons (pdv 3) pdl_nil)) pdl_nil))) (pd_call c__law_lots hr tk (pdl_cons (pdv 3) (pdl_cons pdInt pdl_nil))) (by rfl) (hp 5 rfl) (hp 6 rfl))
    (pds_cons (pds_for (PassesOwn.never) rfl (pdi_r1 (by rfl) T.m_range (pdl_cons (pdf_len T.m_len (pdl_cons (pdv 6) pdl_nil)) pdl_nil)) (pgd_name (i := 7) sc.nd rfl (by first | exact Or.inl rfl | exact Or.inr rfl) (hp := hp 7 rfl)) (pds_one (pds_if (pdq_ne hr.units (pd_call c__law_told hr tk (pdl_cons (pdv 5) (pdl_cons (pdv 7) pdl_nil))) (pd_vis (pd_lst (pdl_cons pdStr (pdl_cons (pdf_tuple T.m_tuple (pdl_cons (pdx (pdv 6) (pdv 7)) pdl_nil)) pdl_nil))))) (pds_one (pds_ret pdBl)) pds_nil)))
    (pds_cons (pds_for (PassesOwn.never) rfl (pdi_l rfl (pd_vis (pd_lst (pdl_cons (pdu_neg pdInt) (pdl_cons pdInt (pdl_cons pdInt (pdl_cons pdNon (pdl_cons pdStr (pdl_cons pdBl (pdl_cons (pd_tup (pdl_cons pdInt pdl_nil)) (pdl_cons (pd_vis (pd_lst pdl_nil)) pdl_nil))))))))))) (pgd_name (i := 8) sc.nd rfl (by first | exact Or.inl rfl | exact Or.inr rfl) (hp := hp 8 rfl)) (pds_one (pds_if (pdq_ne hr.units (pd_call c__law_told hr tk (pdl_cons (pdv 5) (pdl_cons (pdv 8) pdl_nil))) (pd_vis (pd_lst (pdl_cons pdStr (pdl_cons pdStr pdl_nil))))) (pds_one (pds_ret pdBl)) pds_nil)))
    (pds_one (pds_ret (pdc_eq hr.units (pd_call c__law_told hr tk (pdl_cons (pdv 5) (pdl_cons pdInt pdl_nil))) (pd_vis (pd_lst (pdl_cons pdStr (pdl_cons (pdf_tuple T.m_tuple (pdl_cons (pdx (pdv 6) pdInt) pdl_nil)) pdl_nil)))))))))))))))))

end
end Q06


set_option Elab.async false
set_option linter.all false
set_option maxRecDepth 100000
set_option maxHeartbeats 1000000
/-! EV2: sorted lists of texts, books as data. -/
namespace PD
open PySem PySem.Spec PyProof.Rows L2 RK
theorem leD_str (a b : Str) : leD (.str a) (.str b) = leS a b := by
  unfold leD leS
  rw [show pyD (.str b) = .str b from rfl, show pyD (.str a) = .str a from rfl, PySem.W.dataLt_str]
  rfl
theorem sortOk_strs (l : List Str) : SortOk (l.map .str) := by
  refine ⟨fun d hd => ?_, fun d hd d' hd' => ?_, .inr fun d hd => ?_, fun d hd => ?_⟩
  · obtain ⟨x, _, rfl⟩ := List.mem_map.mp hd; rfl
  · rw [List.map_map] at hd hd'
    obtain ⟨x, _, rfl⟩ := List.mem_map.mp hd
    obtain ⟨y, _, rfl⟩ := List.mem_map.mp hd'
    rfl
  · rw [List.map_map] at hd
    obtain ⟨x, _, rfl⟩ := List.mem_map.mp hd
    exact ⟨fun z => (by cases (show PyData.str x = .none from z)), fun xs z => (by cases (show PyData.str x = .tuple xs from z))⟩
  · obtain ⟨x, _, rfl⟩ := List.mem_map.mp hd
    exact Nat.zero_le _
@[simp] theorem sorted_strs (l : List Str) : dSorted (.lst (l.map .str)) = some (.lst ((sortS l).map .str)) := by
  unfold dSorted
  dsimp only
  rw [if_pos (sortOk_strs l)]
  unfold sortD sortS
  rw [List.map_mergeSort (s := leD) fun a _ b _ => (leD_str a b).symm]
theorem keysS_sK {α : Type} (f : α → D) : ∀ ks : List (Str × α), keysS (sK f ks) = some (ks.map (·.1))
  | [] => rfl
  | (x, a) :: r => by
    show (keysS (sK f r)).map (x :: ·) = _
    rw [keysS_sK f r]
    rfl
theorem sortedK_sK {α : Type} (f : α → D) (ks : List (Str × α)) (h : ks.length < 64) : dSortedK (.dic false (sK f ks)) = some (.lst ((sortS (ks.map (·.1))).map .str)) := by
  show (match keysS (sK f ks) with
    | some xs => if xs.length < 64 then some (D.lst ((sortS xs).map .str)) else none
    | none => none) = _
  rw [keysS_sK]
  show (if _ then _ else _) = _
  rw [if_pos (by rw [List.length_map]; exact h)]
theorem risingS_of : ∀ (p : Str) (l : List Str), (p :: l).Pairwise LeS → risingS p l = true
  | _, [], _ => rfl
  | p, x :: r, h => by
    rw [List.pairwise_cons] at h
    show (!ltCps x.cps.toList p.cps.toList && risingS x r) = true
    rw [risingS_of x r h.2, Bool.and_true]
    have := h.1 x List.mem_cons_self
    cases hc : ltCps x.cps.toList p.cps.toList with
    | false => rfl
    | true => exact absurd ((ltCps_iff _ _).mp hc) this
theorem sortedS_of {l : List Str} (h : l.Pairwise LeS) : sortedS l = true := by
  cases l with
  | nil => rfl
  | cons x r => exact risingS_of x r h
theorem sortS_sorted (l : List Str) : sortedS (sortS l) = true := sortedS_of (sortS_le l)
theorem sortS_asc {l : List Str} (h : l.Nodup) : Asc (sortS l) := by
  have h1 := sortS_le l
  have h2 : (sortS l).Pairwise (· ≠ ·) := (sortS_perm l).nodup_iff.mpr h
  exact (h1.and h2).imp fun ⟨a, b⟩ => by
    refine Classical.byContradiction fun c => b (ltS_tri c a)
theorem mem_sortS {l : List Str} {x : Str} : x ∈ sortS l ↔ x ∈ l := (sortS_perm l).mem_iff
/-! ### dicts made in turn -/
theorem putS_new {α : Type} {ks : List (Str × α)} {x : Str} {a : α} (h : x ∉ ks.map (·.1)) : putS ks x a = ks ++ [(x, a)] := by
  unfold putS
  rw [if_neg]
  intro z
  obtain ⟨p, hp, e⟩ := List.any_eq_true.mp z
  exact h (List.mem_map.mpr ⟨p, hp, of_decide_eq_true e⟩)
theorem foldl_put {α β : Type} (kf : α → Str) (F : α → β) : ∀ (xs : List α) (acc : List (Str × β)), (acc.map (·.1) ++ xs.map kf).Nodup → xs.foldl (fun a x => putS a (kf x) (F x)) acc = acc ++ xs.map fun x => (kf x, F x)
  | [], acc, _ => by simp
  | x :: xs, acc, h => by
    rw [List.map_cons] at h
    have hx : kf x ∉ acc.map (·.1) := fun z => (List.nodup_append.mp h).2.2 _ z _ List.mem_cons_self rfl
    rw [List.foldl_cons, putS_new hx, foldl_put kf F xs _ (by simpa using h)]
    simp
theorem lookup_mapK {β : Type} (F : Str → β) (x : Str) : ∀ (xs : List Str), x ∈ xs → (xs.map fun x => (x, F x)).lookup x = some (F x)
  | y :: ys, h => by
    rw [List.map_cons, List.lookup_cons]
    by_cases e : x = y
    · subst e
      simp
    · rw [show (x == y) = false from beq_eq_false_iff_ne.mpr e]
      exact lookup_mapK F x ys ((List.mem_cons.mp h).resolve_left e)
/-- the counts of places, turn by turn -/
def homesL (o : List (Str × Nat)) : List (Str × List Nat) := o.foldl (fun h p => putS h p.1 ((h.lookup p.1).getD [] ++ [p.2])) []
theorem keys_putS {α : Type} (ks : List (Str × α)) (x : Str) (a : α) : (putS ks x a).map (·.1) = if x ∈ ks.map (·.1) then ks.map (·.1) else ks.map (·.1) ++ [x] := by
  by_cases h : x ∈ ks.map (·.1)
  · rw [if_pos h]
    unfold putS
    rw [if_pos (by
      obtain ⟨p, hp, e⟩ := List.mem_map.mp h
      exact List.any_eq_true.mpr ⟨p, hp, decide_eq_true e⟩), List.map_map]
    congr 1
    funext p
    show (if p.1 = x then (p.1, a) else p).1 = p.1
    split <;> rfl
  · rw [if_neg h, putS_new h]
    simp
theorem lookup_putS {α : Type} (x y : Str) (a : α) : ∀ (ks : List (Str × α)), (putS ks x a).lookup y = if y = x then some a else ks.lookup y := fun ks => by
  have h1 : ∀ ks : List (Str × α), x ∈ ks.map (·.1) → (ks.map fun p => if p.1 = x then (p.1, a) else p).lookup y = if y = x then some a else ks.lookup y := by
    intro ks
    induction ks with
    | nil => intro h; exact absurd h (by simp)
    | cons p r ih =>
      intro h
      rw [List.map_cons]
      by_cases e : p.1 = x
      · rw [if_pos e, List.lookup_cons]
        by_cases ey : y = x
        · rw [if_pos ey, show (y == p.1) = true by rw [ey, e]; simp]
        · rw [if_neg ey, show (y == p.1) = false from beq_eq_false_iff_ne.mpr fun z => ey (z.trans e)]
          obtain ⟨p1, p2⟩ := p
          rw [List.lookup_cons, show (y == p1) = false from beq_eq_false_iff_ne.mpr fun z => ey (z.trans e)]
          dsimp only
          by_cases hr : x ∈ r.map (·.1)
          · rw [ih hr, if_neg ey]
          · have : (r.map fun p => if p.1 = x then (p.1, a) else p) = r := by
              have hh : ∀ q ∈ r, (fun p : Str × α => if p.1 = x then (p.1, a) else p) q = id q := fun q hq => if_neg fun z => hr (List.mem_map.mpr ⟨q, hq, z⟩)
              rw [List.map_congr_left hh, List.map_id]
            rw [this]
      · rw [if_neg e]
        obtain ⟨p1, p2⟩ := p
        rw [List.lookup_cons, List.lookup_cons, ih ((List.mem_cons.mp h).resolve_left fun z => e z.symm)]
        by_cases ey : y = p1
        · rw [show (y == p1) = true by rw [ey]; simp]
          dsimp only
          rw [if_neg fun z => e (ey.symm.trans z)]
        · rw [show (y == p1) = false from beq_eq_false_iff_ne.mpr ey]
  by_cases h : x ∈ ks.map (·.1)
  · unfold putS
    rw [if_pos (by
      obtain ⟨p, hp, e⟩ := List.mem_map.mp h
      exact List.any_eq_true.mpr ⟨p, hp, decide_eq_true e⟩)]
    exact h1 ks h
  · rw [putS_new h]
    clear h1
    induction ks with
    | nil =>
      rw [List.nil_append, List.lookup_cons]
      by_cases e : y = x
      · rw [if_pos e, e]; simp
      · rw [if_neg e, show (y == x) = false from beq_eq_false_iff_ne.mpr e]
    | cons p r ih =>
      rw [List.map_cons, List.mem_cons, not_or] at h
      obtain ⟨p1, p2⟩ := p
      rw [List.cons_append, List.lookup_cons, List.lookup_cons, ih h.2]
      by_cases e : y = p1
      · rw [show (y == p1) = true by rw [e]; simp]
        dsimp only
        rw [if_neg fun z => h.1 (z.symm.trans e)]
      · rw [show (y == p1) = false from beq_eq_false_iff_ne.mpr e]
theorem homes_snoc (o : List (Str × Nat)) (p : Str × Nat) : homesL (o ++ [p]) = putS (homesL o) p.1 (((homesL o).lookup p.1).getD [] ++ [p.2]) := by
  unfold homesL
  rw [List.foldl_append]
  rfl
theorem homes_spec (o : List (Str × Nat)) : (homesL o).map (·.1) = firsts o ∧ ∀ x, (homesL o).lookup x = if x ∈ firsts o then some (numsOf o x) else none := by
  induction o using snoc_ind with
  | h0 => exact ⟨rfl, fun x => by simp [homesL, firsts]⟩
  | h1 o p ih =>
    obtain ⟨i1, i2⟩ := ih
    rw [homes_snoc, keys_putS, i1, firsts_snoc]
    refine ⟨rfl, fun x => ?_⟩
    rw [lookup_putS, i2 p.1, i2 x, numsOf_snoc]
    by_cases e : x = p.1
    · subst e
      rw [if_pos rfl, if_pos rfl]
      by_cases h : p.1 ∈ firsts o
      · rw [if_pos h, if_pos h, if_pos h]
        rfl
      · rw [if_neg h, if_neg h, if_pos (by simp), numsOf_none fun z => h ((mem_firsts _ _).mpr z)]
        rfl
    · have e' : ¬p.1 = x := fun z => e z.symm
      rw [if_neg e, if_neg e']
      by_cases h : p.1 ∈ firsts o
      · rw [if_pos h]
      · rw [if_neg h]
        by_cases hx : x ∈ firsts o
        · rw [if_pos hx, if_pos (List.mem_append_left _ hx)]
        · rw [if_neg hx, if_neg fun z => (List.mem_append.mp z).elim hx fun z => e (List.mem_singleton.mp z)]
/-! ### books -/
def dN (l : List Nat) : D := .tup (l.map fun n : Nat => D.int (n : Int))
def sT (l : List Str) : D := .tup (l.map .str)
def homesD (rs : List Rm) : D := .dic false (sK dN (homesL (occs 0 rs)))
def bookD (rs : List Rm) : D := .obj "Book" [("rooms", .tup (rs.map fun r => .tup (r.map .str))), ("_homes", homesD rs)]
def outs (rs : List Rm) : List Str := sortS (RK.outsOf rs)
theorem outs_asc (rs : List Rm) : Asc (outs rs) := sortS_asc (nodup_firsts _)
theorem mem_outs {rs : List Rm} {x : Str} : x ∈ outs rs ↔ ∃ r ∈ rs, x ∈ r := mem_sortS.trans mem_outsOf
theorem enum_map {α : Type} (f : α → D) : ∀ (rs : List α) (n : Nat), ((List.range' n rs.length).zip (rs.map f)).map (fun p => D.tup [.int (p.1 : Int), p.2]) = ((List.range' n rs.length).zip rs).map fun p => .tup [.int (p.1 : Int), f p.2]
  | [], _ => rfl
  | r :: rs, n => by
    rw [List.length_cons, List.range'_succ, List.map_cons, List.zip_cons_cons, List.zip_cons_cons, List.map_cons, List.map_cons, enum_map f rs (n + 1)]
theorem enum_eq {α : Type} (f : α → D) (rs : List α) : enumItems (rs.map f) = ((List.range rs.length).zip rs).map fun p => .tup [.int (p.1 : Int), f p.2] := by
  unfold enumItems
  rw [List.length_map, List.range_eq_range']
  exact enum_map f rs 0
theorem enum_occs {σ : Type} (g : σ → Str × Nat → σ) : ∀ (rs : List Rm) (n : Nat) (a : σ), ((List.range' n rs.length).zip rs).foldl (fun a p => p.2.foldl (fun a x => g a (x, p.1)) a) a = (occs n rs).foldl g a
  | [], _, _ => rfl
  | r :: rs, n, a => by
    rw [List.length_cons, List.range'_succ, List.zip_cons_cons, List.foldl_cons, enum_occs g rs (n + 1)]
    show _ = (r.map (fun x => (x, n)) ++ occs (n + 1) rs).foldl g a
    rw [List.foldl_append, List.foldl_map]
end PD


set_option Elab.async false
set_option linter.all false
set_option maxRecDepth 100000
/-! the rooms of an outcome, by their numbers -/
namespace RK
open PySem PySem.Spec PyProof.Rows L2
theorem numsOf_app (o o2 : List (Str × Nat)) (x : Str) : RK.numsOf (o ++ o2) x = RK.numsOf o x ++ RK.numsOf o2 x := by
  unfold RK.numsOf
  rw [List.filter_append, List.map_append]
theorem numsOf_room (n : Nat) (x : Str) : ∀ r : List Str, r.Nodup → RK.numsOf (r.map fun y => (y, n)) x = if x ∈ r then [n] else []
  | [], _ => rfl
  | y :: r, nd => by
    rw [List.nodup_cons] at nd
    have ih := numsOf_room n x r nd.2
    have e : RK.numsOf ((y :: r).map fun y => (y, n)) x = RK.numsOf [(y, n)] x ++ RK.numsOf (r.map fun y => (y, n)) x := numsOf_app [(y, n)] _ x
    rw [e, ih]
    by_cases h : y = x
    · subst h
      rw [if_neg nd.1, if_pos List.mem_cons_self, List.append_nil]
      unfold RK.numsOf
      simp
    · have e2 : RK.numsOf [(y, n)] x = [] := by
        unfold RK.numsOf
        simp [h]
      rw [e2, List.nil_append]
      by_cases hx : x ∈ r
      · rw [if_pos hx, if_pos (List.mem_cons_of_mem _ hx)]
      · rw [if_neg hx, if_neg (fun z => (List.mem_cons.mp z).elim (fun e => h e.symm) hx)]
def plc (rms : List Rm) (x : Str) (m : Nat) : List Nat := (List.range m).filter fun i => decide (x ∈ rms.getD i [])
theorem plc_succ (rms : List Rm) (x : Str) (m : Nat) : plc rms x (m + 1) = plc rms x m ++ if x ∈ rms.getD m [] then [m] else [] := by
  unfold plc
  rw [List.range_succ, List.filter_append]
  congr 1
  by_cases h : x ∈ rms.getD m []
  · rw [if_pos h, List.filter_cons, if_pos (decide_eq_true h)]
    rfl
  · rw [if_neg h, List.filter_cons, if_neg (by rw [decide_eq_false h]; exact Bool.false_ne_true)]
    rfl
theorem places_eq (x : Str) (rms : List Rm) : (∀ r ∈ rms, r.Nodup) → placesOf rms x = plc rms x rms.length := by
  refine snoc_ind (P := fun rms : List Rm => (∀ r ∈ rms, r.Nodup) → placesOf rms x = plc rms x rms.length) (fun _ => rfl) (fun l r ih hn => ?_) rms
  have ih := ih fun s hs => hn s (List.mem_append.mpr (.inl hs))
  unfold placesOf at ih ⊢
  rw [occs_snoc, numsOf_app, ih, Nat.zero_add, numsOf_room _ _ _ (hn r (by simp)), List.length_append, List.length_singleton, plc_succ]
  have e1 : plc (l ++ [r]) x l.length = plc l x l.length := by
    unfold plc
    refine List.filter_congr fun i hi => ?_
    have hi := List.mem_range.mp hi
    rw [List.getD_eq_getElem?_getD, List.getD_eq_getElem?_getD, List.getElem?_append_left hi]
  have e2 : (l ++ [r]).getD l.length [] = r := by
    rw [List.getD_eq_getElem?_getD, List.getElem?_append_right (Nat.le_refl _), Nat.sub_self]
    rfl
  rw [e1, e2]
theorem isort_asc {rms : List Rm} {ys : List Str} (hp : ys.Perm (outsOf rms)) (hs : sortedS ys = true) : Asc ys ∧ ∀ x, x ∈ ys ↔ ∃ r ∈ rms, x ∈ r :=
  ⟨asc_of hs (hp.nodup_iff.mpr (nodup_firsts _)), fun x => hp.mem_iff.trans mem_outsOf⟩
/-! ### data that equal themselves -/
theorem eqv_str (x : Str) : (PyData.str x).eqv (.str x) = true := by
  show (x == x) = true
  exact beq_self_eq_true x
theorem eqvAll_refl {l : List PyData} (h : ∀ d ∈ l, d.eqv d = true) : PyData.eqvAll l l = true := by
  induction l with
  | nil => rfl
  | cons d r ih =>
    have e : PyData.eqvAll (d :: r) (d :: r) = (d.eqv d && PyData.eqvAll r r) := rfl
    rw [e, h d List.mem_cons_self, ih fun z hz => h z (List.mem_cons_of_mem _ hz)]
    rfl
end RK


set_option Elab.async false
set_option linter.all false
set_option maxRecDepth 100000
set_option maxHeartbeats 1000000
namespace Q06
open PySem PySem.Spec PyProof.Rows L2 RK PD
theorem v_is_integer_i (i : Int) : F_is_integer [.int i] = .ok (.bl true) [.no] := by
  simp [F_is_integer, run_fin, g_is_integer, is_int, is_bool]
theorem v_within_i (i a b : Int) : F_is_number_within [.int i, .int a, .int b] = .ok (.bl (decide (a ≤ i ∧ i ≤ b))) [.no, .no, .no] := by
  simp [F_is_number_within, run_fin, g_is_number_within, v_is_integer_i]
  by_cases h : a ≤ i <;> by_cases h2 : b < i <;> simp [h, h2] <;> omega
theorem v_common (r s : List Str) : F__common [.tup (r.map .str), .tup (s.map .str)] = .ok (.lst ((common r s).map .str)) [.no, .no] := by
  simp [F__common, run_fin, g__common]
  rw [eLc_q (enc := .str) r (fun x => decide (x ∈ s)) .str ?_ ?_]
  · simp [common]
  · simp
  · intro x hx
    simp
theorem low_letter {c : Nat} (h : lowB c = true) : c ∈ lettersS.cps.toList := by
  rw [lets_list]
  unfold lowB at h
  simp at h
  have : ∀ c : Nat, 97 ≤ c → c ≤ 122 → c ∈ [97, 98, 99, 100, 101, 102, 103, 104, 105, 106, 107, 108, 109, 110, 111, 112, 113, 114, 115, 116, 117, 118, 119, 120, 121, 122] := fun c h1 h2 => by
    simp
    omega
  exact this c h.1 h.2
theorem v_is_name {x : Str} (hx : NameOk x) : F_is_name [.str x] = .ok (.bl true) [.no] := by
  obtain ⟨h1, h2, h3⟩ := hx
  have e1 : x.length ≤ 1000000 := by omega
  have e2 : x.length ≤ 1000 := by omega
  simp [F_is_name, run_fin, g_is_name, is_str, dLen, e1]
  have e3 : ¬((x.length : Int) < 1) := by omega
  have e4 : ¬((5 : Int) < x.length) := by omega
  simp [e3, e4]
  rw [eLc_y (enc := fun c : Nat => .str ⟨#[c]⟩) x.cps.toList (fun c => .bl (decide (c ∈ lettersS.cps.toList))) ?_ ?_]
  · simp
    intro c hc
    have := low_letter (h3 x.cps[c] (by simp))
    simpa using this
  · simp [e2, strItems]
  · intro c hc
    simp [dMem]
theorem v_is_ascending {r : List Str} (hr : Asc r) (hl : r.length ≤ 1000) : F_is_ascending [.tup (r.map .str)] = .ok (.bl true) [.no] := by
  simp [F_is_ascending, run_fin, g_is_ascending]
  rw [eLc_y (enc := fun i : Nat => .int (1 + (i : Int))) (List.range (r.length - 1)) (fun i => .bl (decide (ltS (r.getD i ⟨#[]⟩) (r.getD (i + 1) ⟨#[]⟩)))) ?_ ?_]
  · simp
    intro i hi
    rw [List.getElem?_eq_getElem (by omega), List.getElem?_eq_getElem (by omega)]
    exact List.pairwise_iff_getElem.mp hr i (i + 1) _ _ (by omega)
  · simp [rngItems]
    omega
  · intro i hi
    have hi : i < r.length - 1 := List.mem_range.mp hi
    have h1 : atI r (1 + (i : Int) - 1) = some r[i] := by
      rw [show (1 + (i : Int) - 1) = (i : Int) by omega, PD.atI_nat, List.getElem?_eq_getElem]
    have h2 : atI r (1 + (i : Int)) = some r[i + 1] := by
      rw [show (1 + (i : Int)) = ((i + 1 : Nat) : Int) by omega, PD.atI_nat, List.getElem?_eq_getElem]
    simp [h1, h2, List.getElem?_eq_getElem (show i < r.length by omega), List.getElem?_eq_getElem (show i + 1 < r.length by omega)]
theorem v_is_room {r : List Str} (hr : RoomOk r) : F__is_room [.tup (r.map .str)] = .ok (.bl true) [.no] := by
  obtain ⟨h3, h5, hn, ha⟩ := hr
  have e3 : ¬((r.length : Int) < 3) := by omega
  have e5 : ¬((5 : Int) < r.length) := by omega
  simp [F__is_room, run_fin, g__is_room, is_tuple, e3, e5]
  rw [eLc_y (enc := .str) r (fun x => .bl true) ?_ ?_]
  · simp [v_is_ascending ha (by omega)]
  · simp
  · intro x hx
    simp [v_is_name (hn x hx)]
theorem v_crosses {r : List Str} {e : List Rm} (h : ∀ s ∈ e, (common r s).length ≤ 1) : F__crosses_twice [.tup (r.map .str), .tup (e.map fun s => .tup (s.map .str))] = .ok (.bl false) [.no, .no] := by
  simp [F__crosses_twice, run_fin, g__crosses_twice]
  rw [eLc_y (enc := fun s : Rm => .tup (s.map .str)) e (fun s => .bl (decide (1 < (common r s).length))) ?_ ?_]
  · simp
    exact h
  · simp
  · intro s hs
    simp [v_common]
    omega
theorem homes_len (o : List (Str × Nat)) : (homesL o).length ≤ o.length := by
  have h := nodup_sub_len (nodup_firsts o) fun x hx => (mem_firsts o x).mp hx
  rw [← (homes_spec o).1] at h
  simpa using h
theorem look_len (o : List (Str × Nat)) (x : Str) : (((homesL o).lookup x).getD []).length ≤ o.length := by
  rw [(homes_spec o).2]
  split
  · show ((o.filter _).map _).length ≤ _
    rw [List.length_map]
    exact List.length_filter_le _ _
  · exact Nat.zero_le _
theorem v_homes_of {rs : List Rm} (h10 : rs.length ≤ 10) (h5 : ∀ r ∈ rs, r.length ≤ 5) : F__homes_of [.tup (rs.map fun r => .tup (r.map .str))] = .ok (homesD rs) [.no] := by
  simp [F__homes_of, run_fin, g__homes_of, enum_eq]
  obtain ⟨e', h1, a, b, c, h2, h3⟩ := forL_nx (enc := fun p : Nat × Rm => D.tup [.int (p.1 : Int), .tup (p.2.map .str)]) (s := gT (gsCons (gN 2) (gsCons (gN 3) gsNil))) (g := sFor (iT (eVar 3)) (gN 4) (sPutD 1 (eVar 4) (eOp dAdd (eGet2 (eVar 1) (eVar 4) (eTup lNil)) (eTup (lCons (eVar 2) lNil)))))
    (fun i e => ∃ a b c, e = [.val (.tup (rs.map fun r => .tup (r.map .str))), .own (.dic false (sK dN (homesL (occs 0 (rs.take i))))), a, b, c] ∧ (occs 0 (rs.take i)).length ≤ 5 * i)
    ((List.range rs.length).zip rs) 0 [.val (.tup (rs.map fun r => .tup (r.map .str))), .own (.dic false []), .no, .no, .no] ⟨_, _, _, rfl, Nat.zero_le _⟩ (by
    rintro i ⟨n, r⟩ hi e ⟨a, b, c, rfl, hlen⟩
    rw [Nat.zero_add] at hlen ⊢
    obtain ⟨hn, hr⟩ : i = n ∧ rs[i]? = some r := by
      rw [List.getElem?_zip_eq_some] at hi
      obtain ⟨h1, h2⟩ := hi
      have hlt : i < rs.length := by
        rcases Nat.lt_or_ge i rs.length with h | h
        · exact h
        · rw [List.getElem?_eq_none h] at h2; cases h2
      rw [List.getElem?_range hlt] at h1
      exact ⟨by simpa using h1, h2⟩
    subst hn
    have hi10 : i < rs.length := by
      rcases Nat.lt_or_ge i rs.length with h | h
      · exact h
      · rw [List.getElem?_eq_none h] at hr; cases hr
    have hr5 := h5 r (List.mem_of_getElem? hr)
    have hk : occs 0 (rs.take (i + 1)) = occs 0 (rs.take i) ++ r.map fun x => (x, i) := by
      rw [List.take_add_one, hr]
      show occs 0 (rs.take i ++ [r]) = _
      rw [occs_snoc, List.length_take, Nat.zero_add, Nat.min_eq_left (by omega)]
    refine ⟨_, by simp; rfl, ?_⟩
    obtain ⟨e', h1, y, h2⟩ := forL_nx (enc := D.str) (s := gN 4) (g := sPutD 1 (eVar 4) (eOp dAdd (eGet2 (eVar 1) (eVar 4) (eTup lNil)) (eTup (lCons (eVar 2) lNil))))
      (fun j e => ∃ y, e = [.val (.tup (rs.map fun r => .tup (r.map .str))), .own (.dic false (sK dN (homesL (occs 0 (rs.take i) ++ (r.take j).map fun x => (x, i))))), .val (.int (i : Int)), .val (.tup (r.map .str)), y])
      r 0 [.val (.tup (rs.map fun r => .tup (r.map .str))), .own (.dic false (sK dN (homesL (occs 0 (rs.take i))))), .val (.int (i : Int)), .val (.tup (r.map .str)), c] ⟨c, by simp⟩ (by
      rintro j x hj e ⟨y, rfl⟩
      rw [Nat.zero_add]
      have hj5 : j < r.length := by
        rcases Nat.lt_or_ge j r.length with h | h
        · exact h
        · rw [List.getElem?_eq_none h] at hj; cases hj
      have hol : (occs 0 (rs.take i) ++ (r.take j).map fun x => (x, i)).length ≤ 100 := by
        rw [List.length_append, List.length_map, List.length_take]
        omega
      have hkj : occs 0 (rs.take i) ++ (r.take (j + 1)).map (fun x => (x, i)) = (occs 0 (rs.take i) ++ (r.take j).map fun x => (x, i)) ++ [(x, i)] := by
        rw [List.take_add_one, hj, List.append_assoc]
        simp
      rw [hkj, homes_snoc]
      generalize occs 0 (rs.take i) ++ (r.take j).map (fun x => (x, i)) = o at hol
      have l1 := homes_len o
      have l2 := look_len o x
      have hg : (((homesL o).lookup x).map dN).getD (.tup []) = dN (((homesL o).lookup x).getD []) := by cases (homesL o).lookup x <;> rfl
      have hd : dAdd (dN (((homesL o).lookup x).getD [])) (.tup [.int (i : Int)]) = some (dN (((homesL o).lookup x).getD [] ++ [i])) := by
        unfold dN
        rw [dAdd_tup, if_pos (by simp; omega)]
        simp
      refine ⟨_, by simp; rfl, _, .inl ?_, .val (.str x), rfl⟩
      simp [hg, hd, dPut_sK]
      omega)
    refine ⟨e', .inl ?_, .val (.int (i : Int)), .val (.tup (r.map .str)), y, ?_, ?_⟩
    · simpa using h1
    · rw [hk, h2, Nat.zero_add, List.take_of_length_le (Nat.le_refl _)]
    · rw [hk, List.length_append, List.length_map]
      omega)
  simp at h2
  simp [h1, h2]
  rfl
theorem v_init {rs : List Rm} (ok : RoomsOk rs) : F_Book___init__ [.obj "Book" [], .tup (rs.map fun r => .tup (r.map .str))] = .ok .non [.own (bookD rs), .no] := by
  obtain ⟨⟨h1, h10⟩, hok, hone, hmost⟩ := ok
  have e1 : ¬((rs.length : Int) < 1) := by omega
  have e2 : ¬((10 : Int) < rs.length) := by omega
  have hl : ((homesL (occs 0 rs)).length : Int) ≤ 24 := by
    have := congrArg List.length (homes_spec (occs 0 rs)).1
    rw [List.length_map] at this
    rw [this]
    exact Int.ofNat_le.mpr hmost
  simp [F_Book___init__, run_fin, g_Book___init__, is_tuple, e1, e2, enum_eq]
  obtain ⟨e', h1, a, b, h2⟩ := forL_nx (enc := fun p : Nat × Rm => D.tup [.int (p.1 : Int), .tup (p.2.map .str)]) (s := gT (gsCons (gN 2) (gsCons (gN 3) gsNil))) (g := sIf (qOr (qNot (qTru (eCall [.v] F__is_room (lCons (eVar 3) lNil)))) (qTru (eCall [.v, .v] F__crosses_twice (lCons (eVar 3) (lCons (eSl dCutT (eVar 1) qO0 (qO (eVar 2))) lNil))))) (sRaise "InvalidBook" (eVar 2)) sNext)
    (fun i e => ∃ a b, e = [.own (.obj "Book" []), .val (.tup (rs.map fun r => .tup (r.map .str))), a, b, .no])
    ((List.range rs.length).zip rs) 0 [.own (.obj "Book" []), .val (.tup (rs.map fun r => .tup (r.map .str))), .no, .no, .no] ⟨_, _, rfl⟩ (by
    rintro i ⟨n, r⟩ hi e ⟨a, b, rfl⟩
    obtain ⟨hn, hr⟩ : i = n ∧ rs[i]? = some r := by
      rw [List.getElem?_zip_eq_some] at hi
      obtain ⟨h1, h2⟩ := hi
      have hlt : i < rs.length := by
        rcases Nat.lt_or_ge i rs.length with h | h
        · exact h
        · rw [List.getElem?_eq_none h] at h2; cases h2
      rw [List.getElem?_range hlt] at h1
      exact ⟨by simpa using h1, h2⟩
    subst hn
    refine ⟨_, by simp; rfl, _, .inl ?_, .val (.int (i : Int)), .val (.tup (r.map .str)), rfl⟩
    have hc : cutA rs none (some (i : Int)) = rs.take i := by
      unfold cutA
      rw [HT.sIx_nat]
      show (rs.drop 0).take (min i rs.length - 0) = _
      rw [List.drop_zero, Nat.sub_zero]
      rcases Nat.le_total i rs.length with h | h
      · rw [Nat.min_eq_left h]
      · rw [Nat.min_eq_right h, List.take_of_length_le (Nat.le_refl _), List.take_of_length_le h]
    have hx := v_crosses (r := r) (e := rs.take i) fun s hs => by
      obtain ⟨j, hj, e⟩ := List.mem_take_iff_getElem.mp hs
      rw [← e]
      have := List.pairwise_iff_getElem.mp hone j i (by omega) (by
        rcases Nat.lt_or_ge i rs.length with h | h
        · exact h
        · rw [List.getElem?_eq_none h] at hr; cases hr) (by omega)
      rw [List.getElem?_eq_some_iff] at hr
      obtain ⟨_, hr⟩ := hr
      rw [hr] at this
      exact this
    rw [List.map_take] at hx
    simp [v_is_room (hok r (List.mem_of_getElem? hr)), hc, hx])
  simp [h1, h2, v_homes_of h10 fun r hr => (hok r hr).2.1]
  have hd : dLen (homesD rs) = some (.int ((homesL (occs 0 rs)).length : Int)) := by
    unfold homesD
    simp
  have hl2 : ¬((24 : Int) < ((homesL (occs 0 rs)).length : Int)) := by omega
  have ne : ¬ (("rooms" : Str) = "_homes") := by decide
  simp [hd, hl2, fc_rooms, fc__homes, putFD, bookD, ne]
theorem bk_rooms (rs : List Rm) : fldD fc_rooms "rooms" (bookD rs) = some (.tup (rs.map fun r => .tup (r.map .str))) := by with_unfolding_all rfl
theorem bk_homes (rs : List Rm) : fldD fc__homes "_homes" (bookD rs) = some (.dic false (sK dN (homesL (occs 0 rs)))) := by with_unfolding_all rfl
theorem bk_rooms_of (rs : List Rm) (e : Ev) : recv "rooms_of" "Book" e (.d (bookD rs)) = true := by with_unfolding_all rfl
theorem bk_outcomes (rs : List Rm) (e : Ev) : recv "outcomes" "Book" e (.d (bookD rs)) = true := by with_unfolding_all rfl
theorem v_rooms_of (rs : List Rm) (x : Str) : F_Book_rooms_of [bookD rs, .str x] = .ok (dN (placesOf rs x)) [.no, .no] := by
  have h : (((homesL (occs 0 rs)).lookup x).map dN).getD (.tup []) = dN (placesOf rs x) := by
    rw [(homes_spec _).2]
    split
    · rfl
    · rename_i z
      show D.tup [] = dN (numsOf _ x)
      rw [numsOf_none fun y => z ((mem_firsts _ _).mpr y)]
      rfl
  simp [F_Book_rooms_of, run_fin, g_Book_rooms_of, is_str, bk_homes, h]
theorem v_outcomes {rs : List Rm} (hm : (RK.outsOf rs).length ≤ 24) : F_Book_outcomes [bookD rs] = .ok (sT (outs rs)) [.no] := by
  have hk := (homes_spec (occs 0 rs)).1
  have hl := congrArg List.length hk
  rw [List.length_map] at hl
  have := sortedK_sK dN (homesL (occs 0 rs)) (by rw [hl]; exact Nat.lt_of_le_of_lt hm (by decide))
  rw [hk] at this
  simp [F_Book_outcomes, run_fin, g_Book_outcomes, bk_homes, this]
  rfl
/-- the other outcomes of an outcome's rooms -/
def besides (rs : List Rm) (x : Str) : List Str := sortS ((placesOf rs x).flatMap fun n => ((rs.getD n []).filter fun y => decide (y ≠ x)))
theorem mem_plc (rs : List Rm) (x : Str) (n : Nat) : ∀ m, n ∈ plc rs x m ↔ n < m ∧ x ∈ rs.getD n []
  | 0 => by simp [plc]
  | m + 1 => by
    rw [plc_succ, List.mem_append, mem_plc rs x n m]
    by_cases h : x ∈ rs.getD m []
    · rw [if_pos h, List.mem_singleton]
      constructor
      · rintro (⟨a, b⟩ | rfl)
        · exact ⟨by omega, b⟩
        · exact ⟨by omega, h⟩
      · rintro ⟨a, b⟩
        by_cases e : n = m
        · exact .inr e
        · exact .inl ⟨by omega, b⟩
    · rw [if_neg h]
      constructor
      · rintro (⟨a, b⟩ | z)
        · exact ⟨by omega, b⟩
        · exact absurd z List.not_mem_nil
      · rintro ⟨a, b⟩
        refine .inl ⟨?_, b⟩
        rcases Nat.lt_or_ge n m with q | q
        · exact q
        · have : n = m := by omega
          subst this
          exact absurd b h
theorem mem_places {rs : List Rm} (ok : RoomsOk rs) {x : Str} {n : Nat} : n ∈ placesOf rs x ↔ n < rs.length ∧ x ∈ rs.getD n [] := by
  rw [places_eq x rs fun r hr => (ok.ok r hr).2.2.2.nodup, mem_plc]
theorem mem_besides {rs : List Rm} (ok : RoomsOk rs) {x y : Str} : y ∈ besides rs x ↔ y ≠ x ∧ ∃ r ∈ rs, x ∈ r ∧ y ∈ r := by
  unfold besides
  rw [mem_sortS, List.mem_flatMap]
  constructor
  · rintro ⟨n, hn, h⟩
    rw [List.mem_filter, decide_eq_true_eq] at h
    obtain ⟨h1, h2⟩ := (mem_places ok).mp hn
    have e : rs.getD n [] = rs[n] := by simp [h1]
    rw [e] at h h2
    exact ⟨h.2, rs[n], List.getElem_mem h1, h2, h.1⟩
  · rintro ⟨h0, r, hr, h1, h2⟩
    obtain ⟨n, hn, e⟩ := List.getElem_of_mem hr
    have e' : rs.getD n [] = r := by simp [hn, e]
    refine ⟨n, (mem_places ok).mpr ⟨hn, by rw [e']; exact h1⟩, ?_⟩
    rw [List.mem_filter, decide_eq_true_eq, e']
    exact ⟨h2, h0⟩
theorem sum_le {α : Type} (f : α → Nat) (b : Nat) : ∀ l : List α, (∀ x ∈ l, f x ≤ b) → (l.map f).sum ≤ b * l.length
  | [], _ => Nat.zero_le _
  | x :: l, h => by
    have h1 := h x List.mem_cons_self
    have h2 := sum_le f b l fun y hy => h y (List.mem_cons_of_mem _ hy)
    rw [List.map_cons, List.sum_cons, List.length_cons, Nat.mul_add]
    omega
theorem places_len {rs : List Rm} (ok : RoomsOk rs) (x : Str) : (placesOf rs x).length ≤ 10 := by
  rw [places_eq x rs fun r hr => (ok.ok r hr).2.2.2.nodup]
  have : ∀ m, (plc rs x m).length ≤ m := fun m => by
    induction m with
    | zero => exact Nat.le_refl 0
    | succ m ih =>
      rw [plc_succ, List.length_append]
      split <;> simp <;> omega
  exact Nat.le_trans (this _) ok.few.2
theorem getD_len {rs : List Rm} (ok : RoomsOk rs) (n : Nat) : (rs.getD n []).length ≤ 5 := by
  rw [List.getD_eq_getElem?_getD]
  cases h : rs[n]? with
  | none => exact Nat.zero_le _
  | some r => exact (ok.ok r (List.mem_of_getElem? h)).2.1
theorem v_beside {rs : List Rm} (ok : RoomsOk rs) (x : Str) : F__beside [bookD rs, .str x] = .ok (sT (besides rs x)) [.no, .no] := by
  simp [F__beside, run_fin, g__beside]
  rw [eLc_y (enc := fun n : Nat => .int (n : Int)) (placesOf rs x) (fun n => .tup ((rs.getD n []).map .str)) ?_ ?_]
  · simp
    rw [eLc2_q (enc := fun n : Nat => .tup ((rs.getD n []).map .str)) (enc1 := .str) (placesOf rs x) (fun n => rs.getD n []) (fun _ y => decide (y ≠ x)) (fun _ y => .str y) ?_ rfl (by decide) ?_ ?_]
    · have hh : ((placesOf rs x).flatMap fun n => ((rs.getD n []).filter fun y => decide (y ≠ x)).map D.str) = ((placesOf rs x).flatMap fun n => ((rs.getD n []).filter fun y => decide (y ≠ x))).map D.str := by
        rw [List.map_flatMap]
      rw [hh]
      simp [besides, sT]
    · have := sum_le (fun n => (rs.getD n []).length) 5 (placesOf rs x) fun n _ => getD_len ok n
      have := places_len ok x
      omega
    · simp
    · intro n hn
      refine ⟨by simp, fun y hy => ?_⟩
      simp
  · simp [bk_rooms_of, v_rooms_of, dN]
  · intro n hn
    have h := ((mem_places ok).mp hn).1
    have : atI rs (n : Int) = some rs[n] := by rw [PD.atI_nat, List.getElem?_eq_getElem h]
    simp [bk_rooms, this, h]
def rivD (rs : List Rm) : D := .dic false (sK sT ((outs rs).map fun x => (x, besides rs x)))
theorem v_rivals {rs : List Rm} (ok : RoomsOk rs) : F_rivals [bookD rs] = .ok (rivD rs) [.no] := by
  simp [F_rivals, run_fin, g_rivals]
  rw [eDc_y (enc := .str) (fun x : Str => x) (besides rs) sT (outs rs) ?_ ?_ ?_]
  · rw [foldl_put _ _ _ _ (by simpa using (outs_asc rs).nodup)]
    simp [rivD]
  · simp [bk_outcomes, v_outcomes ok.most, sT]
  · have : (outs rs).length = (RK.outsOf rs).length := (sortS_perm _).length_eq
    have := ok.most
    omega
  · intro x hx
    simp [v_beside ok x]
def mayEnd (rs : List Rm) (lot : List Str) (x : Str) : Bool := (match lot.getLast? with | some y => decide (ltS y x) | none => true) && !(lot.any fun y => decide (x ∈ besides rs y))
theorem v_may_end {rs : List Rm} {lot : List Str} (hl : ∀ y ∈ lot, y ∈ outs rs) (x : Str) : F__may_end [.tup (lot.map .str), .str x, rivD rs] = .ok (.bl (mayEnd rs lot x)) [.no, .no, .no] := by
  have key : ∀ e : Ev, e = [Sl.val (.tup (lot.map .str)), .val (.str x), .val (rivD rs), .no] → eLc (iT (eVar 0)) (gN 3) qYes (eOp dIn (eVar 1) (eDGet (eVar 2) (eVar 3))) [3] e = .ok (.lst (lot.map fun y => .bl (decide (x ∈ besides rs y)))) e := fun e he => by
    subst he
    rw [eLc_y (enc := .str) lot (fun y => .bl (decide (x ∈ besides rs y))) ?_ ?_]
    · simp
    · simp
    · intro y hy
      have := lookup_mapK (besides rs) y (outs rs) (hl y hy)
      simp [rivD, this, sT]
  have k := key _ rfl
  cases hz : lot.getLast? with
  | none =>
    have e : lot = [] := by simpa using hz
    subst e
    simp at k
    simp [F__may_end, run_fin, g__may_end, k, mayEnd]
  | some z =>
    have hE : lot ≠ [] := fun e => by rw [e] at hz; cases hz
    have ha : atI lot (-1) = some z := by rw [atI_neg1]; exact hz
    simp [F__may_end, run_fin, g__may_end, hE, ha]
    by_cases hx : ltS z x
    · simp [hx, k, mayEnd, hz]
    · simp [hx, mayEnd, hz]
/-- one outcome more -/
def stepL (rs : List Rm) (L : List (List Str)) : List (List Str) := L.flatMap fun lot => ((outs rs).filter (mayEnd rs lot)).map fun x => lot ++ [x]
def tT (L : List (List Str)) : List D := L.map fun l => .tup (l.map .str)
theorem v_longer {rs : List Rm} (ok : RoomsOk rs) {L : List (List Str)} (hL : ∀ l ∈ L, ∀ y ∈ l, y ∈ outs rs) (hl5 : ∀ l ∈ L, l.length ≤ 5) (hlen : L.length ≤ 1000) : F_longer_lots [.lst (tT L), sT (outs rs), rivD rs] = .ok (.lst (tT (stepL rs L))) [.no, .no, .no] := by
  have h24 : (outs rs).length ≤ 24 := by
    rw [show (outs rs).length = (RK.outsOf rs).length from (sortS_perm _).length_eq]
    exact ok.most
  simp [F_longer_lots, run_fin, g_longer_lots]
  rw [eLc2_q (enc := fun l : List Str => .tup (l.map .str)) (enc1 := .str) L (fun _ => outs rs) (fun l x => mayEnd rs l x) (fun l x => .tup ((l ++ [x]).map .str)) ?_ rfl (by decide) ?_ ?_]
  · have hh : (L.flatMap fun x => ((outs rs).filter fun y => mayEnd rs x y).map fun y => D.tup ((x ++ [y]).map .str)) = tT (stepL rs L) := by
      unfold tT stepL
      rw [List.map_flatMap]
      congr 1
      funext l
      rw [List.map_map]
      rfl
    rw [hh]
    simp
  · have := sum_le (fun _ : List Str => (outs rs).length) 24 L fun _ _ => h24
    omega
  · simp [tT]
  · intro l hl
    refine ⟨by simp [sT], fun x hx => ?_⟩
    have h5 := hl5 l hl
    have h6 : l.length + 1 ≤ 1000000 := by omega
    simp [v_may_end (hL l hl) x, h6]
theorem step_names {rs : List Rm} {L : List (List Str)} (hL : ∀ l ∈ L, ∀ y ∈ l, y ∈ outs rs) : ∀ l ∈ stepL rs L, ∀ y ∈ l, y ∈ outs rs := fun l hl y hy => by
  obtain ⟨m, hm, h⟩ := List.mem_flatMap.mp hl
  obtain ⟨x, hx, rfl⟩ := List.mem_map.mp h
  rcases List.mem_append.mp hy with q | q
  · exact hL m hm y q
  · rw [List.mem_singleton.mp q]
    exact (List.mem_filter.mp hx).1
theorem step_len {rs : List Rm} {L : List (List Str)} {n : Nat} (hL : ∀ l ∈ L, l.length = n) : ∀ l ∈ stepL rs L, l.length = n + 1 := fun l hl => by
  obtain ⟨m, hm, h⟩ := List.mem_flatMap.mp hl
  obtain ⟨x, hx, rfl⟩ := List.mem_map.mp h
  rw [List.length_append, hL m hm]
  rfl
/-- all lots of so many -/
def lotsN (rs : List Rm) : Nat → List (List Str)
  | 0 => [[]]
  | n + 1 => stepL rs (lotsN rs n)
theorem lotsN_names (rs : List Rm) : ∀ n, ∀ l ∈ lotsN rs n, ∀ y ∈ l, y ∈ outs rs
  | 0 => fun l hl y hy => by
    rw [List.mem_singleton.mp hl] at hy
    exact absurd hy List.not_mem_nil
  | n + 1 => step_names (lotsN_names rs n)
theorem lotsN_len (rs : List Rm) : ∀ n, ∀ l ∈ lotsN rs n, l.length = n
  | 0 => fun l hl => by rw [List.mem_singleton.mp hl]; rfl
  | n + 1 => step_len (lotsN_len rs n)
def fewN (rs : List Rm) (n : Nat) : Bool := (List.range n).all fun i => decide ((lotsN rs (i + 1)).length ≤ 1000)
theorem v_lots_without {rs : List Rm} (ok : RoomsOk rs) {n : Nat} (hn : n ≤ 5) : F_lots_without [sT (outs rs), rivD rs, .int (n : Int)] = if fewN rs n = true then .ok (.tup (tT (lotsN rs n))) [.no, .no, .no] else .err (.own "Refused") (some (.str "wide")) [.no, .no, .no] := by
  have h1 : (-1000000 : Int) ≤ n := by omega
  have h2 : (n : Int) ≤ 1000000 := by omega
  have key : ∀ (m j : Nat) (a : Sl), m + j ≤ 5 → (lotsN rs j).length ≤ 1000 →
      fin [.v, .v, .v] false ((forL (gN 4) (sSeq (sSet 3 (eCall [.v, .v, .v] F_longer_lots (lCons (eVar 3) (lCons (eVar 0) (lCons (eVar 1) lNil))))) (sIf (qB (eOp dGt (eCB (un dLen) (lCons (eVar 3) lNil)) (eC (.int 1000)))) (sRaise "Refused" (eC (.str "wide"))) sNext))
        ((List.range' j m).map fun i : Nat => D.int (i : Int)) [.val (sT (outs rs)), .val (rivD rs), .val (.int (n : Int)), .val (.lst (tT (lotsN rs j))), a]).seq (sRet (eCB (un dTuple) (lCons (eVar 3) lNil)))) =
        if ((List.range' j m).all fun i => decide ((lotsN rs (i + 1)).length ≤ 1000)) = true then .ok (.tup (tT (lotsN rs (j + m)))) [.no, .no, .no] else .err (.own "Refused") (some (.str "wide")) [.no, .no, .no] := fun m => by
    induction m with
    | zero => intro j a _ _; simp [forL]
    | succ m ih =>
      intro j a hm hj
      have hv := v_longer ok (lotsN_names rs j) (fun l hl => by rw [lotsN_len rs j l hl]; omega) hj
      rw [List.range'_succ, List.map_cons, List.all_cons]
      unfold forL
      simp [hv]
      rw [show stepL rs (lotsN rs j) = lotsN rs (j + 1) from rfl]
      by_cases hw : (lotsN rs (j + 1)).length ≤ 1000
      · have hw2 : ¬ ((1000 : Int) < ((tT (lotsN rs (j + 1))).length : Int)) := by
          unfold tT
          rw [List.length_map]
          omega
        simp [hw, hw2]
        rw [ih (j + 1) _ (by omega) hw]
        rw [decide_eq_true hw, Bool.true_and, show j + (m + 1) = j + 1 + m by omega]
      · have hw2 : (1000 : Int) < ((tT (lotsN rs (j + 1))).length : Int) := by
          unfold tT
          rw [List.length_map]
          omega
        simp [hw, hw2, sRaise]
  simp [F_lots_without, run_fin, g_lots_without, h1, h2]
  have k := key n 0 .no (by omega) (by simp [lotsN])
  have er : rngItems 0 n = (List.range' 0 n).map fun i : Nat => D.int (i : Int) := by
    unfold rngItems
    rw [List.range_eq_range']
    simp
  rw [er]
  rw [Nat.zero_add] at k
  unfold fewN
  rw [List.range_eq_range']
  exact k
theorem v_apart {rs : List Rm} (ok : RoomsOk rs) {n : Nat} (hn : n ≤ 5) : F_apart_lots [bookD rs, .int (n : Int)] = if fewN rs n = true then .ok (.tup (tT (lotsN rs n))) [.no, .no] else .err (.own "Refused") (some (.str "wide")) [.no, .no] := by
  have h1 : ((n : Int) ≤ 5) := by omega
  have h2 : (0 : Int) ≤ n := by omega
  by_cases hf : fewN rs n = true <;> simp [F_apart_lots, run_fin, g_apart_lots, v_within_i, h1, h2, bk_outcomes, v_outcomes ok.most, v_rivals ok, v_lots_without ok hn, hf]
theorem sel1 : sel_InvalidNumber "InvalidNumber" = true := by decide
theorem sel2 : sel_InvalidNumber "Refused" = false := by decide
theorem sel3 : sel_Refused "Refused" = true := by decide
theorem fd1 : fdOf "InvalidNumber" = some "word" := by decide
theorem fd2 : fdOf "Refused" = some "word" := by decide
theorem v_told {rs : List Rm} (ok : RoomsOk rs) {n : Nat} (hn : n ≤ 5) : F__law_told [bookD rs, .int (n : Int)] = .ok (.lst (if fewN rs n = true then [.str "told", .tup (tT (lotsN rs n))] else [.str "refused", .str "wide"])) [.no, .no] := by
  by_cases hf : fewN rs n = true <;> simp [F__law_told, run_fin, g__law_told, v_apart ok hn, hf, handle, sel1, sel2, sel3, fd1, fd2, slotIn, slotNo, finE]
theorem v_odd {rs : List Rm} {d : D} (hd : F_is_number_within [d, .int 0, .int 5] = .ok (.bl false) [.no, .no, .no]) : F__law_told [bookD rs, d] = .ok (.lst [.str "number", .str "size"]) [.no, .no] := by
  simp [F__law_told, run_fin, g__law_told, F_apart_lots, g_apart_lots, hd, handle, sel1, fd1, slotIn, slotNo, finE, sRaise]
end Q06


set_option Elab.async false
set_option linter.all false
set_option maxRecDepth 100000
set_option maxHeartbeats 1000000
/-! EV3: what holds behind meanings that draw: wishes. -/
namespace PD
open PySem PySem.Spec PyProof.Rows L2 RK
def WR {α : Type} (r : Res α) (K : α → Ev → Prop) : Prop := match r with
  | .ok a e => K a e
  | _ => False
def WS (r : SR) (N C B : Ev → Prop) (R : D → Ev → Prop) : Prop := match r with
  | .nx e => N e
  | .ct e => C e
  | .bk e => B e
  | .rt z e => R z e
  | _ => False
def WF (f : FR) (K : D → Ev → Prop) : Prop := match f with
  | .ok z o => K z o
  | _ => False
theorem WR_congr {α : Type} {r r' : Res α} {K : α → Ev → Prop} (h : r = r') : WR r K = WR r' K := by rw [h]
theorem WS_congr {r r' : SR} {N C B : Ev → Prop} {R : D → Ev → Prop} (h : r = r') : WS r N C B R = WS r' N C B R := by rw [h]
theorem WF_congr {r r' : FR} {K : D → Ev → Prop} (h : r = r') : WF r K = WF r' K := by rw [h]
@[simp] theorem WR_ok {α : Type} {a : α} {e : Ev} {K : α → Ev → Prop} : WR (.ok a e) K = K a e := rfl
@[simp] theorem WR_bind {α β : Type} {r : Res α} {g : α → Ev → Res β} {K : β → Ev → Prop} : WR (r.bind g) K = WR r fun a e => WR (g a e) K := by cases r <;> rfl
@[simp] theorem WS_nx {e : Ev} {N C B : Ev → Prop} {R : D → Ev → Prop} : WS (.nx e) N C B R = N e := rfl
@[simp] theorem WS_ct {e : Ev} {N C B : Ev → Prop} {R : D → Ev → Prop} : WS (.ct e) N C B R = C e := rfl
@[simp] theorem WS_bk {e : Ev} {N C B : Ev → Prop} {R : D → Ev → Prop} : WS (.bk e) N C B R = B e := rfl
@[simp] theorem WS_rt {z : D} {e : Ev} {N C B : Ev → Prop} {R : D → Ev → Prop} : WS (.rt z e) N C B R = R z e := rfl
@[simp] theorem WS_seq {r : SR} {g : Ev → SR} {N C B : Ev → Prop} {R : D → Ev → Prop} : WS (r.seq g) N C B R = WS r (fun e => WS (g e) N C B R) C B R := by cases r <;> rfl
@[simp] theorem WS_andS {α : Type} {r : Res α} {g : α → Ev → SR} {N C B : Ev → Prop} {R : D → Ev → Prop} : WS (r.andS g) N C B R = WR r fun a e => WS (g a e) N C B R := by cases r <;> rfl
@[simp] theorem WF_ok {z : D} {o : Ev} {K : D → Ev → Prop} : WF (.ok z o) K = K z o := rfl
theorem WF.out {f : FR} {K : D → Ev → Prop} (h : WF f K) : ∃ z o, f = .ok z o ∧ K z o := by
  cases f with
  | ok z o => exact ⟨z, o, rfl, h⟩
  | err _ _ _ => exact h.elim
  | bad => exact h.elim
theorem WR.out {α : Type} {r : Res α} {K : α → Ev → Prop} (h : WR r K) : ∃ z e, r = .ok z e ∧ K z e := by
  cases r with
  | ok z o => exact ⟨z, o, rfl, h⟩
  | err _ _ _ => exact h.elim
  | bad => exact h.elim
/-- a def's answer, when it ends by return -/
def KR (ks : List PK) (K : D → Ev → Prop) (z : D) (e : Ev) : Prop := ∃ o, PD.outsOf ks e = some o ∧ K z o
def KN (ks : List PK) (fr : Bool) (K : D → Ev → Prop) (e : Ev) : Prop := fr = false ∧ ∃ o, PD.outsOf ks e = some o ∧ K .non o
@[simp] theorem WF_fin {ks : List PK} {fr : Bool} {r : SR} {K : D → Ev → Prop} : WF (fin ks fr r) K = WS r (KN ks fr K) (fun _ => False) (fun _ => False) (KR ks K) := by
  cases r with
  | nx e =>
    show WF (if fr = true then .bad else _) K = (fr = false ∧ _)
    cases fr with
    | true => exact propext ⟨fun h => h.elim, fun h => by cases h.1⟩
    | false =>
      show WF (match PD.outsOf ks e with
      | some o => .ok .non o
      | none => .bad) K = _
      cases PD.outsOf ks e with
      | none => exact propext ⟨fun h => h.elim, fun ⟨_, o, h, _⟩ => by cases h⟩
      | some o => exact propext ⟨fun h => ⟨rfl, o, rfl, h⟩, fun ⟨_, o', h, k⟩ => by cases h; exact k⟩
  | rt z e =>
    show WF (match PD.outsOf ks e with
      | some o => .ok z o
      | none => .bad) K = ∃ o, PD.outsOf ks e = some o ∧ K z o
    cases PD.outsOf ks e with
    | none => exact propext ⟨fun h => h.elim, fun ⟨o, h, _⟩ => by cases h⟩
    | some o => exact propext ⟨fun h => ⟨o, rfl, h⟩, fun ⟨o', h, k⟩ => by cases h; exact k⟩
  | bk e => rfl
  | ct e => rfl
  | err c x e =>
    show WF (match PD.outsOf ks e with
      | some o => .err c x o
      | none => .bad) K = False
    cases PD.outsOf ks e <;> rfl
  | bad => rfl
@[simp] theorem KR_eq {ks : List PK} {K : D → Ev → Prop} {z : D} {e o : Ev} (h : PD.outsOf ks e = some o) : KR ks K z e = K z o := propext ⟨fun ⟨o', h', k⟩ => by rw [h] at h'; cases h'; exact k, fun k => ⟨o, h, k⟩⟩
theorem WS_forL {α : Type} {enc : α → D} {s : D → Ev → Option Ev} {g : Ev → SR} {N C B : Ev → Prop} {R : D → Ev → Prop} (I : Nat → Ev → Prop) : ∀ (xs : List α) (n : Nat) {e : Ev}, I n e →
    (∀ (i : Nat) (x : α), xs[i]? = some x → ∀ e, I (n + i) e → ∃ e1, s (enc x) e = some e1 ∧ WS (g e1) (I (n + i + 1)) (I (n + i + 1)) N R) → (∀ e, I (n + xs.length) e → N e) → WS (forL s g (xs.map enc) e) N C B R
  | [], n, e, h, _, k => k e h
  | x :: xs, n, e, h, st, k => by
    obtain ⟨e1, h1, h2⟩ := st 0 x rfl e h
    have ih : ∀ e2, I (n + 1) e2 → WS (forL s g (xs.map enc) e2) N C B R := fun e2 h3 => WS_forL I xs (n + 1) h3 (fun i y hy e he => by
      have := st (i + 1) y (by simpa using hy) e (by rw [show n + (i + 1) = n + 1 + i by omega]; exact he)
      rw [show n + (i + 1) = n + 1 + i by omega] at this
      exact this) fun e he => k e (by rw [List.length_cons, show n + (xs.length + 1) = n + 1 + xs.length by omega]; exact he)
    rw [List.map_cons]
    unfold forL
    rw [h1]
    dsimp only
    cases hg : g e1 with
    | nx e2 => rw [hg] at h2; exact ih e2 h2
    | ct e2 => rw [hg] at h2; exact ih e2 h2
    | bk e2 => rw [hg] at h2; exact h2
    | rt z e2 => rw [hg] at h2; exact h2
    | err c x e2 => rw [hg] at h2; exact h2
    | bad => rw [hg] at h2; exact h2
theorem WS_for {α : Type} {enc : α → D} {s : D → Ev → Option Ev} {g : Ev → SR} {N C B : Ev → Prop} {R : D → Ev → Prop} {items : List D} {e : Ev} (I : Nat → Ev → Prop) (xs : List α) (hi : items = xs.map enc) (h0 : I 0 e)
    (st : ∀ (i : Nat) (x : α), xs[i]? = some x → ∀ e, I i e → ∃ e1, s (enc x) e = some e1 ∧ WS (g e1) (I (i + 1)) (I (i + 1)) N R) (k : ∀ e, I xs.length e → N e) : WS (forL s g items e) N C B R := by
  subst hi
  exact WS_forL I xs 0 h0 (fun i x hx e he => by rw [Nat.zero_add] at he ⊢; exact st i x hx e he) fun e he => k e (by rw [Nat.zero_add] at he; exact he)
/-- counted turns -/
theorem WS_rng {s : D → Ev → Option Ev} {g : Ev → SR} {N C B : Ev → Prop} {R : D → Ev → Prop} {lo : Int} {n : Nat} {e : Ev} (I : Nat → Ev → Prop) (h0 : I 0 e)
    (st : ∀ i : Nat, i < n → ∀ e, I i e → ∃ e1, s (.int (lo + (i : Int))) e = some e1 ∧ WS (g e1) (I (i + 1)) (I (i + 1)) N R) (k : ∀ e, I n e → N e) : WS (forL s g (rngItems lo n) e) N C B R :=
  WS_for (enc := fun i : Nat => .int (lo + (i : Int))) I (List.range n) rfl h0 (fun i x hx e he => by
    have hi : i < n := by
      rcases Nat.lt_or_ge i n with h | h
      · exact h
      · rw [List.getElem?_eq_none (by rw [List.length_range]; exact h)] at hx; cases hx
    rw [List.getElem?_range hi] at hx
    cases hx
    exact st i hi e he) fun e he => k e (by rw [List.length_range] at he; exact he)
theorem WR_lc {α : Type} {enc : α → D} {f : Ev → Res (List D × Src)} {s : D → Ev → Option Ev} {h : Ev → Res RV} {vs : List Nat} {e e1 : Ev} {K : D → Ev → Prop} (I : List D → Ev → Prop) (xs : List α) {ds : List D} (hf : f e = .ok (ds, .seen) e1) (hd : ds = xs.map enc) (h0 : I [] (wipeE e1 vs))
    (st : ∀ x ∈ xs, ∀ acc e, I acc e → ∃ e1, s (enc x) e = some e1 ∧ WR (h e1) fun v e3 => ∃ z, v = .d z ∧ I (acc ++ [z]) (wipeE e3 vs)) (k : ∀ acc e, acc.length = xs.length → I acc e → K (.lst acc) e) : WR (eLc f s qYes h vs e) K := by
  subst hd
  rw [eLc_seen hf]
  obtain ⟨acc', e', h1, h2, h3⟩ := lcL_inv (enc := enc) (s := s) (h := h) (ck := fun _ => True) (vs := vs) I xs [] _ h0 fun x hx acc e he => by
    obtain ⟨e1, q1, q2⟩ := st x hx acc e he
    obtain ⟨v, e3, q3, z, rfl, q4⟩ := q2.out
    exact ⟨e1, q1, z, e3, q3, trivial, q4⟩
  rw [h1]
  exact k acc' e' (by simpa using h2) h3
theorem iR2_ok {fs : Ev → Res (List RV)} {e e1 : Ev} {i j : Int} (h : fs e = .ok [.d (.int i), .d (.int j)] e1) (h1 : -1000000 ≤ i) (h2 : i ≤ 1000000) (h3 : -1000000 ≤ j) (h4 : j ≤ 1000000) : iR2 fs e = .ok (rngItems i (j - i).toNat, .seen) e1 := by
  unfold iR2
  rw [h]
  simp only [Res.bind_ok]
  rw [if_pos ⟨h1, h2, h3, h4⟩]
theorem iR1_ok {fs : Ev → Res (List RV)} {e e1 : Ev} {j : Int} (h : fs e = .ok [.d (.int j)] e1) (h3 : -1000000 ≤ j) (h4 : j ≤ 1000000) : iR1 fs e = .ok (rngItems 0 j.toNat, .seen) e1 := by
  unfold iR1
  rw [h]
  simp only [Res.bind_ok]
  rw [if_pos ⟨h3, h4⟩]
theorem WS.mono {r : SR} {N N' C B : Ev → Prop} {R : D → Ev → Prop} (h : WS r N C B R) (k : ∀ e, N e → N' e) : WS r N' C B R := by
  cases r with
  | nx e => exact k e h
  | _ => exact h
end PD


set_option Elab.async false
set_option linter.all false
set_option maxRecDepth 100000
set_option maxHeartbeats 1000000
/-! draws, names, rooms -/
namespace Q06
open PySem PySem.Spec PyProof.Rows L2 RK PD
def HS (zs : List Int) (s : Int) : Prop := zs.length ≤ 100 ∧ 0 ≤ s ∧ s < 2147483647
theorem draw {zs : List Int} {s : Int} (h : HS zs s) {m : Int} (m0 : 0 < m) (m1 : m < 2147483647) : ∃ (v : Int) (zs' : List Int) (s' : Int), F__law_draw [heapD zs s, .int m] = .ok (.int v) [.heap zs' s', .no] ∧ 0 ≤ v ∧ v < m ∧ HS zs' s' := by
  obtain ⟨h1, h2, h3⟩ := h
  obtain ⟨d1, d2, d3, d4, d5⟩ := draw_ok (zs := zs) m0 h1 h2 h3
  refine ⟨_, _, _, ?_, d1, d2, d3, d4, d5⟩
  show (match asHeap (heapD zs s) with
    | some (zs, s) => if 0 < m ∧ m < 2147483647 ∧ zs.length ≤ 100 ∧ 0 ≤ s ∧ s < 2147483647 then FR.ok (.int (drawF zs s m).1) [.heap (drawF zs s m).2.1 (drawF zs s m).2.2, .no] else .bad
    | none => .bad) = _
  rw [asHeap_eq]
  exact if_pos ⟨m0, m1, h1, h2, h3⟩
theorem pick {zs : List Int} {s : Int} (h : HS zs s) {ds : List D} (h0 : ds ≠ []) (h1 : ds.length ≤ 1000) : ∃ (d : D) (zs' : List Int) (s' : Int), F__law_pick [heapD zs s, .lst ds] = .ok d [.heap zs' s', .no] ∧ d ∈ ds ∧ HS zs' s' := by
  have hp : 0 < ds.length := List.length_pos_iff.mpr h0
  obtain ⟨v, zs', s', e, v0, v1, h'⟩ := draw h (m := (ds.length : Int)) (by omega) (by omega)
  obtain ⟨n, rfl⟩ := Int.eq_ofNat_of_zero_le v0
  have hn : n < ds.length := by omega
  have ha : atI ds (n : Int) = some ds[n] := by rw [PD.atI_nat, List.getElem?_eq_getElem hn]
  refine ⟨ds[n], zs', s', ?_, List.getElem_mem hn, h'⟩
  simp [F__law_pick, run_fin, g__law_pick, e, ha]
theorem low_ok {x : Str} (h : LowS x) : PyData.strOk x = true := by
  unfold PyData.strOk
  rw [Array.all_eq_true_iff_forall_mem]
  intro c hc
  have := h c (by simpa using hc)
  unfold lowB at this
  simp at this
  simp
  omega
theorem letter_at {n : Nat} (h : n < 26) : atI lettersS.cps.toList (n : Int) = some (97 + n) := by rw [PD.atI_nat, let_at n h]
theorem strItems_letters : strItems lettersS = (List.range 26).map fun i => .str ⟨#[97 + i]⟩ := by
  unfold strItems
  rw [lets_list]
  rfl
theorem names_w {zs : List Int} {s : Int} (h : HS zs s) {n : Nat} (hn : n ≤ 24) {K : D → Ev → Prop} (hK : ∀ (ns : List Str) (zs' : List Int) (s' : Int), ns.length = n → ns.Nodup → (∀ x ∈ ns, NameOk x) → HS zs' s' → K (.lst (ns.map .str)) [.heap zs' s', .no]) : WF (F__law_names [heapD zs s, .int (n : Int)]) K := by
  obtain ⟨v1, z1, s1, e1, a1, b1, h1⟩ := draw h (m := 26) (by decide) (by decide)
  obtain ⟨v2, z2, s2, e2, a2, b2, h2⟩ := draw h1 (m := 26) (by decide) (by decide)
  obtain ⟨n1, rfl⟩ := Int.eq_ofNat_of_zero_le a1
  obtain ⟨n2, rfl⟩ := Int.eq_ofNat_of_zero_le a2
  have l1 := low_one (d := n1) (by omega)
  have l2 := low_rep (low_one (d := n2) (by omega))
  obtain ⟨d, z3, s3, e3, hd, h3⟩ := pick h2 (ds := [.str "", .str "", .str ⟨#[97 + n1]⟩, .str (repS ⟨#[97 + n2]⟩ 2)]) (by simp) (by simp)
  obtain ⟨fr, rfl, fl, fs⟩ : ∃ fr : Str, d = .str fr ∧ fr.length ≤ 2 ∧ LowS fr := by
    simp only [List.mem_cons, List.not_mem_nil, or_false] at hd
    rcases hd with rfl | rfl | rfl | rfl
    · exact ⟨_, rfl, by decide, low_empty⟩
    · exact ⟨_, rfl, by decide, low_empty⟩
    · exact ⟨_, rfl, (by show 1 ≤ 2; decide), l1⟩
    · exact ⟨_, rfl, (by rw [l2.2]; show 2 * 1 ≤ 2; decide), l2.1⟩
  have hL : lettersS.length ≤ 1000000 := by decide +kernel
  have hL2 : lettersS.length ≤ 1000 := by decide +kernel
  have i1 := letter_at (n := n1) (by omega)
  have i2 := letter_at (n := n2) (by omega)
  have m2 : dMul (.str ⟨#[97 + n2]⟩) (.int 2) = some (.str (repS ⟨#[97 + n2]⟩ 2)) := by
    show (if _ then _ else _) = _
    rw [if_pos ⟨by decide, by decide, (by show 1 ≤ 1; decide), (by show 1 ≤ 1000; decide), low_ok l2.1⟩]
  have hn1 : (n : Int) ≤ 1000000 := by omega
  have hn2 : (-1000000 : Int) ≤ n := by omega
  simp [F__law_names, run_fin, g__law_names, e1, e2, hL, i1, i2, m2, e3, hn1, hn2]
  refine WS_rng (fun i e => ∃ (zs : List Int) (s : Int) (ns : List Str) (a b c d : Sl), e = [.heap zs s, .val (.int n), .val (.str lettersS), .own (.lst (ns.map .str)), .val (.str fr), a, b, c, d] ∧ HS zs s ∧ ns.length = i ∧ ns.Nodup ∧ ∀ x ∈ ns, NameOk x)
    ⟨_, _, [], _, _, _, _, rfl, h3, rfl, List.nodup_nil, fun _ h => absurd h List.not_mem_nil⟩ ?_ ?_
  · rintro i hi e ⟨zs, s, ns, a, b, c, d, rfl, hh, nl, nd, nok⟩
    refine ⟨_, rfl, ?_⟩
    obtain ⟨v3, z4, s4, e4, a3, b3, h4⟩ := draw hh (m := 3) (by decide) (by decide)
    obtain ⟨n3, rfl⟩ := Int.eq_ofNat_of_zero_le a3
    simp
    refine WR_lc (enc := fun i : Nat => D.int (0 + (i : Int))) (fun acc e => ∃ (zs : List Int) (s : Int) (ys : List Str), acc = ys.map .str ∧ e = [.heap zs s, .val (.int n), .val (.str lettersS), .own (.lst (ns.map .str)), .val (.str fr), .val (.int i), b, .no, d] ∧ HS zs s ∧ ∀ y ∈ ys, LowS y ∧ y.length = 1)
      (List.range (n3 + 1)) (by
        have q1 : (1 + (n3 : Int)) ≤ 1000000 := by omega
        have q2 : (-1000000 : Int) ≤ 1 + (n3 : Int) := by omega
        simp [e4, q1, q2]; exact ⟨rfl, rfl⟩) (by
        unfold rngItems
        rw [show (1 + (n3 : Int)).toNat = n3 + 1 by omega]) ?_ ?_ ?_
    · exact ⟨_, _, [], rfl, by simp, h4, fun _ h => absurd h List.not_mem_nil⟩
    · rintro j hj acc e ⟨zs, s, ys, rfl, rfl, hh, hy⟩
      refine ⟨_, rfl, ?_⟩
      obtain ⟨v5, z5, s5, e5, a5, b5, h5⟩ := draw hh (m := 26) (by decide) (by decide)
      obtain ⟨n5, rfl⟩ := Int.eq_ofNat_of_zero_le a5
      have i5 := letter_at (n := n5) (by omega)
      simp [e5, hL, i5]
      refine ⟨_, _, ys ++ [⟨#[97 + n5]⟩], by simp, ⟨rfl, rfl⟩, h5, fun y hy' => ?_⟩
      rcases List.mem_append.mp hy' with q | q
      · exact hy y q
      · rw [List.mem_singleton.mp q]
        exact ⟨low_one (by omega), rfl⟩
    · rintro acc e hl ⟨zs, s, ys, rfl, rfl, hh, hy⟩
      rw [List.length_map, List.length_range] at hl
      obtain ⟨w1, w2⟩ := join_word hy
      have sm := ones_sum hy
      have c1 : (ys.map fun x => x.length).sum + ys.length * ("" : Str).length ≤ 1000000 := by
        rw [sm]
        show ys.length + ys.length * 0 ≤ _
        omega
      have c2 := low_ok w1
      have c3 : fr.length + (Txt.join ("" : Str) ys).length ≤ 1000000 := by rw [w2]; omega
      have hw0 : Word (fr ++ Txt.join ("" : Str) ys) := by
        refine ⟨?_, ?_, low_app fs w1⟩
        · rw [app_len, w2]
          omega
        · rw [app_len, w2]
          omega
      simp [c1, c2, c3, hL2]
      refine WS_for (enc := fun i : Nat => .str ⟨#[97 + i]⟩) (fun m e => ∃ (wd : Str) (d : Sl), e = [.heap zs s, .val (.int n), .val (.str lettersS), .own (.lst (ns.map .str)), .val (.str fr), .val (.int i), .val (.str wd), .no, d] ∧ Word wd ∧ Fresh ns m wd)
        (List.range 26) strItems_letters ⟨_, _, rfl, hw0, fresh_zero _ _⟩ ?_ ?_
      · rintro m x hm e ⟨wd, d, rfl, hw, hf⟩
        have hm26 : m < 26 := by
          rcases Nat.lt_or_ge m 26 with q | q
          · exact q
          · rw [List.getElem?_eq_none (by rw [List.length_range]; exact q)] at hm; cases hm
        rw [List.getElem?_range hm26] at hm
        cases hm
        refine ⟨_, rfl, ?_⟩
        have hq := word_next (found := ns) hm26 hw
        have hf' := fresh_step hf
        unfold nextW at hq hf'
        have k1 : wd.length ≤ 1000000 := by have := hw.2.1; omega
        have k2 : LowS (cutS wd none (some 4)) := fun c hc => by
          rw [cut_list] at hc
          exact hw.2.2 c (List.mem_of_mem_take hc)
        have k3 : (cutS wd none (some 4)).length ≤ 4 := by
          rw [len_list (cutS _ _ _), cut_list, List.length_take]
          omega
        have k4 : (cutS wd none (some 4)).length + (Str.mk #[97 + m]).length ≤ 1000000 := by
          show _ + 1 ≤ _
          omega
        by_cases hi : wd ∈ ns
        · rw [if_pos hi] at hq hf'
          simp [hi, dCutS, k1, low_ok k2, k4]
          exact ⟨hq, hf'⟩
        · rw [if_neg hi] at hq hf'
          simp [hi]
          exact ⟨hq, hf'⟩
      · rintro e ⟨wd, d, rfl, hw, hf⟩
        rw [List.length_range] at hf
        have hfr := fresh_end hf (by omega)
        have k1 : ns.length < 1000000 := by omega
        simp [k1]
        refine ⟨_, _, ns ++ [wd], ⟨⟨rfl, rfl⟩, by simp⟩, hh, by simp [nl], nodup_snoc nd hfr, fun x hx => ?_⟩
        rcases List.mem_append.mp hx with q | q
        · exact nok x q
        · rw [List.mem_singleton.mp q]
          exact hw.name
  · rintro e ⟨zs, s, ns, a, b, c, d, rfl, hh, nl, nd, nok⟩
    simp
    exact hK ns zs s nl nd nok hh
theorem v_law_apart (rs : List Rm) (tk : List Str) (x : Str) : F__law_apart [.lst (rs.map fun r => .tup (r.map .str)), .lst (tk.map .str), .str x] = .ok (.bl (apartB rs tk x)) [.no, .no, .no] := by
  suffices H : WF (F__law_apart [.lst (rs.map fun r => .tup (r.map .str)), .lst (tk.map .str), .str x]) fun z o => z = .bl (apartB rs tk x) ∧ o = [.no, .no, .no] by
    obtain ⟨z, o, h, rfl, rfl⟩ := H.out
    exact h
  generalize hK : (fun (z : D) (o : Ev) => z = .bl (apartB rs tk x) ∧ o = [.no, .no, .no]) = K
  have hK' : ∀ b, b = apartB rs tk x → K (.bl b) [.no, .no, .no] := fun b hb => by rw [← hK, hb]; exact ⟨rfl, rfl⟩
  clear hK
  simp [F__law_apart, run_fin, g__law_apart]
  refine WS_for (enc := fun r : Rm => D.tup (r.map .str)) (fun i e => ∃ a b, e = [.val (.lst (rs.map fun r => .tup (r.map .str))), .val (.lst (tk.map .str)), .val (.str x), a, b] ∧ ((rs.take i).all fun r => !(decide (x ∈ r) && tk.any fun y => decide (y ∈ r))) = true)
    rs rfl ⟨_, _, rfl, rfl⟩ ?_ ?_
  · rintro i r hr e ⟨a, b, rfl, hall⟩
    refine ⟨_, rfl, ?_⟩
    have hk : rs.take (i + 1) = rs.take i ++ [r] := by rw [List.take_add_one, hr]; rfl
    rw [hk, List.all_append, hall]
    by_cases hx : x ∈ r
    · simp [hx]
      rw [eLc_y (enc := .str) tk (fun y => .bl (decide (y ∈ r))) ?_ ?_]
      · cases ha : tk.any fun y => decide (y ∈ r) with
        | true =>
          simp [ha]
          refine hK' _ ?_
          unfold apartB
          have : (rs.all fun r => !(decide (x ∈ r) && tk.any fun y => decide (y ∈ r))) = false := List.all_eq_false.mpr ⟨r, List.mem_of_getElem? hr, by simp [hx, ha]⟩
          rw [this]
          rfl
        | false =>
          simp [ha]
          simpa using ha
      · simp
      · intro y hy
        simp
    · simp [hx]
  · rintro e ⟨a, b, rfl, hall⟩
    rw [List.take_of_length_le (Nat.le_refl _)] at hall
    simp
    refine hK' _ ?_
    unfold apartB
    rw [hall]
    simp
theorem rooms_w {zs : List Int} {s : Int} (h : HS zs s) {names : List Str} {many most : Nat} (hm1 : 1 ≤ many) (hm9 : many ≤ 10) (hs3 : 3 ≤ most) (hs5 : most ≤ 5) (hn1 : 5 ≤ names.length) (hn : names.length ≤ 24) (nok : ∀ x ∈ names, NameOk x) (nd : names.Nodup) {K : D → Ev → Prop}
    (hK : ∀ (rs : List Rm) (zs' : List Int) (s' : Int), RoomsOk rs → (∀ r ∈ rs, ∀ x ∈ r, x ∈ names) → HS zs' s' → K (.lst (rs.map fun r => .tup (r.map .str))) [.heap zs' s', .no, .no, .no]) : WF (F__law_rooms [heapD zs s, .lst (names.map .str), .int (many : Int), .int (most : Int)]) K := by
  have q1 : (many : Int) ≤ 1000000 := by omega
  have q2 : (-1000000 : Int) ≤ many := by omega
  simp [F__law_rooms, run_fin, g__law_rooms, q1, q2]
  refine WS_rng (fun i e => ∃ (zs : List Int) (s : Int) (rs : List Rm) (us : List Str) (a b c d e' f g : Sl), e = [.heap zs s, .val (.lst (names.map .str)), .val (.int many), .val (.int most), .own (.lst (rs.map fun r => .tup (r.map .str))), .val (.lst (us.map .str)), a, b, c, d, e', f, g] ∧ HS zs s ∧ Mk names rs us ∧ rs.length ≤ i ∧ (1 ≤ i → 1 ≤ rs.length))
    ⟨_, _, [], [], .no, .no, .no, .no, .no, .no, .no, by simp, h, mk_nil names, Nat.le_refl 0, fun z => by omega⟩ ?_ ?_
  · rintro i hi e ⟨zs, s, rs, us, a, b, c, d, e', f, g, rfl, hh, M, rl, r1⟩
    refine ⟨_, rfl, ?_⟩
    obtain ⟨v3, z4, s4, e4, a3, b3, h4⟩ := draw hh (m := (most : Int) - 2) (by omega) (by omega)
    obtain ⟨n3, rfl⟩ := Int.eq_ofNat_of_zero_le a3
    have q3 : (3 + (n3 : Int)) ≤ 1000000 := by omega
    have q4 : (-1000000 : Int) ≤ 3 + (n3 : Int) := by omega
    simp [e4, q3, q4]
    refine WS_rng (fun j e => ∃ (zs : List Int) (s : Int) (rm : List Str) (a b c d : Sl), e = [.heap zs s, .val (.lst (names.map .str)), .val (.int many), .val (.int most), .own (.lst (rs.map fun r => .tup (r.map .str))), .val (.lst (us.map .str)), .val (.int i), .val (.int (3 + (n3 : Int))), .own (.lst (rm.map .str)), a, b, c, d] ∧ HS zs s ∧ Mkr names rs us rm j)
      ⟨_, _, [], d, e', f, g, by simp, h4, mkr_nil names rs us⟩ ?_ ?_
    · rintro j hj e ⟨zs, s, rm, a, b, c, d, rfl, hh, m⟩
      refine ⟨_, rfl, ?_⟩
      have hj5 : j < 5 := by omega
      have hus : us.length ≤ 24 := Nat.le_trans (nodup_sub_len M.nd M.sub) hn
      have hrm : rm.length < 1000000 := by have := m.len; omega
      simp
      rw [eLc_q (enc := .str) us (fun x => apartB rs rm x) .str ?h1 ?h2]
      case h1 => simp
      case h2 =>
        intro x hx
        simp [v_law_apart]
      simp
      rw [eLc_q (enc := .str) names (fun x => !decide (x ∈ us) && !decide (x ∈ rm)) .str ?h3 ?h4]
      case h3 => simp
      case h4 =>
        intro x hx
        by_cases hu : x ∈ us <;> simp [hu]
      have ho : ∀ x ∈ us.filter (apartB rs rm), x ∈ names ∧ x ∉ rm ∧ ∀ r ∈ rs, x ∈ r → ∀ y ∈ rm, y ∉ r := fun x hx => by
        obtain ⟨h1, h2⟩ := List.mem_filter.mp hx
        obtain ⟨h3, h4⟩ := apart_of h2
        exact ⟨M.sub x h1, h3, h4⟩
      have hw : ∀ x ∈ names.filter (fun x => !decide (x ∈ us) && !decide (x ∈ rm)), x ∈ names ∧ x ∉ rm ∧ ∀ r ∈ rs, x ∈ r → ∀ y ∈ rm, y ∉ r := fun x hx => by
        obtain ⟨h1, h2⟩ := List.mem_filter.mp hx
        simp at h2
        exact ⟨h1, h2.2, fun r hr z => absurd ((M.uif x).mpr ⟨r, hr, z⟩) h2.1⟩
      have hol : (us.filter (apartB rs rm)).length ≤ 1000 := Nat.le_trans (List.length_filter_le _ _) (by omega)
      have hwl : (names.filter (fun x => !decide (x ∈ us) && !decide (x ∈ rm))).length ≤ 1000 := Nat.le_trans (List.length_filter_le _ _) (by omega)
      have hstay : us.filter (apartB rs rm) = [] → names.filter (fun x => !decide (x ∈ us) && !decide (x ∈ rm)) = [] → us ≠ [] := fun _ e2 e3 => by
        subst e3
        have : ∀ x ∈ names, x ∈ rm := fun x hx => by
          refine Classical.byContradiction fun z => ?_
          have : x ∈ names.filter (fun x => !decide (x ∈ ([] : List Str)) && !decide (x ∈ rm)) := List.mem_filter.mpr ⟨hx, by simp [z]⟩
          rw [e2] at this
          exact absurd this List.not_mem_nil
        have := nodup_sub_len nd this
        have := m.len
        omega
      generalize us.filter (apartB rs rm) = old at ho hol hstay
      generalize names.filter (fun x => !decide (x ∈ us) && !decide (x ∈ rm)) = new at hw hwl hstay
      have hfin : ∀ (zs : List Int) (s : Int) (x : Str), HS zs s → x ∈ names → x ∉ rm → (∀ r ∈ rs, x ∈ r → ∀ y ∈ rm, y ∉ r) → Mkr names rs us (rm ++ [x]) (j + 1) := fun _ _ x _ h1 h2 h3 => mkr_add m h1 h2 h3
      have pk : ∀ (ds : List Str), ds ≠ [] → ds.length ≤ 1000 → ∀ {zs : List Int} {s : Int}, HS zs s → ∃ (x : Str) (zs' : List Int) (s' : Int), F__law_pick [heapD zs s, .lst (ds.map .str)] = .ok (.str x) [.heap zs' s', .no] ∧ x ∈ ds ∧ HS zs' s' := fun ds h0 h1 zs s hh => by
        obtain ⟨d, zs', s', e, hd, h'⟩ := pick hh (ds := ds.map .str) (by simpa using h0) (by simpa using h1)
        obtain ⟨x, hx, rfl⟩ := List.mem_map.mp hd
        exact ⟨x, zs', s', e, hx, h'⟩
      by_cases h0 : old = []
      · by_cases h1 : new = []
        · simp [h0, h1]
          exact ⟨_, _, rm, ⟨⟨rfl, rfl⟩, rfl⟩, hh, mkr_stay m (hstay h0 h1)⟩
        · obtain ⟨x, zs', s', e1, hx, hh'⟩ := pk new h1 hwl hh
          obtain ⟨x1, x2, x3⟩ := hw x hx
          simp [h0, h1, e1, hrm]
          exact ⟨_, _, rm ++ [x], ⟨⟨rfl, rfl⟩, by simp⟩, hh', mkr_add m x1 x2 x3⟩
      · by_cases h1 : new = []
        · obtain ⟨x, zs', s', e1, hx, hh'⟩ := pk old h0 hol hh
          obtain ⟨x1, x2, x3⟩ := ho x hx
          simp [h0, h1, e1, hrm]
          exact ⟨_, _, rm ++ [x], ⟨⟨rfl, rfl⟩, by simp⟩, hh', mkr_add m x1 x2 x3⟩
        · obtain ⟨v5, z5, s5, e5, a5, b5, h5⟩ := draw hh (m := 3) (by decide) (by decide)
          by_cases hv : v5 = 0
          · obtain ⟨x, zs', s', e1, hx, hh'⟩ := pk old h0 hol h5
            obtain ⟨x1, x2, x3⟩ := ho x hx
            subst hv
            simp [h0, h1, e1, e5, hrm]
            exact ⟨_, _, rm ++ [x], ⟨⟨rfl, rfl⟩, by simp⟩, hh', mkr_add m x1 x2 x3⟩
          · obtain ⟨x, zs', s', e1, hx, hh'⟩ := pk new h1 hwl h5
            obtain ⟨x1, x2, x3⟩ := hw x hx
            simp [h0, h1, e1, e5, hv, hrm]
            exact ⟨_, _, rm ++ [x], ⟨⟨rfl, rfl⟩, by simp⟩, hh', mkr_add m x1 x2 x3⟩
    · rintro e ⟨zs, s, rm, a, b, c, d, rfl, hh, m⟩
      have hrm := m.len
      have hus : us.length ≤ 24 := Nat.le_trans (nodup_sub_len M.nd M.sub) hn
      by_cases h3 : 3 ≤ rm.length
      · have h3' : (2 : Int) < rm.length := by omega
        have hrl : rs.length < 1000000 := by omega
        simp [h3', hrl]
        rw [eLc_qo (enc := .str) (j := 8) (v := 11) (d := .lst (rm.map .str)) rm (fun x => !decide (x ∈ us)) .str ?h1 (by decide) ?h2 ?h3]
        case h1 => simp
        case h2 => simp
        case h3 =>
          intro x hx
          by_cases hu : x ∈ us <;> simp [hu]
        have hfl : us.length + (rm.filter fun x => !decide (x ∈ us)).length ≤ 1000000 := by
          have := List.length_filter_le (fun x => !decide (x ∈ us)) rm
          omega
        simp [hfl]
        have hM := mk_add M m (by omega) h3 nok (sortS_perm rm) (sortS_sorted rm)
        refine ⟨_, _, rs ++ [sortS rm], us ++ rm.filter (fun x => decide (x ∉ us)), ⟨⟨rfl, rfl⟩, by simp, by simp⟩, hh, hM, by simp; omega, by simp⟩
      · have h3' : ¬ ((2 : Int) < rm.length) := by omega
        simp [h3']
        have hne : us ≠ [] := fun z => by
          have := m.first z
          omega
        refine ⟨_, _, rs, us, ⟨⟨rfl, rfl⟩, rfl, rfl⟩, hh, M, by omega, ?_⟩
        obtain ⟨x, hx⟩ := List.exists_mem_of_ne_nil us hne
        obtain ⟨r, hr, _⟩ := (M.uif x).mp hx
        exact List.length_pos_of_mem hr
  · rintro e ⟨zs, s, rs, us, a, b, c, d, e', f, g, rfl, hh, M, rl, r1⟩
    simp
    refine hK rs zs s (mk_rooms M (r1 hm1) (by omega) hn) (fun r hr x hx => M.sub x ((M.uif x).mpr ⟨r, hr, hx⟩)) hh
theorem v_known {rs : List Rm} (ok : RoomsOk rs) : F__law_known [.lst (rs.map fun r => .tup (r.map .str))] = .ok (.lst ((outs rs).map .str)) [.no] := by
  suffices H : WF (F__law_known [.lst (rs.map fun r => .tup (r.map .str))]) fun z o => z = .lst ((outs rs).map .str) ∧ o = [.no] by
    obtain ⟨z, o, h, rfl, rfl⟩ := H.out
    exact h
  generalize hK : (fun (z : D) (o : Ev) => z = .lst ((outs rs).map .str) ∧ o = [.no]) = K
  have hK' : K (.lst ((outs rs).map .str)) [.no] := by rw [← hK]; exact ⟨rfl, rfl⟩
  clear hK
  simp [F__law_known, run_fin, g__law_known]
  refine WS_for (enc := fun r : Rm => D.tup (r.map .str)) (fun i e => ∃ (us : List Str) (a b : Sl), e = [.val (.lst (rs.map fun r => .tup (r.map .str))), .val (.lst (us.map .str)), a, b] ∧ us.Nodup ∧ (∀ x, x ∈ us ↔ ∃ r ∈ rs.take i, x ∈ r))
    rs rfl ⟨[], .no, .no, by simp, List.nodup_nil, fun x => by simp⟩ ?_ ?_
  · rintro i r hr e ⟨us, a, b, rfl, nd, hu⟩
    refine ⟨_, rfl, ?_⟩
    have hk : rs.take (i + 1) = rs.take i ++ [r] := by rw [List.take_add_one, hr]; rfl
    have hro := ok.ok r (List.mem_of_getElem? hr)
    have hus : us.length ≤ 24 := by
      refine Nat.le_trans (nodup_sub_len nd fun x hx => ?_) ok.most
      obtain ⟨q, hq, hxq⟩ := (hu x).mp hx
      exact mem_outsOf.mpr ⟨q, List.mem_of_mem_take hq, hxq⟩
    simp
    rw [eLc_q (enc := .str) r (fun x => !decide (x ∈ us)) .str ?h1 ?h2]
    case h1 => simp
    case h2 =>
      intro x hx
      by_cases h : x ∈ us <;> simp [h]
    have hl : us.length + (r.filter fun x => !decide (x ∈ us)).length ≤ 1000000 := by
      have := List.length_filter_le (fun x => !decide (x ∈ us)) r
      have := hro.2.1
      omega
    simp [hl]
    refine ⟨us ++ r.filter (fun x => !decide (x ∈ us)), by simp, ?_, fun x => ?_⟩
    · rw [List.nodup_append]
      refine ⟨nd, List.Nodup.sublist List.filter_sublist hro.2.2.2.nodup, fun a ha b hb e => ?_⟩
      rw [List.mem_filter] at hb
      subst e
      simp [ha] at hb
    · rw [List.mem_append, hu x, List.mem_filter, hk]
      constructor
      · rintro (⟨q, hq, hxq⟩ | ⟨h, _⟩)
        · exact ⟨q, List.mem_append_left _ hq, hxq⟩
        · exact ⟨r, List.mem_append_right _ (List.mem_singleton.mpr rfl), h⟩
      · rintro ⟨q, hq, hxq⟩
        rcases List.mem_append.mp hq with z | z
        · exact .inl ⟨q, z, hxq⟩
        · rw [List.mem_singleton.mp z] at hxq
          by_cases h : x ∈ us
          · exact .inl ((hu x).mp h)
          · exact .inr ⟨hxq, by simp [h]⟩
  · rintro e ⟨us, a, b, rfl, nd, hu⟩
    rw [List.take_of_length_le (Nat.le_refl _)] at hu
    have : sortS us = outs rs := asc_eq (sortS_asc nd) (outs_asc rs) fun x => by rw [mem_sortS, hu x, mem_outs]
    simp [this]
    exact hK'
end Q06


set_option Elab.async false
set_option linter.all false
set_option maxRecDepth 100000
set_option maxHeartbeats 1000000
/-! the law's own walk through all lots -/
namespace Q06
open PySem PySem.Spec PyProof.Rows L2 RK PD
@[simp] theorem tT_len (L : List (List Str)) : (tT L).length = L.length := by
  unfold tT
  rw [List.length_map]
def sL (l : List Str) : D := .lst (l.map .str)
def nearL (rs : List Rm) (y : Str) : List Str := (outs rs).filter fun o => decide (ltS y o) && apartB rs [y] o
theorem apart1 {rs : List Rm} {y x : Str} : apartB rs [y] x = true ↔ x ≠ y ∧ ∀ r ∈ rs, x ∈ r → y ∉ r := by
  unfold apartB
  simp [List.all_eq_true]
  constructor
  · rintro ⟨h1, h2⟩
    exact ⟨h2, fun r hr hx hy => (h1 r hr).elim (fun z => z hx) fun z => z hy⟩
  · rintro ⟨h1, h2⟩
    exact ⟨fun r hr => Classical.byCases (fun hx => .inr (h2 r hr hx)) fun hx => .inl hx, h1⟩
theorem lots_asc (rs : List Rm) : ∀ n, ∀ l ∈ lotsN rs n, Asc l
  | 0 => fun l hl => by rw [List.mem_singleton.mp hl]; exact List.Pairwise.nil
  | n + 1 => fun l hl => by
    obtain ⟨m, hm, h⟩ := List.mem_flatMap.mp hl
    obtain ⟨x, hx, rfl⟩ := List.mem_map.mp h
    have ha := lots_asc rs n m hm
    have hx := (List.mem_filter.mp hx).2
    refine List.pairwise_append.mpr ⟨ha, List.pairwise_singleton _ _, fun y hy z hz => ?_⟩
    rw [List.mem_singleton.mp hz]
    unfold mayEnd at hx
    rcases List.eq_nil_or_concat m with rfl | ⟨ys, w, rfl⟩
    · exact absurd hy List.not_mem_nil
    · rw [List.concat_eq_append] at *
      rw [List.getLast?_append, Bool.and_eq_true] at hx
      have hw : ltS w x := by simpa using hx.1
      rcases List.mem_append.mp hy with h | h
      · exact ltS_trans ((List.pairwise_append.mp ha).2.2 y h w (by simp)) hw
      · rw [List.mem_singleton.mp h]; exact hw
theorem fit_eq {rs : List Rm} (ok : RoomsOk rs) {ys : List Str} {w : Str} (ha : Asc (ys ++ [w])) : (nearL rs w).filter (fun x => (ys ++ [w]).all fun o => decide (x ∈ nearL rs o)) = (outs rs).filter (mayEnd rs (ys ++ [w])) := by
  unfold nearL
  rw [List.filter_filter]
  refine List.filter_congr fun x hx => ?_
  have hl : (ys ++ [w]).getLast? = some w := by simp
  unfold mayEnd
  rw [hl]
  show _ = (decide (ltS w x) && _)
  have hlt : ltS w x → ∀ o ∈ ys ++ [w], ltS o x := fun h o ho => by
    rcases List.mem_append.mp ho with q | q
    · exact ltS_trans ((List.pairwise_append.mp ha).2.2 o q w (by simp)) h
    · rw [List.mem_singleton.mp q]; exact h
  have key : ∀ o ∈ ys ++ [w], ltS o x → (apartB rs [o] x = true ↔ x ∉ besides rs o) := fun o ho h => by
    rw [apart1, mem_besides ok]
    have hne : x ≠ o := fun e => ltS_irrefl o (by rw [e] at h; exact h)
    constructor
    · rintro ⟨_, h2⟩ ⟨_, r, hr, h3, h4⟩
      exact h2 r hr h4 h3
    · intro h2
      exact ⟨hne, fun r hr h3 h4 => h2 ⟨hne, r, hr, h4, h3⟩⟩
  by_cases h : ltS w x
  · have h1 : ((ys ++ [w]).all fun o => decide (x ∈ (outs rs).filter fun z => decide (ltS o z) && apartB rs [o] z)) = !((ys ++ [w]).any fun y => decide (x ∈ besides rs y)) := by
      rw [List.not_any_eq_all_not]
      rw [Bool.eq_iff_iff, List.all_eq_true, List.all_eq_true]
      constructor
      · intro q o ho
        have := of_decide_eq_true (q o ho)
        rw [List.mem_filter, Bool.and_eq_true] at this
        have := (key o ho (hlt h o ho)).mp this.2.2
        simp [this]
      · intro q o ho
        have q' := q o ho
        simp at q'
        refine decide_eq_true ?_
        rw [List.mem_filter, Bool.and_eq_true]
        exact ⟨hx, decide_eq_true (hlt h o ho), (key o ho (hlt h o ho)).mpr q'⟩
    rw [h1, decide_eq_true h, Bool.true_and]
    cases hb : (ys ++ [w]).any fun y => decide (x ∈ besides rs y) with
    | true => simp
    | false =>
      have : x ∉ besides rs w := by
        have := List.any_eq_false.mp hb w (by simp)
        simpa using this
      rw [(key w (by simp) h).mpr this]
      rfl
  · rw [decide_eq_false h]
    simp
theorem step_one (rs : List Rm) : stepL rs [[]] = (outs rs).map fun x => [x] := by
  unfold stepL
  rw [List.flatMap_cons, List.flatMap_nil, List.append_nil, List.filter_eq_self.mpr fun x hx => ?_]
  · rfl
  · rfl
theorem step_le {rs : List Rm} (ok : RoomsOk rs) (L : List (List Str)) : (stepL rs L).length ≤ 24 * L.length := by
  have h24 : (outs rs).length ≤ 24 := by
    rw [show (outs rs).length = (RK.outsOf rs).length from (sortS_perm _).length_eq]
    exact ok.most
  unfold stepL
  rw [List.length_flatMap]
  exact sum_le _ 24 L fun l _ => by
    rw [List.length_map]
    exact Nat.le_trans (List.length_filter_le _ _) h24
def nearK (rs : List Rm) (i : Nat) : List (Str × List Str) := ((outs rs).take i).map fun y => (y, nearL rs y)
theorem nearK_succ {rs : List Rm} {i : Nat} {y : Str} (hy : (outs rs)[i]? = some y) : putS (nearK rs i) y (nearL rs y) = nearK rs (i + 1) := by
  have hk : (outs rs).take (i + 1) = (outs rs).take i ++ [y] := by rw [List.take_add_one, hy]; rfl
  have hil : i < (outs rs).length := by
    rcases Nat.lt_or_ge i (outs rs).length with h | h
    · exact h
    · rw [List.getElem?_eq_none h] at hy; cases hy
  have hnew : y ∉ (nearK rs i).map (·.1) := by
    unfold nearK
    rw [List.map_map]
    show y ∉ ((outs rs).take i).map fun z => z
    rw [List.map_id']
    have := (outs_asc rs).nodup
    have e : (outs rs) = (outs rs).take i ++ (outs rs).drop i := (List.take_append_drop i _).symm
    rw [e] at this
    have hd : y ∈ (outs rs).drop i := by
      rw [List.getElem?_eq_getElem hil] at hy
      cases hy
      rw [List.drop_eq_getElem_cons hil]
      exact List.mem_cons_self
    intro z
    exact (List.nodup_append.mp this).2.2 y z y hd rfl
  rw [putS_new hnew]
  unfold nearK
  rw [hk, List.map_append]
  rfl
theorem nearK_look {rs : List Rm} {y : Str} (hy : y ∈ outs rs) : (nearK rs (outs rs).length).lookup y = some (nearL rs y) := by
  unfold nearK
  rw [List.take_of_length_le (Nat.le_refl _)]
  exact lookup_mapK (nearL rs) y (outs rs) hy
def foundL (rs : List Rm) (m : Nat) : List D := (List.range (m + 1)).map fun j => .lst (tT (lotsN rs j))
theorem foundL_succ (rs : List Rm) (m : Nat) : foundL rs (m + 1) = foundL rs m ++ [.lst (tT (lotsN rs (m + 1)))] := by
  unfold foundL
  rw [List.range_succ, List.map_append]
  rfl
theorem foundL_last (rs : List Rm) (m : Nat) : atI (foundL rs m) (-1) = some (.lst (tT (lotsN rs m))) := by
  rw [atI_neg1]
  unfold foundL
  rw [List.range_succ, List.map_append]
  simp
theorem lots_w {rs : List Rm} (ok : RoomsOk rs) {many : Nat} (hm : many ≤ 300) {K : D → Ev → Prop}
    (hK : ∀ m, m ≤ 5 → (∀ i, i < m → (lotsN rs i).length ≤ many) → (m < 5 → many < (lotsN rs m).length) → K (.lst (foundL rs m)) [.no, .no]) :
    WF (F__law_lots [.lst (rs.map fun r => .tup (r.map .str)), .int (many : Int)]) K := by
  have h24 : (outs rs).length ≤ 24 := by
    rw [show (outs rs).length = (RK.outsOf rs).length from (sortS_perm _).length_eq]
    exact ok.most
  simp [F__law_lots, run_fin, g__law_lots, v_known ok]
  refine WS_for (enc := .str) (fun i e => ∃ (a : Sl), e = [.val (.lst (rs.map fun r => .tup (r.map .str))), .val (.int many), .val (.lst ((outs rs).map .str)), .own (.dic false (sK sL (nearK rs i))), .own (.lst (foundL rs 0)), a, .no, .no, .no, .no, .no])
    (outs rs) rfl ⟨.no, by rfl⟩ ?_ ?_
  · rintro i y hy e ⟨a, rfl⟩
    refine ⟨_, rfl, ?_⟩
    simp
    rw [eLc_q (enc := .str) (outs rs) (fun o => decide (ltS y o) && apartB rs [y] o) .str ?h1 ?h2]
    case h1 => simp
    case h2 =>
      intro x hx
      have := v_law_apart rs [y] x
      simp at this
      by_cases h : ltS y x <;> simp [h, this]
    have hp := dPut_sK sL y (nearL rs y) (nearK rs i)
    rw [nearK_succ hy] at hp
    have hp' : dPut false (sK sL (nearK rs i)) (.str y) (.lst (((outs rs).filter fun o => decide (ltS y o) && apartB rs [y] o).map .str)) = _ := hp
    have hl : (nearK rs i).length < 1000000 := by
      unfold nearK
      rw [List.length_map, List.length_take]
      omega
    simp [hp', hl]
  · rintro e ⟨a, rfl⟩
    have hdl : ∀ y ∈ outs rs, dGet false (sK sL (nearK rs (outs rs).length)) (.str y) = some (some (.lst ((nearL rs y).map .str))) := fun y hy => by
      rw [dGet_sK, nearK_look hy]
      rfl
    generalize sK sL (nearK rs (outs rs).length) = nd at hdl
    refine WS_rng (fun i e => ∃ (a c d f g : Sl), e = [.val (.lst (rs.map fun r => .tup (r.map .str))), .val (.int many), .val (.lst ((outs rs).map .str)), .own (.dic false nd), .own (.lst (foundL rs i)), a, .no, c, d, f, g] ∧ ∀ j, j < i → (lotsN rs j).length ≤ many)
      ⟨_, _, _, _, _, rfl, fun j hj => absurd hj (Nat.not_lt_zero j)⟩ ?_ ?_
    · rintro i hi e ⟨a, c, d, f, g, rfl, hj⟩
      refine ⟨_, rfl, ?_⟩
      have hi5 : i < 5 := hi
      simp [foundL_last]
      by_cases hb : many < (lotsN rs i).length
      · simp [hb]
        exact hK i (by omega) hj fun _ => hb
      · have hle : (lotsN rs i).length ≤ 300 := by omega
        have hns := lotsN_names rs i
        have hln := lotsN_len rs i
        have has := lots_asc rs i
        have h0L : i = 0 → lotsN rs i = [[]] := fun z => by subst z; rfl
        simp [hb, foundL_last]
        have hsucc : lotsN rs (i + 1) = stepL rs (lotsN rs i) := rfl
        generalize hLe : lotsN rs i = L at *
        refine WS_for (enc := fun l : List Str => .tup (l.map .str)) (fun j e => ∃ (a f g : Sl), e = [.val (.lst (rs.map fun r => .tup (r.map .str))), .val (.int many), .val (.lst ((outs rs).map .str)), .own (.dic false nd), .own (.lst (foundL rs i)), a, .no, .val (.int (1 + (i : Int))), .val (.lst (tT (stepL rs (L.take j)))), f, g])
          L rfl ⟨a, f, g, by simp [tT, stepL]⟩ ?_ ?_
        · rintro j l hl e ⟨a, f, g, rfl⟩
          refine ⟨_, rfl, ?_⟩
          have hk : L.take (j + 1) = L.take j ++ [l] := by rw [List.take_add_one, hl]; rfl
          have hmem := List.mem_of_getElem? hl
          have hst : stepL rs (L.take j ++ [l]) = stepL rs (L.take j) ++ ((outs rs).filter (mayEnd rs l)).map fun x => l ++ [x] := by
            unfold stepL
            rw [List.flatMap_append]
            simp
          rw [hk]
          rcases List.eq_nil_or_concat l with rfl | ⟨ys, w, rfl⟩
          · have hi0 : i = 0 := by
              have := hln [] hmem
              exact this.symm
            have hL := h0L hi0
            subst hL
            have hj0 : j = 0 := by
              cases j with
              | zero => rfl
              | succ j => simp at hl
            subst hj0
            simp
            rw [eLc_y (enc := .str) (outs rs) (fun x => .tup [.str x]) ?h1 ?h2]
            case h1 => simp
            case h2 =>
              intro x hx
              simp
            simp
            rw [step_one]
            simp [tT]
          · rw [List.concat_eq_append] at *
            have hlast : atI (ys ++ [w]) (-1) = some w := by rw [atI_neg1]; simp
            have hwo : w ∈ outs rs := hns _ hmem w (by simp)
            have hne : ys ++ [w] ≠ [] := by simp
            have hfe := fit_eq ok (has _ hmem)
            have hlo := hns _ hmem
            have hl5 := hln _ hmem
            have hsl : (stepL rs (L.take j)).length ≤ 24 * 300 := by
              have := step_le ok (L.take j)
              have h2 : (L.take j).length ≤ L.length := by rw [List.length_take]; omega
              omega
            generalize ys ++ [w] = lot at *
            simp [hne]
            rw [eLc_q (enc := .str) (nearL rs w) (fun x => lot.all fun o => decide (x ∈ nearL rs o)) .str ?h1 ?h2]
            case h1 => simp [hlast, hdl w hwo]
            case h2 =>
              intro x hx
              simp
              rw [eLc_y (enc := .str) lot (fun o => .bl (decide (x ∈ nearL rs o))) ?h3 ?h4]
              case h3 => simp
              case h4 =>
                intro o ho
                simp [hdl o (hlo o ho)]
              simp
            rw [hfe]
            simp
            rw [eLc_y (enc := .str) ((outs rs).filter (mayEnd rs lot)) (fun x => .tup ((lot ++ [x]).map .str)) ?h5 ?h6]
            case h5 => simp
            case h6 =>
              intro x hx
              have : lot.length + 1 ≤ 1000000 := by omega
              simp [this]
            have hfl : (stepL rs (L.take j)).length + ((outs rs).filter (mayEnd rs lot)).length ≤ 1000000 := by
              have := List.length_filter_le (mayEnd rs lot) (outs rs)
              omega
            simp [hfl]
            rw [hst]
            simp [tT]
        · rintro e ⟨a, f, g, rfl⟩
          rw [List.take_of_length_le (Nat.le_refl _), ← hsucc]
          have hfd : (foundL rs i).length < 1000000 := by
            unfold foundL
            rw [List.length_map, List.length_range]
            omega
          simp [hfd, foundL_succ]
          intro j hj'
          by_cases e : j = i
          · subst e
            rw [hLe]
            omega
          · exact hj j (by omega)
    · rintro e ⟨a, c, d, f, g, rfl, hj⟩
      simp
      exact hK 5 (Nat.le_refl 5) hj fun h => absurd h (Nat.lt_irrefl 5)
end Q06


set_option Elab.async false
set_option linter.all false
set_option maxRecDepth 100000
set_option maxHeartbeats 1000000
/-! EV4: counting lots that do not clash; rows of texts in order. -/
namespace PD
open PySem PySem.Spec PyProof.Rows L2 RK
/-! ### data that equal themselves -/
mutual
theorem eqv_refl : ∀ (d : D) (p : PyData), py d = some p → PyData.eqv p p = true
  | .non, _, e => by cases e; rfl
  | .bl b, _, e => by cases e; simp [PyData.eqv]
  | .int i, _, e => by cases e; simp
  | .str s, _, e => by cases e; simp
  | .tup ds, _, e => by
    obtain ⟨l, e1, rfl⟩ := Option.map_eq_some_iff.mp (show (pys ds).map PyData.tuple = some _ from e)
    exact eqvAll_refl' ds l e1
  | .lst ds, _, e => by
    obtain ⟨l, e1, rfl⟩ := Option.map_eq_some_iff.mp (show (pys ds).map PyData.list = some _ from e)
    exact eqvAll_refl' ds l e1
  | .dic _ _, _, e => by cases e
  | .obj _ _, _, e => by cases e
  | .scr _, _, e => by cases e
theorem eqvAll_refl' : ∀ (ds : List D) (ps : List PyData), pys ds = some ps → PyData.eqvAll ps ps = true
  | [], _, e => by cases e; rfl
  | d :: ds, _, e => by
    rw [pys_cons] at e
    obtain ⟨p, e1, e2⟩ := Option.bind_eq_some_iff.mp e
    obtain ⟨l, e3, rfl⟩ := Option.map_eq_some_iff.mp e2
    show (PyData.eqv p p && PyData.eqvAll l l) = true
    rw [eqv_refl d p e1, eqvAll_refl' ds l e3]
    rfl
end
theorem dEqv_self {d : D} {p : PyData} (h : py d = some p) (hd : p.depth ≤ 60) : dEqv d d = some true := by
  rw [eqv_of h h hd hd, eqv_refl d p h]
/-! ### counting -/
section
variable {α β : Type}
def cntS (f : List α → Nat) (cl : α → α → Bool) : List α → Nat
  | [] => 0
  | x :: xs => f (xs.filter fun y => !cl x y) + cntS f cl xs
def cnt (cl : α → α → Bool) : Nat → List α → Nat
  | 0 => fun _ => 1
  | k + 1 => cntS (cnt cl k) cl
theorem cnt_perm {cl : α → α → Bool} (sy : ∀ x y, cl x y = cl y x) : ∀ (k : Nat) {l m : List α}, l.Perm m → cnt cl k l = cnt cl k m
  | 0, _, _, _ => rfl
  | k + 1, l, m, p => by
    have ih := @cnt_perm cl sy k
    show cntS (cnt cl k) cl l = cntS (cnt cl k) cl m
    induction p with
    | nil => rfl
    | cons x p ihp =>
      show cnt cl k _ + _ = cnt cl k _ + _
      rw [ih (p.filter _), ihp]
    | swap x y l =>
      show cnt cl k ((x :: l).filter fun z => !cl y z) + (cnt cl k (l.filter fun z => !cl x z) + cntS (cnt cl k) cl l) = cnt cl k ((y :: l).filter fun z => !cl x z) + (cnt cl k (l.filter fun z => !cl y z) + cntS (cnt cl k) cl l)
      cases h : cl y x with
      | true =>
        rw [List.filter_cons, List.filter_cons, h, sy x y, h]
        show cnt cl k (l.filter fun z => !cl y z) + _ = cnt cl k (l.filter fun z => !cl x z) + _
        omega
      | false =>
        rw [List.filter_cons, List.filter_cons, h, sy x y, h]
        show cnt cl k (x :: l.filter fun z => !cl y z) + _ = cnt cl k (y :: l.filter fun z => !cl x z) + _
        cases k with
        | zero => rfl
        | succ k =>
          have e : (l.filter fun z => !cl y z).filter (fun z => !cl x z) = (l.filter fun z => !cl x z).filter fun z => !cl y z := by
            rw [List.filter_filter, List.filter_filter]
            exact List.filter_congr fun z _ => Bool.and_comm _ _
          show (cnt cl k ((l.filter fun z => !cl y z).filter fun z => !cl x z) + cnt cl (k + 1) (l.filter fun z => !cl y z)) + _ = (cnt cl k ((l.filter fun z => !cl x z).filter fun z => !cl y z) + cnt cl (k + 1) (l.filter fun z => !cl x z)) + _
          rw [e]
          omega
    | trans _ _ i1 i2 => rw [i1, i2]
theorem cnt_map {cl : β → β → Bool} (f : α → β) : ∀ (k : Nat) (l : List α), cnt cl k (l.map f) = cnt (fun x y => cl (f x) (f y)) k l
  | 0, _ => rfl
  | k + 1, l => by
    show cntS (cnt cl k) cl (l.map f) = cntS (cnt _ k) _ l
    induction l with
    | nil => rfl
    | cons x l ih =>
      show cnt cl k ((l.map f).filter fun y => !cl (f x) y) + cntS (cnt cl k) cl (l.map f) = _
      rw [ih, List.filter_map, cnt_map f k]
      rfl
theorem cnt_congr {cl cl' : α → α → Bool} : ∀ (k : Nat) (l : List α), (∀ x ∈ l, ∀ y ∈ l, cl x y = cl' x y) → cnt cl k l = cnt cl' k l
  | 0, _, _ => rfl
  | k + 1, l, h => by
    show cntS (cnt cl k) cl l = cntS (cnt cl' k) cl' l
    induction l with
    | nil => rfl
    | cons x l ih =>
      have e : (l.filter fun y => !cl x y) = l.filter fun y => !cl' x y := List.filter_congr fun y hy => by rw [h x List.mem_cons_self y (List.mem_cons_of_mem _ hy)]
      show cnt cl k _ + _ = cnt cl' k _ + _
      rw [ih fun a ha b hb => h a (List.mem_cons_of_mem _ ha) b (List.mem_cons_of_mem _ hb), e, cnt_congr k _ fun a ha b hb => h a (List.mem_cons_of_mem _ (List.mem_filter.mp ha).1) b (List.mem_cons_of_mem _ (List.mem_filter.mp hb).1)]
theorem cnt_one (cl : α → α → Bool) : ∀ l : List α, cnt cl 1 l = l.length
  | [] => rfl
  | x :: l => by
    show 1 + cnt cl 1 l = _
    rw [cnt_one cl l, List.length_cons]
    omega
theorem cnt_two (cl : α → α → Bool) : ∀ l : List α, 2 * cnt cl 2 l ≤ l.length * (l.length - 1)
  | [] => Nat.le_refl _
  | x :: l => by
    have h := cnt_two cl l
    show 2 * (cnt cl 1 (l.filter fun y => !cl x y) + cnt cl 2 l) ≤ _
    rw [cnt_one, List.length_cons, Nat.add_sub_cancel]
    have h2 := List.length_filter_le (fun y => !cl x y) l
    rw [Nat.mul_add]
    cases hl : l.length with
    | zero =>
      have e := List.length_eq_zero_iff.mp hl
      subst e
      exact Nat.le_refl _
    | succ n =>
      rw [hl] at h h2
      rw [Nat.add_sub_cancel] at h
      have e1 : (n + 1) * n + 2 * (n + 1) = (n + 1 + 1) * (n + 1) := by
        rw [Nat.mul_comm 2 (n + 1), ← Nat.mul_add, Nat.mul_comm]
      omega
end
/-! ### rows of texts in order -/
def toks (l : List Str) : List (Int ⊕ List Nat) := l.flatMap fun x => [.inl 1, .inr x.cps.toList]
theorem toks_eq : ∀ l : List Str, PySem.W.keyToksAll (l.map .str) = toks l ++ [.inl 0]
  | [] => rfl
  | x :: l => by
    rw [List.map_cons, PySem.W.toks_all_cons, toks_eq l]
    rfl
def ltSS (a b : List Str) : Bool := PyProof.Rows.lexLt itemOrd (toks a ++ [.inl 0]) (toks b ++ [.inl 0])
theorem dataLt_strs (a b : List Str) : PySem.W.dataLt (.tuple (a.map .str)) (.tuple (b.map .str)) = ltSS a b := by
  rw [PySem.W.dataLt_tuple, toks_eq, toks_eq]
  rfl
theorem toks_inj : ∀ {a b : List Str}, toks a ++ [Sum.inl 0] = toks b ++ [Sum.inl 0] → a = b
  | [], [], _ => rfl
  | [], y :: b, h => by
    have h : [Sum.inl 0] = Sum.inl 1 :: (Sum.inr y.cps.toList :: (toks b ++ [Sum.inl 0])) := h
    cases h
  | x :: a, [], h => by
    have h : Sum.inl 1 :: (Sum.inr x.cps.toList :: (toks a ++ [Sum.inl 0])) = [Sum.inl 0] := h
    cases h
  | x :: a, y :: b, h => by
    have h : (Sum.inl 1 : Int ⊕ List Nat) :: (Sum.inr x.cps.toList :: (toks a ++ [Sum.inl 0])) = Sum.inl 1 :: (Sum.inr y.cps.toList :: (toks b ++ [Sum.inl 0])) := h
    injection h with _ h
    injection h with h1 h
    injection h1 with h1
    rw [str_ext h1, toks_inj h]
theorem ltSS_irrefl (a : List Str) : ltSS a a = false := PyProof.Rows.lex_irrefl _
theorem ltSS_trans {a b c : List Str} (h1 : ltSS a b = true) (h2 : ltSS b c = true) : ltSS a c = true := PyProof.Rows.lex_trans _ _ _ h1 h2
theorem ltSS_tri {a b : List Str} (h1 : ltSS a b = false) (h2 : ltSS b a = false) : a = b := toks_inj (PyProof.Rows.lex_total _ _ h1 h2)
theorem ltSS_cons (x : Str) (a b : List Str) : ltSS (x :: a) (x :: b) = ltSS a b := by
  show PyProof.Rows.lexLt itemOrd (.inl 1 :: (.inr x.cps.toList :: (toks a ++ [.inl 0]))) (.inl 1 :: (.inr x.cps.toList :: (toks b ++ [.inl 0]))) = _
  rw [PyProof.Rows.lex_self, PyProof.Rows.lex_self]
  rfl
theorem ltSS_head {x y : Str} (h : ltS x y) (a b : List Str) : ltSS (x :: a) (y :: b) = true := by
  show PyProof.Rows.lexLt itemOrd (.inl 1 :: (.inr x.cps.toList :: (toks a ++ [.inl 0]))) (.inl 1 :: (.inr y.cps.toList :: (toks b ++ [.inl 0]))) = _
  rw [PyProof.Rows.lex_self, PyProof.Rows.lex_diff (fun e => by injection e with e; exact ltS_irrefl y (by rw [str_ext e] at h; exact h))]
  exact decide_eq_true h
theorem ltSS_app : ∀ {p q : List Str} (u v : List Str), p.length = q.length → ltSS p q = true → ltSS (p ++ u) (q ++ v) = true
  | [], [], _, _, _, h => by rw [ltSS_irrefl] at h; cases h
  | [], _ :: _, _, _, hl, _ => by cases hl
  | _ :: _, [], _, _, hl, _ => by cases hl
  | x :: p, y :: q, u, v, hl, h => by
    by_cases e : x = y
    · subst e
      rw [ltSS_cons] at h
      rw [List.cons_append, List.cons_append, ltSS_cons]
      exact ltSS_app u v (Nat.succ.inj hl) h
    · by_cases h1 : ltS x y
      · exact ltSS_head h1 _ _
      · by_cases h2 : ltS y x
        · have := ltSS_trans h (ltSS_head h2 q p)
          rw [ltSS_irrefl] at this
          cases this
        · exact absurd (ltS_tri h1 h2) e
theorem ltSS_snoc : ∀ (p : List Str) {x y : Str}, ltS x y → ltSS (p ++ [x]) (p ++ [y]) = true
  | [], _, _, h => ltSS_head h [] []
  | z :: p, _, _, h => by rw [List.cons_append, List.cons_append, ltSS_cons]; exact ltSS_snoc p h
def leSS (a b : List Str) : Bool := !ltSS b a
theorem perm_unique {α : Type} {r : α → α → Prop} (as : ∀ a b, r a b → r b a → a = b) : ∀ {l m : List α}, l.Perm m → l.Pairwise r → m.Pairwise r → l = m
  | [], m, p, _, _ => (List.nil_perm.mp p).symm
  | x :: l, [], p, _, _ => absurd p.length_eq (by simp)
  | x :: l, y :: m, p, hl, hm => by
    rw [List.pairwise_cons] at hl hm
    have hx : x ∈ y :: m := p.mem_iff.mp List.mem_cons_self
    have hy : y ∈ x :: l := p.mem_iff.mpr List.mem_cons_self
    have e : x = y := by
      rcases List.mem_cons.mp hx with h | h
      · exact h
      · rcases List.mem_cons.mp hy with h' | h'
        · exact h'.symm
        · exact as x y (hl.1 y h') (hm.1 x h)
    subst e
    rw [perm_unique as p.cons_inv hl.2 hm.2]
theorem sortSS_eq {L M : List (List Str)} (p : L.Perm M) (h : M.Pairwise fun a b => ltSS a b = true) : L.mergeSort leSS = M := by
  have h1 := List.pairwise_mergeSort (le := leSS) (fun a b c h1 h2 => by
    unfold leSS at *
    rw [Bool.not_eq_true'] at *
    cases h : ltSS c a with
    | false => rfl
    | true =>
      rcases PyProof.Rows.lex_negTrans (O := itemOrd) _ (toks b ++ [.inl 0]) _ h with q | q
      · exact absurd (show ltSS c b = true from q) (by rw [h2]; exact Bool.false_ne_true)
      · exact absurd (show ltSS b a = true from q) (by rw [h1]; exact Bool.false_ne_true)) (fun a b => by
    unfold leSS
    cases h : ltSS b a with
    | false => rfl
    | true =>
      cases h2 : ltSS a b with
      | false => rfl
      | true =>
        have := ltSS_trans h h2
        rw [ltSS_irrefl] at this
        cases this) L
  refine perm_unique (r := fun a b => leSS a b = true) (fun a b q1 q2 => ?_) ((List.mergeSort_perm L leSS).trans p) h1 (h.imp fun {a b} q => ?_)
  · unfold leSS at q1 q2
    rw [Bool.not_eq_true'] at q1 q2
    exact ltSS_tri q2 q1
  · unfold leSS
    rw [Bool.not_eq_true']
    cases h2 : ltSS b a with
    | false => rfl
    | true =>
      have := ltSS_trans q h2
      rw [ltSS_irrefl] at this
      cases this
theorem leD_strs (a b : List Str) : leD (.tup (a.map .str)) (.tup (b.map .str)) = leSS a b := by
  unfold leD leSS pyD
  rw [show py (.tup (b.map .str)) = some (.tuple (b.map .str)) by simp, show py (.tup (a.map .str)) = some (.tuple (a.map .str)) by simp]
  show (!PySem.W.dataLt (.tuple (b.map .str)) (.tuple (a.map .str))) = _
  rw [dataLt_strs]
theorem pyD_strs (a : List Str) : pyD (.tup (a.map .str)) = .tuple (a.map .str) := by
  unfold pyD
  rw [show py (.tup (a.map .str)) = some (.tuple (a.map .str)) by simp]
  rfl
theorem alike_strs : ∀ a b : List Str, PySem.W.alikeAll (a.map .str) (b.map .str) = true
  | [], _ => by cases (‹List Str›) <;> rfl
  | _ :: _, [] => rfl
  | x :: a, y :: b => by
    show (PySem.W.alike (.str x) (.str y) && PySem.W.alikeAll (a.map .str) (b.map .str)) = true
    rw [alike_strs a b]
    rfl
theorem sorted_tups {L M : List (List Str)} (p : L.Perm M) (h : M.Pairwise fun a b => ltSS a b = true) (h0 : ∀ l ∈ L, l ≠ []) : dSorted (.lst (L.map fun l => .tup (l.map .str))) = some (.lst (M.map fun l => .tup (l.map .str))) := by
  have ok : SortOk (L.map fun l => .tup (l.map .str)) := by
    refine ⟨fun d hd => ?_, fun d hd d' hd' => ?_, .inl fun d hd => ?_, fun d hd => ?_⟩
    · obtain ⟨l, _, rfl⟩ := List.mem_map.mp hd; simp
    · rw [List.map_map] at hd hd'
      obtain ⟨a, _, rfl⟩ := List.mem_map.mp hd
      obtain ⟨b, _, rfl⟩ := List.mem_map.mp hd'
      show PySem.W.alike (pyD (.tup (a.map .str))) (pyD (.tup (b.map .str))) = true
      rw [pyD_strs, pyD_strs]
      exact alike_strs a b
    · rw [List.map_map] at hd
      obtain ⟨a, ha, rfl⟩ := List.mem_map.mp hd
      have := h0 a ha
      cases a with
      | nil => exact absurd rfl this
      | cons x r => exact ⟨_, _, pyD_strs (x :: r)⟩
    · obtain ⟨l, _, rfl⟩ := List.mem_map.mp hd
      rw [pyD_strs]
      exact Nat.le_trans (dep_tstrs l) (by decide)
  unfold dSorted
  dsimp only
  rw [if_pos ok]
  unfold sortD
  rw [← List.map_mergeSort (r := leSS) (s := leD) (fun a _ b _ => (leD_strs a b).symm), sortSS_eq p h]
end PD


set_option Elab.async false
set_option linter.all false
set_option maxRecDepth 100000
set_option maxHeartbeats 1000000
/-! how many lots -/
namespace Q06
open PySem PySem.Spec PyProof.Rows L2 RK PD
theorem lots_sorted (rs : List Rm) : ∀ n, (lotsN rs n).Pairwise fun a b => ltSS a b = true
  | 0 => List.pairwise_singleton _ _
  | n + 1 => by
    show (stepL rs (lotsN rs n)).Pairwise _
    unfold stepL
    rw [List.pairwise_flatMap]
    refine ⟨fun p hp => ?_, ?_⟩
    · rw [List.pairwise_map]
      exact ((outs_asc rs).sublist List.filter_sublist).imp fun h => ltSS_snoc p h
    · refine List.Pairwise.imp_of_mem (fun {p q} hp hq h u hu v hv => ?_) (lots_sorted rs n)
      obtain ⟨x, _, rfl⟩ := List.mem_map.mp hu
      obtain ⟨y, _, rfl⟩ := List.mem_map.mp hv
      exact ltSS_app _ _ (by rw [lotsN_len rs n p hp, lotsN_len rs n q hq]) h
def clash (rs : List Rm) (x y : Str) : Bool := decide (y ∈ besides rs x)
theorem clash_symm {rs : List Rm} (ok : RoomsOk rs) (x y : Str) : clash rs x y = clash rs y x := by
  unfold clash
  congr 1
  rw [mem_besides ok, mem_besides ok]
  exact propext ⟨fun ⟨h, r, hr, a, b⟩ => ⟨h.symm, r, hr, b, a⟩, fun ⟨h, r, hr, a, b⟩ => ⟨h.symm, r, hr, b, a⟩⟩
def endsE (rs : List Rm) (p : List Str) : List Str := (outs rs).filter (mayEnd rs p)
theorem ends_snoc {rs : List Rm} {p : List Str} {x : Str} (hx : x ∈ endsE rs p) : endsE rs (p ++ [x]) = ((endsE rs p).filter fun y => decide (ltS x y)).filter fun y => !clash rs x y := by
  unfold endsE at hx ⊢
  rw [List.filter_filter, List.filter_filter]
  refine List.filter_congr fun y hy => ?_
  have hx := (List.mem_filter.mp hx).2
  unfold mayEnd at hx ⊢
  have hl : (p ++ [x]).getLast? = some x := by simp
  rw [hl, List.any_append]
  show (decide (ltS x y) && !(p.any (fun z => decide (y ∈ besides rs z)) || (decide (y ∈ besides rs x) || false))) = _
  unfold clash
  rw [Bool.and_eq_true] at hx
  cases h1 : decide (ltS x y) with
  | false => simp
  | true =>
    cases hp : p.getLast? with
    | none => cases p.any (fun z => decide (y ∈ besides rs z)) <;> cases decide (y ∈ besides rs x) <;> rfl
    | some w =>
      rw [hp] at hx
      have hd : decide (ltS w y) = true := decide_eq_true (ltS_trans (of_decide_eq_true hx.1) (of_decide_eq_true h1))
      simp only [hd]
      cases p.any (fun z => decide (y ∈ besides rs z)) <;> cases decide (y ∈ besides rs x) <;> rfl
theorem cntS_asc (f : List Str → Nat) (cl : Str → Str → Bool) : ∀ l : List Str, Asc l → cntS f cl l = (l.map fun x => f ((l.filter fun y => decide (ltS x y)).filter fun y => !cl x y)).sum
  | [], _ => rfl
  | x :: l, h => by
    have h' := h
    rw [Asc, List.pairwise_cons] at h'
    show f (l.filter fun y => !cl x y) + cntS f cl l = _
    rw [cntS_asc f cl l h'.2, List.map_cons, List.sum_cons]
    have e1 : ((x :: l).filter fun y => decide (ltS x y)) = l := by
      rw [List.filter_cons, if_neg (by rw [decide_eq_true_eq]; exact ltS_irrefl x), List.filter_eq_self.mpr fun y hy => decide_eq_true (h'.1 y hy)]
    rw [e1]
    congr 2
    refine List.map_congr_left fun z hz => ?_
    have e2 : ((x :: l).filter fun y => decide (ltS z y)) = l.filter fun y => decide (ltS z y) := by
      rw [List.filter_cons, if_neg (by rw [decide_eq_true_eq]; exact ltS_asymm (h'.1 z hz))]
    rw [e2]
def stepK (rs : List Rm) : Nat → List (List Str) → List (List Str)
  | 0, L => L
  | k + 1, L => stepK rs k (stepL rs L)
theorem step_snoc (rs : List Rm) : ∀ k L, stepK rs (k + 1) L = stepL rs (stepK rs k L)
  | 0, _ => rfl
  | k + 1, L => step_snoc rs k (stepL rs L)
theorem lots_step (rs : List Rm) (i : Nat) : ∀ k, lotsN rs (i + k) = stepK rs k (lotsN rs i)
  | 0 => rfl
  | k + 1 => by
    rw [step_snoc, ← lots_step rs i k]
    rfl
theorem sum_flatMap {α β : Type} (f : α → List β) (g : β → Nat) : ∀ l : List α, ((l.flatMap f).map g).sum = (l.map fun a => ((f a).map g).sum).sum
  | [] => rfl
  | a :: l => by
    rw [List.flatMap_cons, List.map_append, List.sum_append, sum_flatMap f g l]
    rfl
theorem stepK_len (rs : List Rm) : ∀ (k : Nat) (L : List (List Str)), (stepK rs k L).length = (L.map fun p => cnt (clash rs) k (endsE rs p)).sum
  | 0, L => by
    show L.length = (L.map fun _ => 1).sum
    induction L with
    | nil => rfl
    | cons p L ih => rw [List.length_cons, List.map_cons, List.sum_cons, ← ih]; omega
  | k + 1, L => by
    show (stepK rs k (stepL rs L)).length = _
    rw [stepK_len rs k]
    unfold stepL
    rw [sum_flatMap]
    congr 1
    refine List.map_congr_left fun p hp => ?_
    show _ = cntS (cnt (clash rs) k) (clash rs) ((outs rs).filter (mayEnd rs p))
    rw [cntS_asc _ _ _ ((outs_asc rs).sublist List.filter_sublist), List.map_map]
    congr 1
    refine List.map_congr_left fun x hx => ?_
    show cnt (clash rs) k (endsE rs (p ++ [x])) = _
    rw [ends_snoc hx]
    rfl
theorem lots_count (rs : List Rm) (k : Nat) : (lotsN rs k).length = cnt (clash rs) k (outs rs) := by
  have h := lots_step rs 0 k
  rw [Nat.zero_add] at h
  rw [h, stepK_len]
  show cnt (clash rs) k (endsE rs []) + 0 = _
  have : endsE rs [] = outs rs := List.filter_eq_self.mpr fun _ _ => rfl
  rw [this]
  rfl
/-- few lots: not many more of the next size -/
theorem lots_few {rs : List Rm} (ok : RoomsOk rs) (i : Nat) (h : (lotsN rs i).length ≤ 60) : (lotsN rs (i + 1)).length ≤ 1000 := by
  have h24 : (outs rs).length ≤ 24 := by
    rw [show (outs rs).length = (RK.outsOf rs).length from (sortS_perm _).length_eq]
    exact ok.most
  cases i with
  | zero =>
    have := step_le ok (lotsN rs 0)
    have h1 : (lotsN rs 0).length = 1 := rfl
    show (stepL rs (lotsN rs 0)).length ≤ 1000
    omega
  | succ i =>
    have e1 := stepK_len rs 1 (lotsN rs i)
    have e2 := stepK_len rs 2 (lotsN rs i)
    rw [← lots_step] at e1 e2
    rw [e1] at h
    rw [show i + 1 + 1 = i + 2 from rfl, e2]
    have key : ∀ L : List (List Str), 2 * (L.map fun p => cnt (clash rs) 2 (endsE rs p)).sum ≤ 23 * (L.map fun p => cnt (clash rs) 1 (endsE rs p)).sum := fun L => by
      induction L with
      | nil => exact Nat.le_refl _
      | cons p L ih =>
        rw [List.map_cons, List.map_cons, List.sum_cons, List.sum_cons, Nat.mul_add, Nat.mul_add, cnt_one]
        have h2 := cnt_two (clash rs) (endsE rs p)
        have hl : (endsE rs p).length ≤ 24 := Nat.le_trans (List.length_filter_le _ _) h24
        have h3 : (endsE rs p).length * ((endsE rs p).length - 1) ≤ (endsE rs p).length * 23 := Nat.mul_le_mul_left _ (by omega)
        omega
    have := key (lotsN rs i)
    omega
theorem few_of {rs : List Rm} (ok : RoomsOk rs) {n : Nat} (h : ∀ i, i < n → (lotsN rs i).length ≤ 60) : fewN rs n = true := by
  unfold fewN
  rw [List.all_eq_true]
  intro i hi
  exact decide_eq_true (lots_few ok i (h i (List.mem_range.mp hi)))
/-! ### rooms of numbered names -/
def nmOf (names : List Str) (i : Nat) : Str := names.getD i ⟨#[]⟩
def roomsI (names : List Str) (idx : List (List Nat)) : List Rm := idx.map fun w => sortS (w.map (nmOf names))
def clI (idx : List (List Nat)) (i j : Nat) : Bool := !(i == j) && idx.any fun w => w.contains i && w.contains j
def allI (idx : List (List Nat)) : List Nat := (List.range 24).filter fun i => idx.any (·.contains i)
def crossI (v w : List Nat) : Bool := v.all fun i => v.all fun j => !(w.contains i && w.contains j) || i == j
def pairI : List (List Nat) → Bool
  | [] => true
  | v :: r => r.all (crossI v) && pairI r
def okI (idx : List (List Nat)) : Bool := decide (1 ≤ idx.length) && decide (idx.length ≤ 10) && (idx.all fun w => decide (3 ≤ w.length) && decide (w.length ≤ 5) && decide w.Nodup && w.all fun i => decide (i < 24)) && pairI idx
structure Nms (names : List Str) : Prop where
  len : names.length = 24
  nd : names.Nodup
  ok : ∀ x ∈ names, NameOk x
theorem nm_inj {names : List Str} (N : Nms names) {i j : Nat} (hi : i < 24) (hj : j < 24) (h : nmOf names i = nmOf names j) : i = j := by
  have li : i < names.length := by rw [N.len]; exact hi
  have lj : j < names.length := by rw [N.len]; exact hj
  unfold nmOf at h
  rw [List.getD_eq_getElem?_getD, List.getD_eq_getElem?_getD, List.getElem?_eq_getElem li, List.getElem?_eq_getElem lj] at h
  exact (List.getElem_inj N.nd).mp h
theorem nm_mem {names : List Str} (N : Nms names) {i : Nat} (hi : i < 24) : nmOf names i ∈ names := by
  have li : i < names.length := by rw [N.len]; exact hi
  unfold nmOf
  rw [List.getD_eq_getElem?_getD, List.getElem?_eq_getElem li]
  exact List.getElem_mem li
theorem map_nodup {α β : Type} {f : α → β} : ∀ {l : List α}, l.Nodup → (∀ a ∈ l, ∀ b ∈ l, f a = f b → a = b) → (l.map f).Nodup
  | [], _, _ => List.nodup_nil
  | a :: l, h, inj => by
    rw [List.nodup_cons] at h
    rw [List.map_cons, List.nodup_cons]
    refine ⟨fun z => ?_, map_nodup h.2 fun b hb c hc => inj b (List.mem_cons_of_mem _ hb) c (List.mem_cons_of_mem _ hc)⟩
    obtain ⟨b, hb, e⟩ := List.mem_map.mp z
    have := inj b (List.mem_cons_of_mem _ hb) a List.mem_cons_self e
    exact h.1 (this ▸ hb)
theorem rooms_okI {names : List Str} (N : Nms names) {idx : List (List Nat)} (h : okI idx = true) : RoomsOk (roomsI names idx) := by
  unfold okI at h
  simp only [Bool.and_eq_true, decide_eq_true_eq, List.all_eq_true] at h
  obtain ⟨⟨⟨h1, h10⟩, hw⟩, hp⟩ := h
  have hlt : ∀ w ∈ idx, ∀ i ∈ w, i < 24 := fun w hw' i hi => (hw w hw').2 i hi
  refine ⟨⟨by unfold roomsI; rw [List.length_map]; exact h1, by unfold roomsI; rw [List.length_map]; exact h10⟩, fun r hr => ?_, ?_, ?_⟩
  · obtain ⟨w, hw', rfl⟩ := List.mem_map.mp hr
    obtain ⟨⟨⟨a, b⟩, c⟩, d⟩ := hw w hw'
    have hl : (sortS (w.map (nmOf names))).length = w.length := by rw [(sortS_perm _).length_eq, List.length_map]
    refine ⟨by omega, by omega, fun x hx => ?_, sortS_asc (map_nodup c fun i hi j hj e => nm_inj N (d i hi) (d j hj) e)⟩
    obtain ⟨i, hi, rfl⟩ := List.mem_map.mp (mem_sortS.mp hx)
    exact N.ok _ (nm_mem N (d i hi))
  · unfold roomsI
    clear h1 h10
    induction idx with
    | nil => exact List.Pairwise.nil
    | cons v r ih =>
      have hp : (r.all (crossI v) && pairI r) = true := hp
      rw [Bool.and_eq_true, List.all_eq_true] at hp
      rw [List.map_cons, List.pairwise_cons]
      refine ⟨fun s hs => ?_, ih hp.2 (fun w hw' => hw w (List.mem_cons_of_mem _ hw')) fun w hw' => hlt w (List.mem_cons_of_mem _ hw')⟩
      obtain ⟨w, hw', rfl⟩ := List.mem_map.mp hs
      have hc := hp.1 w hw'
      have hcw := (hw w (List.mem_cons_of_mem _ hw')).1.2
      refine len_one (List.Nodup.sublist List.filter_sublist (sortS_asc (map_nodup hcw fun i hi j hj e => nm_inj N (hlt w (List.mem_cons_of_mem _ hw') i hi) (hlt w (List.mem_cons_of_mem _ hw') j hj) e)).nodup) fun x hx y hy => ?_
      have hv := hlt v List.mem_cons_self
      have hwl := hlt w (List.mem_cons_of_mem _ hw')
      have inter : ∀ x, x ∈ common (sortS (w.map (nmOf names))) (sortS (v.map (nmOf names))) → ∃ i, i ∈ v ∧ i ∈ w ∧ x = nmOf names i := fun x hx => by
        rw [common, List.mem_filter, decide_eq_true_eq, mem_sortS, mem_sortS] at hx
        obtain ⟨i, hi, rfl⟩ := List.mem_map.mp hx.1
        obtain ⟨j, hj, e⟩ := List.mem_map.mp hx.2
        have := nm_inj N (hv j hj) (hwl i hi) e
        subst this
        exact ⟨j, hj, hi, rfl⟩
      obtain ⟨i, i1, i2, rfl⟩ := inter x hx
      obtain ⟨j, j1, j2, rfl⟩ := inter y hy
      unfold crossI at hc
      have := List.all_eq_true.mp (List.all_eq_true.mp hc i i1) j j1
      rw [show w.contains i = true from List.contains_iff_mem.mpr i2, show w.contains j = true from List.contains_iff_mem.mpr j2] at this
      have : i = j := by simpa using this
      rw [this]
  · refine Nat.le_trans (nodup_sub_len (nodup_firsts _) fun x hx => ?_) (Nat.le_of_eq N.len)
    obtain ⟨r, hr, hxr⟩ := mem_outsOf.mp hx
    obtain ⟨w, hw', rfl⟩ := List.mem_map.mp hr
    obtain ⟨i, hi, rfl⟩ := List.mem_map.mp (mem_sortS.mp hxr)
    exact nm_mem N (hlt w hw' i hi)
theorem count_I {names : List Str} (N : Nms names) {idx : List (List Nat)} (h : okI idx = true) (k : Nat) : (lotsN (roomsI names idx) k).length = cnt (clI idx) k (allI idx) := by
  have ok := rooms_okI N h
  unfold okI at h
  simp only [Bool.and_eq_true, decide_eq_true_eq, List.all_eq_true] at h
  obtain ⟨⟨⟨h1, h10⟩, hw⟩, hp⟩ := h
  have hlt : ∀ w ∈ idx, ∀ i ∈ w, i < 24 := fun w hw' i hi => (hw w hw').2 i hi
  have hall : ∀ i, i ∈ allI idx ↔ ∃ w ∈ idx, i ∈ w := fun i => by
    unfold allI
    rw [List.mem_filter, List.mem_range, List.any_eq_true]
    constructor
    · rintro ⟨_, w, hw', hi⟩
      exact ⟨w, hw', List.contains_iff_mem.mp hi⟩
    · rintro ⟨w, hw', hi⟩
      exact ⟨hlt w hw' i hi, w, hw', List.contains_iff_mem.mpr hi⟩
  have hal : ∀ i ∈ allI idx, i < 24 := fun i hi => List.mem_range.mp (List.mem_filter.mp hi).1
  have hperm : (outs (roomsI names idx)).Perm ((allI idx).map (nmOf names)) := by
    refine (List.perm_ext_iff_of_nodup (outs_asc _).nodup (map_nodup (List.Nodup.sublist List.filter_sublist List.nodup_range) fun i hi j hj e => nm_inj N (hal i hi) (hal j hj) e)).mpr fun x => ?_
    rw [mem_outs, List.mem_map]
    constructor
    · rintro ⟨r, hr, hx⟩
      obtain ⟨w, hw', rfl⟩ := List.mem_map.mp hr
      obtain ⟨i, hi, rfl⟩ := List.mem_map.mp (mem_sortS.mp hx)
      exact ⟨i, (hall i).mpr ⟨w, hw', hi⟩, rfl⟩
    · rintro ⟨i, hi, rfl⟩
      obtain ⟨w, hw', hi'⟩ := (hall i).mp hi
      exact ⟨_, List.mem_map.mpr ⟨w, hw', rfl⟩, mem_sortS.mpr (List.mem_map.mpr ⟨i, hi', rfl⟩)⟩
  rw [lots_count, cnt_perm (clash_symm ok) k hperm, cnt_map]
  refine cnt_congr k _ fun i hi j hj => ?_
  have li := hal i hi
  have lj := hal j hj
  unfold clash clI
  rw [Bool.eq_iff_iff, decide_eq_true_eq, mem_besides ok, Bool.and_eq_true, List.any_eq_true]
  constructor
  · rintro ⟨hne, r, hr, a, b⟩
    obtain ⟨w, hw', rfl⟩ := List.mem_map.mp hr
    obtain ⟨i', hi', e⟩ := List.mem_map.mp (mem_sortS.mp a)
    obtain ⟨j', hj', e'⟩ := List.mem_map.mp (mem_sortS.mp b)
    have := nm_inj N (hlt w hw' i' hi') li e
    subst this
    have := nm_inj N (hlt w hw' j' hj') lj e'
    subst this
    refine ⟨by simp; exact fun z => hne (by rw [z]), w, hw', ?_⟩
    rw [Bool.and_eq_true]
    exact ⟨List.contains_iff_mem.mpr hi', List.contains_iff_mem.mpr hj'⟩
  · rintro ⟨hne, w, hw', hc⟩
    rw [Bool.and_eq_true] at hc
    have hne : i ≠ j := by simpa using hne
    exact ⟨fun e => hne (nm_inj N lj li e).symm, _, List.mem_map.mpr ⟨w, hw', rfl⟩, mem_sortS.mpr (List.mem_map.mpr ⟨i, List.contains_iff_mem.mp hc.1, rfl⟩), mem_sortS.mpr (List.mem_map.mpr ⟨j, List.contains_iff_mem.mp hc.2, rfl⟩)⟩
end Q06


set_option Elab.async false
set_option linter.all false
set_option maxRecDepth 100000
set_option maxHeartbeats 2000000
/-! bounds, later, edge -/
namespace Q06
open PySem PySem.Spec PyProof.Rows L2 RK PD
def rD (rs : List Rm) : List D := rs.map fun r => .tup (r.map .str)
theorem cut_nm {names : List Str} (N : Nms names) {a b : Nat} (h : a ≤ b) (hb : b ≤ 24) : cutA names (some (a : Int)) (some (b : Int)) = (List.range' a (b - a)).map (nmOf names) := by
  have hl := N.len
  unfold cutA
  rw [HT.sIx_nat, HT.sIx_nat, hl, show min a 24 = a by omega, show min b 24 = b by omega]
  apply List.ext_getElem?
  intro i
  rw [List.getElem?_map]
  by_cases hi : i < b - a
  · rw [List.getElem?_take_of_lt hi, List.getElem?_drop, List.getElem?_range' hi]
    unfold nmOf
    rw [Option.map_some, Nat.one_mul, List.getD_eq_getElem?_getD, List.getElem?_eq_getElem (by omega)]
    rfl
  · rw [List.getElem?_eq_none (by rw [List.length_take]; omega), List.getElem?_eq_none (by rw [List.length_range']; omega)]
    rfl
theorem fewN_false {rs : List Rm} {n i : Nat} (hi : i < n) (h : 1000 < (lotsN rs (i + 1)).length) : fewN rs n = false := by
  unfold fewN
  rw [List.all_eq_false]
  exact ⟨i, List.mem_range.mpr hi, by rw [decide_eq_true_eq]; omega⟩
theorem rw_self : dEqv (.lst [.str "refused", .str "wide"]) (.lst [.str "refused", .str "wide"]) = some true := by
  refine dEqv_self (p := .list [.str "refused", .str "wide"]) (by simp) (by decide)
def idxL : List (List Nat) := [[0, 1, 2, 3], [4, 5, 6, 7], [8, 9, 10, 11], [12, 13, 14, 15], [16, 17, 18]]
theorem cntL : cnt (clI idxL) 4 (allI idxL) = 1024 := by decide +kernel
theorem okL : okI idxL = true := by decide +kernel
theorem v_later {names : List Str} (N : Nms names) : F__law_later [.lst (names.map .str)] = .ok (.bl true) [.no] := by
  have ok := rooms_okI N okL
  have hf : fewN (roomsI names idxL) 5 = false := fewN_false (i := 3) (by decide) (by rw [count_I N okL, cntL]; decide)
  have ht := v_told ok (n := 5) (by decide)
  simp [hf] at ht
  have hi := v_init ok
  have c0 := cut_nm N (a := 0) (b := 4) (by decide) (by decide)
  have c1 := cut_nm N (a := 4) (b := 8) (by decide) (by decide)
  have c2 := cut_nm N (a := 8) (b := 12) (by decide) (by decide)
  have c3 := cut_nm N (a := 12) (b := 16) (by decide) (by decide)
  have c4 := cut_nm N (a := 16) (b := 19) (by decide) (by decide)
  obtain ⟨ws, hws⟩ : ∃ ws : Nat → List Str, ws = fun i => (idxL.getD i []).map (nmOf names) := ⟨_, rfl⟩
  have c0 : cutA names (some 0) (some 4) = ws 0 := c0.trans (by rw [hws]; rfl)
  have c1 : cutA names (some 4) (some 8) = ws 1 := c1.trans (by rw [hws]; rfl)
  have c2 : cutA names (some 8) (some 12) = ws 2 := c2.trans (by rw [hws]; rfl)
  have c3 : cutA names (some 12) (some 16) = ws 3 := c3.trans (by rw [hws]; rfl)
  have c4 : cutA names (some 16) (some 19) = ws 4 := c4.trans (by rw [hws]; rfl)
  simp [F__law_later, run_fin, g__law_later]
  rw [eLc_y (enc := fun i : Nat => .int (0 + (i : Int))) (List.range 5) (fun i => .tup ((sortS (ws i)).map .str)) ?h1 ?h2]
  case h1 => simp [rngItems]
  case h2 =>
    intro i hi
    have hi := List.mem_range.mp hi
    have : i = 0 ∨ i = 1 ∨ i = 2 ∨ i = 3 ∨ i = 4 := by omega
    rcases this with rfl | rfl | rfl | rfl | rfl <;> simp [atI, ixN, c0, c1, c2, c3, c4]
  have hr : ((List.range 5).map fun i => D.tup ((sortS (ws i)).map .str)) = (roomsI names idxL).map fun r => .tup (r.map .str) := by rw [hws]; rfl
  rw [hr]
  simp [hi, ht, rw_self]
end Q06


set_option Elab.async false
set_option linter.all false
set_option maxRecDepth 100000
set_option maxHeartbeats 2000000
/-! edge -/
namespace Q06
open PySem PySem.Spec PyProof.Rows L2 RK PD
theorem told_self (L : List (List Str)) : dEqv (.lst [.str "told", .tup (tT L)]) (.lst [.str "told", .tup (tT L)]) = some true := by
  refine dEqv_self (p := .list [.str "told", .tuple (L.map fun l => .tuple (l.map .str))]) (by unfold tT; simp) ?_
  have := dep_ttups L
  show max (PyData.str "told").depth (max (PyData.tuple _).depth 0) + 1 ≤ 60
  have e : (PyData.str "told").depth = 0 := rfl
  omega
theorem lots_eq {rs : List Rm} (ok : RoomsOk rs) {many : Nat} (hm : many ≤ 300) : ∃ m, m ≤ 5 ∧ (∀ i, i < m → (lotsN rs i).length ≤ many) ∧ (m < 5 → many < (lotsN rs m).length) ∧ F__law_lots [.lst (rs.map fun r => .tup (r.map .str)), .int (many : Int)] = .ok (.lst (foundL rs m)) [.no, .no] := by
  obtain ⟨z, o, h, m, h1, h2, h3, rfl, rfl⟩ := (lots_w ok hm (K := fun z o => ∃ m, m ≤ 5 ∧ (∀ i, i < m → (lotsN rs i).length ≤ many) ∧ (m < 5 → many < (lotsN rs m).length) ∧ z = .lst (foundL rs m) ∧ o = [.no, .no]) fun m h1 h2 h3 => ⟨m, h1, h2, h3, rfl, rfl⟩).out
  exact ⟨m, h1, h2, h3, h⟩
theorem found_at (rs : List Rm) {m j : Nat} (h : j ≤ m) : atI (foundL rs m) (j : Int) = some (.lst (tT (lotsN rs j))) := by
  rw [PD.atI_nat]
  unfold foundL
  rw [List.getElem?_map, List.getElem?_range (by omega)]
  rfl
def encW (w : List Nat) : Str := ⟨(w.map (97 + ·)).toArray⟩
def idxA : List (List Nat) := [[0, 1, 2, 3, 4], [5, 6, 7, 8], [9, 10, 11, 12], [1, 13, 14, 15, 16], [17, 18, 19, 20], [4, 21, 22]]
def idxB : List (List Nat) := [[0, 1, 2, 3], [0, 4, 5, 6], [7, 8, 9, 10, 11], [10, 12, 13, 14, 15], [16, 17, 18], [19, 20, 21, 22]]
theorem spA : Txt.split ("abcde fghi jklm bnopq rstu evw" : Str) " " = idxA.map encW := by decide +kernel
theorem spB : Txt.split ("abcd aefg hijkl kmnop qrs tuvw" : Str) " " = idxB.map encW := by decide +kernel
theorem okA : okI idxA = true := by decide +kernel
theorem okB : okI idxB = true := by decide +kernel
theorem cA1 : cnt (clI idxA) 1 (allI idxA) = 23 := by decide +kernel
theorem cA2 : cnt (clI idxA) 2 (allI idxA) ≤ 276 := by decide +kernel
theorem cA3 : cnt (clI idxA) 3 (allI idxA) = 1000 := by decide +kernel
theorem cB1 : cnt (clI idxB) 1 (allI idxB) = 23 := by decide +kernel
theorem cB2 : cnt (clI idxB) 2 (allI idxB) ≤ 276 := by decide +kernel
theorem cB3 : cnt (clI idxB) 3 (allI idxB) = 1001 := by decide +kernel
theorem atNm {names : List Str} (N : Nms names) {i : Nat} (h : i < 24) : atI names (i : Int) = some (nmOf names i) := by
  rw [PD.atI_nat]
  unfold nmOf
  rw [List.getD_eq_getElem?_getD, List.getElem?_eq_getElem (by rw [N.len]; exact h)]
  rfl
theorem items_encW (w : List Nat) : strItems (encW w) = w.map fun i => .str ⟨#[97 + i]⟩ := by
  unfold strItems encW
  rw [List.map_map]
  rfl
theorem ord_at (i : Nat) : dOrd (.str ⟨#[97 + i]⟩) = some (.int ((97 + i : Nat) : Int)) := rfl
theorem three_le {rs : List Rm} {m : Nat} (h1 : (lotsN rs 1).length ≤ 300) (h2 : (lotsN rs 2).length ≤ 300) (h : m < 5 → 300 < (lotsN rs m).length) : 3 ≤ m := by
  rcases Nat.lt_or_ge m 3 with q | q
  · have : m = 0 ∨ m = 1 ∨ m = 2 := by omega
    have h := h (by omega)
    rcases this with rfl | rfl | rfl
    · have : (lotsN rs 0).length = 1 := rfl
      omega
    · omega
    · omega
  · exact q
theorem v_edge {names : List Str} (N : Nms names) : F__law_edge [.lst (names.map .str)] = .ok (.bl true) [.no] := by
  have okA := rooms_okI N okA
  have okB := rooms_okI N okB
  have kA := count_I N Q06.okA
  have kB := count_I N Q06.okB
  obtain ⟨mA, _, _, gA, eA⟩ := lots_eq okA (many := 300) (Nat.le_refl _)
  obtain ⟨mB, _, _, gB, eB⟩ := lots_eq okB (many := 300) (Nat.le_refl _)
  have mA3 := three_le (by rw [kA 1, cA1]; decide) (by rw [kA 2]; exact Nat.le_trans cA2 (by decide)) gA
  have mB3 := three_le (by rw [kB 1, cB1]; decide) (by rw [kB 2]; exact Nat.le_trans cB2 (by decide)) gB
  have fA : fewN (roomsI names idxA) 3 = true := by
    unfold fewN
    rw [List.all_eq_true]
    intro i hi
    have := List.mem_range.mp hi
    refine decide_eq_true ?_
    rw [kA]
    have : i = 0 ∨ i = 1 ∨ i = 2 := by omega
    rcases this with rfl | rfl | rfl
    · rw [cA1]; decide
    · exact Nat.le_trans cA2 (by decide)
    · rw [cA3]; decide
  have fB : fewN (roomsI names idxB) 3 = false := fewN_false (i := 2) (by decide) (by rw [kB, cB3]; decide)
  have tA := v_told okA (n := 3) (by decide)
  have tB := v_told okB (n := 3) (by decide)
  simp [fA] at tA
  simp [fB] at tB
  have iA := v_init okA
  have iB := v_init okB
  have hA := found_at (roomsI names idxA) mA3
  have hB := found_at (roomsI names idxB) mB3
  have lA : (lotsN (roomsI names idxA) 3).length = 1000 := by rw [kA, cA3]
  have lB : (lotsN (roomsI names idxB) 3).length = 1001 := by rw [kB, cB3]
  have inner : ∀ (idx : List (List Nat)) (ws : Str) (many : Int) (r a b c : Sl), (idx.all fun w => (w.all fun i => decide (i < 24)) && decide (w.length ≤ 5)) = true → idx.length ≤ 10 → Txt.split ws " " = idx.map encW → ws.length ≤ 1000 → (Txt.split ws " ").all PyData.strOk = true →
      eLc (iL (eVis (eSplit (eVar 1) (eC (.str " "))))) (gN 5) qYes (eCB (un dTuple) (lCons (eVis (eCBN (un dSorted) (lCons (eVis (eLc (iS (eVar 5)) (gN 4) qYes (eOp dIx (eVar 0) (eOp dSub (eCB (un dOrd) (lCons (eVar 4) lNil)) (eC (.int 97)))) [4])) lNil))) lNil)) [5] [.val (.lst (names.map .str)), .val (.str ws), .val (.int many), r, .no, a, b, c] = .ok (.lst ((roomsI names idx).map fun r => .tup (r.map .str))) [.val (.lst (names.map .str)), .val (.str ws), .val (.int many), r, .no, .no, b, c] := by
    intro idx ws many r a b c hw hi hs hl hok
    rw [eLc_y (enc := fun w => D.str (encW w)) idx (fun w => .tup ((sortS (w.map (nmOf names))).map .str)) ?hf ?h]
    case hf =>
      have c1 : ((" " : Str).length == 0) = false := by decide
      have c2 : (Txt.split ws " ").length ≤ 1000 := by rw [hs, List.length_map]; omega
      have q : eSplit (eVar 1) (eC (.str " ")) [.val (.lst (names.map .str)), .val (.str ws), .val (.int many), r, .no, a, b, c] = .ok (.lst ((Txt.split ws " ").map .str)) [.val (.lst (names.map .str)), .val (.str ws), .val (.int many), r, .no, a, b, c] := by
        show (if _ then _ else _) = _
        exact if_pos ⟨c1, hl, c2, hok⟩
      simp [q, hs]
    case h =>
      intro w hww
      have hw' := List.all_eq_true.mp hw w hww
      simp only [Bool.and_eq_true, List.all_eq_true, decide_eq_true_eq] at hw'
      obtain ⟨hw1, hw2⟩ := hw'
      have hl : (encW w).length ≤ 1000 := by
        show (w.map (97 + ·)).toArray.size ≤ 1000
        simp
        omega
      simp
      rw [eLc_y (enc := fun i : Nat => D.str ⟨#[97 + i]⟩) w (fun i => .str (nmOf names i)) ?h1 ?h2]
      case h1 => simp [hl, items_encW]
      case h2 =>
        intro i hi
        have := atNm N (hw1 i hi)
        have e : (97 : Int) + (i : Int) - 97 = (i : Int) := by omega
        simp [ord_at, e, this]
      have : (w.map fun i => D.str (nmOf names i)) = (w.map (nmOf names)).map .str := by rw [List.map_map]; rfl
      rw [this]
      generalize w.map (nmOf names) = u
      simp
    unfold roomsI
    rw [List.map_map]
    rfl
  suffices H : WF (F__law_edge [.lst (names.map .str)]) fun z o => z = .bl true ∧ o = [.no] by
    obtain ⟨z, o, h, rfl, rfl⟩ := H.out
    exact h
  generalize hK : (fun (z : D) (o : Ev) => z = .bl true ∧ o = [.no]) = K
  have hK' : K (.bl true) [.no] := by rw [← hK]; exact ⟨rfl, rfl⟩
  clear hK
  simp [F__law_edge, run_fin, g__law_edge]
  refine WS_for (enc := fun p : Str × Nat => .tup [.str p.1, .int (p.2 : Int)]) (fun i e => ∃ (a b c d f g : Sl), e = [.val (.lst (names.map .str)), a, b, c, .no, d, f, g])
    [("abcde fghi jklm bnopq rstu evw", 1000), ("abcd aefg hijkl kmnop qrs tuvw", 1001)] rfl ⟨_, _, _, _, _, _, rfl⟩ ?_ ?_
  · rintro i ⟨ws, many⟩ hi e ⟨a, b, c, d, f, g, rfl⟩
    have hcase : (ws = "abcde fghi jklm bnopq rstu evw" ∧ many = 1000) ∨ (ws = "abcd aefg hijkl kmnop qrs tuvw" ∧ many = 1001) := by
      have := List.mem_of_getElem? hi
      simpa using this
    refine ⟨_, by simp; rfl, ?_⟩
    rcases hcase with ⟨rfl, rfl⟩ | ⟨rfl, rfl⟩
    · simp
      rw [inner idxA _ _ _ _ _ _ (by decide +kernel) (by decide) spA (by decide +kernel) (by decide +kernel)]
      simp at eA hA
      simp [eA, iA, tA, hA, lA, told_self]
    · simp
      rw [inner idxB _ _ _ _ _ _ (by decide +kernel) (by decide) spB (by decide +kernel) (by decide +kernel)]
      simp at eB hB
      simp [eB, iB, tB, hB, lB, rw_self]
  · rintro e ⟨a, b, c, d, f, g, rfl⟩
    simp
    exact hK'
end Q06


set_option Elab.async false
set_option linter.all false
set_option maxRecDepth 100000
set_option maxHeartbeats 2000000
/-! bounds: rooms side by side -/
namespace Q06
open PySem PySem.Spec PyProof.Rows L2 RK PD
def wI (i : Nat) : List Nat := [3 * i, 3 * i + 1, 3 * i + 2]
def idxS (m : Nat) : List (List Nat) := (List.range m).map wI
def rI (names : List Str) (i : Nat) : List Str := sortS ((wI i).map (nmOf names))
theorem ok7 : okI (idxS 7) = true := by decide +kernel
theorem ok8 : okI (idxS 8) = true := by decide +kernel
theorem c71 : cnt (clI (idxS 7)) 1 (allI (idxS 7)) = 21 := by decide +kernel
theorem c72 : cnt (clI (idxS 7)) 2 (allI (idxS 7)) = 189 := by decide +kernel
theorem c73 : cnt (clI (idxS 7)) 3 (allI (idxS 7)) = 945 := by decide +kernel
theorem c74 : cnt (clI (idxS 7)) 4 (allI (idxS 7)) = 2835 := by decide +kernel
theorem c83 : cnt (clI (idxS 8)) 3 (allI (idxS 8)) = 1512 := by decide +kernel
def dD (R : Nat → List Str) (i j k : Nat) : List (List Str) := (R i).flatMap fun x => (R j).flatMap fun y => (R k).map fun z => sortS [x, y, z]
def dC (R : Nat → List Str) (i j : Nat) : List (List Str) := (List.range (7 - (j + 1))).flatMap fun k => dD R i j (j + 1 + k)
def dB (R : Nat → List Str) (i : Nat) : List (List Str) := (List.range (7 - (i + 1))).flatMap fun j => dC R i (i + 1 + j)
def dA (R : Nat → List Str) : List (List Str) := (List.range 7).flatMap (dB R)
theorem mem_dA {R : Nat → List Str} {i j k : Nat} (h1 : i < j) (h2 : j < k) (h3 : k < 7) {x y z : Str} (hx : x ∈ R i) (hy : y ∈ R j) (hz : z ∈ R k) : sortS [x, y, z] ∈ dA R := by
  refine List.mem_flatMap.mpr ⟨i, List.mem_range.mpr (by omega), List.mem_flatMap.mpr ⟨j - (i + 1), List.mem_range.mpr (by omega), ?_⟩⟩
  rw [show i + 1 + (j - (i + 1)) = j by omega]
  refine List.mem_flatMap.mpr ⟨k - (j + 1), List.mem_range.mpr (by omega), ?_⟩
  rw [show j + 1 + (k - (j + 1)) = k by omega]
  exact List.mem_flatMap.mpr ⟨x, hx, List.mem_flatMap.mpr ⟨y, hy, List.mem_map.mpr ⟨z, hz, rfl⟩⟩⟩
theorem len_dD {R : Nat → List Str} (h : ∀ i, (R i).length = 3) (i j k : Nat) : (dD R i j k).length = 27 := by
  have e : ∀ (l : List Str) (f : Str → List (List Str)) (n : Nat), (∀ x, (f x).length = n) → (l.flatMap f).length = l.length * n := fun l f n hf => by
    induction l with
    | nil => simp
    | cons x l ih => rw [List.flatMap_cons, List.length_append, ih, hf, List.length_cons, Nat.add_mul]; omega
  unfold dD
  rw [e _ _ 9 fun x => ?_, h i]
  rw [e _ _ 3 fun y => ?_, h j]
  rw [List.length_map, h k]
theorem len_dA {R : Nat → List Str} (h : ∀ i, (R i).length = 3) : (dA R).length = 945 := by
  unfold dA dB dC
  simp only [List.length_flatMap, len_dD h]
  decide
theorem perm_sub {α : Type} [DecidableEq α] : ∀ {L M : List α}, L.Nodup → (∀ x ∈ L, x ∈ M) → M.length ≤ L.length → L.Perm M
  | [], M, _, _, h => by
    have := List.length_eq_zero_iff.mp (Nat.le_zero.mp h)
    rw [this]
  | x :: L, M, nd, sub, h => by
    rw [List.nodup_cons] at nd
    have hx := sub x List.mem_cons_self
    have hp := List.perm_cons_erase hx
    refine (List.Perm.cons x (perm_sub nd.2 (fun y hy => ?_) ?_)).trans hp.symm
    · exact (List.mem_erase_of_ne fun e => nd.1 (by rw [← e]; exact hy)).mpr (sub y (List.mem_cons_of_mem _ hy))
    · rw [List.length_erase_of_mem hx]
      rw [List.length_cons] at h
      omega
theorem lots_free (rs : List Rm) : ∀ n, ∀ l ∈ lotsN rs n, l.Pairwise fun y x => x ∉ besides rs y
  | 0 => fun l hl => by rw [List.mem_singleton.mp hl]; exact List.Pairwise.nil
  | n + 1 => fun l hl => by
    obtain ⟨m, hm, h⟩ := List.mem_flatMap.mp hl
    obtain ⟨x, hx, rfl⟩ := List.mem_map.mp h
    have hx := (List.mem_filter.mp hx).2
    refine List.pairwise_append.mpr ⟨lots_free rs n m hm, List.pairwise_singleton _ _, fun y hy z hz => ?_⟩
    rw [List.mem_singleton.mp hz]
    unfold mayEnd at hx
    rw [Bool.and_eq_true, Bool.not_eq_true', List.any_eq_false] at hx
    simpa using hx.2 y hy
theorem lots_nodup (rs : List Rm) (n : Nat) : (lotsN rs n).Nodup :=
  (lots_sorted rs n).imp fun {a b} h e => by
    rw [e, ltSS_irrefl] at h
    cases h
theorem roomsS (names : List Str) (m : Nat) : roomsI names (idxS m) = (List.range m).map (rI names) := by
  unfold roomsI idxS
  rw [List.map_map]
  rfl
theorem due_perm {names : List Str} (N : Nms names) : (dA (rI names)).Perm (lotsN (roomsI names (idxS 7)) 3) := by
  have ok := rooms_okI N ok7
  have hl : (lotsN (roomsI names (idxS 7)) 3).length = 945 := by rw [count_I N ok7, c73]
  have hr : ∀ i, (rI names i).length = 3 := fun i => by
    unfold rI
    rw [(sortS_perm _).length_eq]
    rfl
  refine (perm_sub (lots_nodup _ 3) (fun l hm => ?_) (by rw [hl, len_dA hr]; exact Nat.le_refl _)).symm
  have h3 := lotsN_len _ 3 l hm
  have ha := lots_asc _ 3 l hm
  have hf := lots_free _ 3 l hm
  have hn := lotsN_names _ 3 l hm
  match l, h3 with
  | [a, b, c], _ =>
    have room : ∀ x ∈ [a, b, c], ∃ i, i < 7 ∧ x ∈ rI names i := fun x hx => by
      obtain ⟨r, hr, h⟩ := mem_outs.mp (hn x hx)
      rw [roomsS] at hr
      obtain ⟨i, hi, rfl⟩ := List.mem_map.mp hr
      exact ⟨i, List.mem_range.mp hi, h⟩
    have apart : ∀ x y i, ltS x y → y ∉ besides (roomsI names (idxS 7)) x → i < 7 → x ∈ rI names i → y ∉ rI names i := fun x y i h1 h2 hi h3 h4 => by
      refine h2 ((mem_besides ok).mpr ⟨fun e => ltS_irrefl x (by rw [e] at h1; exact h1), _, ?_, h3, h4⟩)
      rw [roomsS]
      exact List.mem_map.mpr ⟨i, List.mem_range.mpr hi, rfl⟩
    obtain ⟨i, i7, hi⟩ := room a (by simp)
    obtain ⟨j, j7, hj⟩ := room b (by simp)
    obtain ⟨k, k7, hk⟩ := room c (by simp)
    simp only [Asc, List.pairwise_cons, List.mem_cons, List.not_mem_nil, or_false, forall_eq_or_imp, forall_eq] at ha hf
    have ij : i ≠ j := fun e => apart a b i ha.1.1 hf.1.1 i7 hi (e ▸ hj)
    have ik : i ≠ k := fun e => apart a c i ha.1.2 hf.1.2 i7 hi (e ▸ hk)
    have jk : j ≠ k := fun e => apart b c j ha.2.1 hf.2.1 j7 hj (e ▸ hk)
    have srt : ∀ m, [a, b, c].Perm m → [a, b, c] = sortS m := fun m p => sortS_eq p (sortedS_of (by
      simp only [List.pairwise_cons, List.mem_cons, List.not_mem_nil, or_false, forall_eq_or_imp, forall_eq, List.Pairwise.nil, and_true, implies_true, false_implies]
      exact ⟨⟨ltS_asymm ha.1.1, ltS_asymm ha.1.2⟩, ltS_asymm ha.2.1⟩))
    rcases Nat.lt_or_gt_of_ne ij with h1 | h1 <;> rcases Nat.lt_or_gt_of_ne ik with h2 | h2 <;> rcases Nat.lt_or_gt_of_ne jk with h3 | h3
    · rw [srt [a, b, c] (List.Perm.refl _)]; exact mem_dA h1 h3 k7 hi hj hk
    · rw [srt [a, c, b] (.cons _ (.swap _ _ _))]; exact mem_dA h2 h3 j7 hi hk hj
    · omega
    · rw [srt [c, a, b] ?_]
      · exact mem_dA h2 h1 j7 hk hi hj
      · exact (List.Perm.cons a (List.Perm.swap c b [])).trans (List.Perm.swap c a [b])
    · rw [srt [b, a, c] (.swap _ _ _)]; exact mem_dA h1 h2 k7 hj hi hk
    · omega
    · rw [srt [b, c, a] ?_]
      · exact mem_dA h3 h2 i7 hj hk hi
      · exact (List.Perm.swap b a [c]).trans (List.Perm.cons b (List.Perm.swap c a []))
    · rw [srt [c, b, a] ?_]
      · exact mem_dA h3 h1 i7 hk hj hi
      · exact ((List.Perm.swap b a [c]).trans (List.Perm.cons b (List.Perm.swap c a []))).trans (List.Perm.swap c b [a])
theorem cut3 {names : List Str} (N : Nms names) {i : Nat} (h : i < 8) : cutA names (some (3 * (i : Int))) (some (3 * (i : Int) + 3)) = (wI i).map (nmOf names) := by
  rw [show (3 * (i : Int)) = ((3 * i : Nat) : Int) by omega, show ((3 * i : Nat) : Int) + 3 = ((3 * i + 3 : Nat) : Int) by omega, cut_nm N (by omega) (by omega), show 3 * i + 3 - 3 * i = 3 by omega]
  rfl
theorem mulOk3 (i : Int) : mulOk 3 i = true := by
  unfold mulOk
  exact decide_eq_true (.inl ⟨by decide, by decide⟩)
@[simp] theorem sorted_three (x y z : Str) : dSorted (.lst [.str x, .str y, .str z]) = some (.lst ((sortS [x, y, z]).map .str)) := sorted_strs [x, y, z]
noncomputable def b5 : Ev → SR := (sDrop (eMt 3 mExtend (lCons (eVis (eLc (iT (eOp dIx (eVar 2) (eVar 9))) (gN 12) qYes (eCB (un dTuple) (lCons (eVis (eCBN (un dSorted) (lCons (eVis (eLst (lCons (eVar 10) (lCons (eVar 11) (lCons (eVar 12) lNil))))) lNil))) lNil)) [12])) lNil)))
noncomputable def b4 : Ev → SR := sFor (iT (eOp dIx (eVar 2) (eVar 8))) (gN 11) b5
noncomputable def b3 : Ev → SR := sFor (iT (eOp dIx (eVar 2) (eVar 7))) (gN 10) b4
noncomputable def b2 : Ev → SR := sFor (iR2 (lCons (eOp dAdd (eVar 8) (eC (.int 1))) (lCons (eVar 1) lNil))) (gN 9) b3
noncomputable def b1 : Ev → SR := sFor (iR2 (lCons (eOp dAdd (eVar 7) (eC (.int 1))) (lCons (eVar 1) lNil))) (gN 8) b2
/-- the frame -/
def fE (names : List Str) (rs : List Rm) (bk : D) (s6 : Sl) (L : List (List Str)) (s7 s8 s9 s10 s11 : Sl) : Ev := [.val (.lst (names.map .str)), .val (.int 7), .val (.lst (rs.map fun r => .tup (r.map .str))), .own (.lst (tT L)), .no, .val bk, s6, s7, s8, s9, s10, s11, .no]
section
variable {names : List Str} {rs : List Rm} {bk : D} {s6 : Sl} {R : Nat → List Str}
theorem tT_app (L M : List (List Str)) : tT (L ++ M) = tT L ++ tT M := List.map_append
theorem take_flat {α β : Type} {l : List α} {n : Nat} {x : α} (f : α → List β) (h : l[n]? = some x) : (l.take (n + 1)).flatMap f = (l.take n).flatMap f ++ f x := by
  rw [List.take_add_one, h, List.flatMap_append]
  simp
theorem range_flat {β : Type} (f : Nat → List β) (n : Nat) : (List.range (n + 1)).flatMap f = (List.range n).flatMap f ++ f n := by
  rw [List.range_succ, List.flatMap_append]
  simp
theorem lv5 {s7 s8 : Sl} {k : Nat} {x y : Str} {L : List (List Str)} (rk : atI rs (k : Int) = some (R k)) (hl : L.length + (R k).length < 1000000) :
    b5 (fE names rs bk s6 L s7 s8 (.val (.int (k : Int))) (.val (.str x)) (.val (.str y))) = .nx (fE names rs bk s6 (L ++ (R k).map fun z => sortS [x, y, z]) s7 s8 (.val (.int (k : Int))) (.val (.str x)) (.val (.str y))) := by
  simp [b5, fE]
  rw [eLc_y (enc := .str) (R k) (fun z => .tup ((sortS [x, y, z]).map .str)) ?h1 ?h2]
  case h1 => simp [rk]
  case h2 =>
    intro z hz
    simp
  simp [hl]
  unfold tT
  rw [List.map_append, List.map_map]
  rfl
theorem lv4 {s7 : Sl} {j k : Nat} {x : Str} {L : List (List Str)} {s11 : Sl} (rj : atI rs (j : Int) = some (R j)) (rk : atI rs (k : Int) = some (R k)) (lj : (R j).length = 3) (lk : (R k).length = 3) (hL : L.length ≤ 900000) :
    ∃ s, b4 (fE names rs bk s6 L s7 (.val (.int (j : Int))) (.val (.int (k : Int))) (.val (.str x)) s11) = .nx (fE names rs bk s6 (L ++ (R j).flatMap fun y => (R k).map fun z => sortS [x, y, z]) s7 (.val (.int (j : Int))) (.val (.int (k : Int))) (.val (.str x)) s) := by
  obtain ⟨e', h1, M, s, h2, h3, h4⟩ := forL_nx (enc := .str) (s := gN 11) (g := b5) (fun n e => ∃ (M : List (List Str)) (s : Sl), e = fE names rs bk s6 M s7 (.val (.int (j : Int))) (.val (.int (k : Int))) (.val (.str x)) s ∧ M = L ++ ((R j).take n).flatMap (fun y => (R k).map fun z => sortS [x, y, z]) ∧ M.length ≤ L.length + 3 * n) (R j) 0 (fE names rs bk s6 L s7 (.val (.int (j : Int))) (.val (.int (k : Int))) (.val (.str x)) s11) ⟨L, s11, rfl, by simp, Nat.le_refl _⟩ (by
    rintro n y hy e ⟨M, s, rfl, h2, h3⟩
    have hn : n < 3 := by
      rcases Nat.lt_or_ge n (R j).length with q | q
      · omega
      · rw [List.getElem?_eq_none q] at hy; cases hy
    rw [Nat.zero_add] at h2 h3
    refine ⟨fE names rs bk s6 M s7 (.val (.int (j : Int))) (.val (.int (k : Int))) (.val (.str x)) (.val (.str y)), rfl, _, .inl (lv5 rk (by omega)), M ++ (R k).map (fun z => sortS [x, y, z]), .val (.str y), rfl, ?_, ?_⟩
    · rw [Nat.zero_add, take_flat _ hy, h2, List.append_assoc]
    · rw [List.length_append, List.length_map]
      omega)
  rw [Nat.zero_add, List.take_of_length_le (Nat.le_refl _)] at h3
  subst h3
  subst h2
  refine ⟨s, ?_⟩
  rw [← h1]
  show sFor (iT (eOp dIx (eVar 2) (eVar 8))) (gN 11) b5 _ = _
  simp [fE, rj]
theorem lv3 {i j k : Nat} {L : List (List Str)} {s10 s11 : Sl} (ri : atI rs (i : Int) = some (R i)) (rj : atI rs (j : Int) = some (R j)) (rk : atI rs (k : Int) = some (R k)) (li : (R i).length = 3) (lj : (R j).length = 3) (lk : (R k).length = 3) (hL : L.length ≤ 800000) :
    ∃ s s', b3 (fE names rs bk s6 L (.val (.int (i : Int))) (.val (.int (j : Int))) (.val (.int (k : Int))) s10 s11) = .nx (fE names rs bk s6 (L ++ dD R i j k) (.val (.int (i : Int))) (.val (.int (j : Int))) (.val (.int (k : Int))) s s') ∧ (L ++ dD R i j k).length ≤ L.length + 27 := by
  obtain ⟨e', h1, M, s, s', h2, h3, h4⟩ := forL_nx (enc := .str) (s := gN 10) (g := b4) (fun n e => ∃ (M : List (List Str)) (s s' : Sl), e = fE names rs bk s6 M (.val (.int (i : Int))) (.val (.int (j : Int))) (.val (.int (k : Int))) s s' ∧ M = L ++ ((R i).take n).flatMap (fun x => (R j).flatMap fun y => (R k).map fun z => sortS [x, y, z]) ∧ M.length ≤ L.length + 9 * n) (R i) 0 (fE names rs bk s6 L (.val (.int (i : Int))) (.val (.int (j : Int))) (.val (.int (k : Int))) s10 s11) ⟨L, s10, s11, rfl, by simp, Nat.le_refl _⟩ (by
    rintro n x hx e ⟨M, s, s', rfl, h2, h3⟩
    have hn : n < 3 := by
      rcases Nat.lt_or_ge n (R i).length with q | q
      · omega
      · rw [List.getElem?_eq_none q] at hx; cases hx
    rw [Nat.zero_add] at h2 h3
    obtain ⟨s2, e4⟩ := lv4 (names := names) (bk := bk) (s6 := s6) (s7 := .val (.int (i : Int))) (x := x) (L := M) (s11 := s') rj rk lj lk (by omega)
    have e9 : ((R j).flatMap fun y => (R k).map fun z => sortS [x, y, z]).length = 9 := by
      have g : ∀ l : List Str, (l.flatMap fun y => (R k).map fun z => sortS [x, y, z]).length = l.length * 3 := fun l => by
        induction l with
        | nil => rfl
        | cons a l ih => rw [List.flatMap_cons, List.length_append, ih, List.length_map, lk, List.length_cons, Nat.add_mul]; omega
      rw [g, lj]
    refine ⟨fE names rs bk s6 M (.val (.int (i : Int))) (.val (.int (j : Int))) (.val (.int (k : Int))) (.val (.str x)) s', rfl, _, .inl e4, _, .val (.str x), s2, rfl, ?_, ?_⟩
    · rw [Nat.zero_add, take_flat _ hx, h2, List.append_assoc]
    · rw [List.length_append, e9]
      omega)
  rw [Nat.zero_add, List.take_of_length_le (Nat.le_refl _)] at h3
  have h3 : M = L ++ dD R i j k := h3
  subst h3
  subst h2
  refine ⟨s, s', ?_, by omega⟩
  rw [← h1]
  show sFor (iT (eOp dIx (eVar 2) (eVar 7))) (gN 10) b4 _ = _
  simp [fE, ri]
theorem lv2 {i j : Nat} {L : List (List Str)} {s9 s10 s11 : Sl} (hR : ∀ n : Nat, n < 7 → atI rs (n : Int) = some (R n)) (lR : ∀ n, (R n).length = 3) (hi : i < 7) (hj : j < 7) (hL : L.length ≤ 700000) :
    ∃ s s' s'', b2 (fE names rs bk s6 L (.val (.int (i : Int))) (.val (.int (j : Int))) s9 s10 s11) = .nx (fE names rs bk s6 (L ++ dC R i j) (.val (.int (i : Int))) (.val (.int (j : Int))) s s' s'') ∧ (L ++ dC R i j).length ≤ L.length + 170 := by
  have q3 : (-1000000 : Int) ≤ (j : Int) + 1 := by omega
  have q4 : (j : Int) + 1 ≤ 1000000 := by omega
  have eq : rngItems ((j : Int) + 1) (7 - ((j : Int) + 1)).toNat = (List.range (7 - (j + 1))).map fun k => D.int ((j + 1 + k : Nat) : Int) := by
    unfold rngItems
    rw [show (7 - ((j : Int) + 1)).toNat = 7 - (j + 1) by omega]
    refine List.map_congr_left fun k _ => ?_
    rw [show (j : Int) + 1 + (k : Int) = ((j + 1 + k : Nat) : Int) by omega]
  obtain ⟨e', h1, M, s, s', s'', h2, h3, h4⟩ := forL_nx (enc := fun k : Nat => D.int ((j + 1 + k : Nat) : Int)) (s := gN 9) (g := b3) (fun n e => ∃ (M : List (List Str)) (s s' s'' : Sl), e = fE names rs bk s6 M (.val (.int (i : Int))) (.val (.int (j : Int))) s s' s'' ∧ M = L ++ (List.range n).flatMap (fun k => dD R i j (j + 1 + k)) ∧ M.length ≤ L.length + 27 * n) (List.range (7 - (j + 1))) 0 (fE names rs bk s6 L (.val (.int (i : Int))) (.val (.int (j : Int))) s9 s10 s11) ⟨L, s9, s10, s11, rfl, by simp, Nat.le_refl _⟩ (by
    rintro n x hx e ⟨M, s, s', s'', rfl, h2, h3⟩
    have hn : n < 7 - (j + 1) := by
      rcases Nat.lt_or_ge n (7 - (j + 1)) with q | q
      · exact q
      · rw [List.getElem?_eq_none (by rw [List.length_range]; exact q)] at hx; cases hx
    rw [List.getElem?_range hn] at hx
    cases hx
    rw [Nat.zero_add] at h2 h3
    obtain ⟨t, t', e4, e5⟩ := lv3 (names := names) (bk := bk) (s6 := s6) (L := M) (s10 := s') (s11 := s'') (hR i hi) (hR j hj) (hR (j + 1 + n) (by omega)) (lR i) (lR j) (lR _) (by omega)
    refine ⟨fE names rs bk s6 M (.val (.int (i : Int))) (.val (.int (j : Int))) (.val (.int ((j + 1 + n : Nat) : Int))) s' s'', rfl, _, .inl e4, _, _, t, t', rfl, ?_, ?_⟩
    · rw [Nat.zero_add, range_flat, h2, List.append_assoc]
    · omega)
  rw [List.length_range] at h3 h4
  rw [Nat.zero_add] at h3 h4
  have h3 : M = L ++ dC R i j := h3
  subst h3
  subst h2
  refine ⟨s, s', s'', ?_, by omega⟩
  rw [← h1, ← eq]
  have hf : iR2 (lCons (eOp dAdd (eVar 8) (eC (.int 1))) (lCons (eVar 1) lNil)) (fE names rs bk s6 L (.val (.int (i : Int))) (.val (.int (j : Int))) s9 s10 s11) = .ok (rngItems ((j : Int) + 1) (7 - ((j : Int) + 1)).toNat, .seen) (fE names rs bk s6 L (.val (.int (i : Int))) (.val (.int (j : Int))) s9 s10 s11) := by
    refine iR2_ok ?_ q3 q4 (by decide) (by decide)
    simp [fE]
  have e : b2 = sFor (iR2 (lCons (eOp dAdd (eVar 8) (eC (.int 1))) (lCons (eVar 1) lNil))) (gN 9) b3 := rfl
  rw [e, ev_sFor, hf]
  simp only [Res.andS_ok]
theorem lv1 {i : Nat} {L : List (List Str)} {s8 s9 s10 s11 : Sl} (hR : ∀ n : Nat, n < 7 → atI rs (n : Int) = some (R n)) (lR : ∀ n, (R n).length = 3) (hi : i < 7) (hL : L.length ≤ 600000) :
    ∃ t s s' s'', b1 (fE names rs bk s6 L (.val (.int (i : Int))) s8 s9 s10 s11) = .nx (fE names rs bk s6 (L ++ dB R i) (.val (.int (i : Int))) t s s' s'') ∧ (L ++ dB R i).length ≤ L.length + 2000 := by
  have q3 : (-1000000 : Int) ≤ (i : Int) + 1 := by omega
  have q4 : (i : Int) + 1 ≤ 1000000 := by omega
  have eq : rngItems ((i : Int) + 1) (7 - ((i : Int) + 1)).toNat = (List.range (7 - (i + 1))).map fun k => D.int ((i + 1 + k : Nat) : Int) := by
    unfold rngItems
    rw [show (7 - ((i : Int) + 1)).toNat = 7 - (i + 1) by omega]
    refine List.map_congr_left fun k _ => ?_
    rw [show (i : Int) + 1 + (k : Int) = ((i + 1 + k : Nat) : Int) by omega]
  obtain ⟨e', h1, M, t, s, s', s'', h2, h3, h4⟩ := forL_nx (enc := fun k : Nat => D.int ((i + 1 + k : Nat) : Int)) (s := gN 8) (g := b2) (fun n e => ∃ (M : List (List Str)) (t s s' s'' : Sl), e = fE names rs bk s6 M (.val (.int (i : Int))) t s s' s'' ∧ M = L ++ (List.range n).flatMap (fun j => dC R i (i + 1 + j)) ∧ M.length ≤ L.length + 170 * n) (List.range (7 - (i + 1))) 0 (fE names rs bk s6 L (.val (.int (i : Int))) s8 s9 s10 s11) ⟨L, s8, s9, s10, s11, rfl, by simp, Nat.le_refl _⟩ (by
    rintro n x hx e ⟨M, t, s, s', s'', rfl, h2, h3⟩
    have hn : n < 7 - (i + 1) := by
      rcases Nat.lt_or_ge n (7 - (i + 1)) with q | q
      · exact q
      · rw [List.getElem?_eq_none (by rw [List.length_range]; exact q)] at hx; cases hx
    rw [List.getElem?_range hn] at hx
    cases hx
    rw [Nat.zero_add] at h2 h3
    obtain ⟨u, u', u'', e4, e5⟩ := lv2 (names := names) (bk := bk) (s6 := s6) (i := i) (j := i + 1 + n) (L := M) (s9 := s) (s10 := s') (s11 := s'') hR lR hi (by omega) (by omega)
    refine ⟨fE names rs bk s6 M (.val (.int (i : Int))) (.val (.int ((i + 1 + n : Nat) : Int))) s s' s'', rfl, _, .inl e4, _, _, u, u', u'', rfl, ?_, ?_⟩
    · rw [Nat.zero_add, range_flat, h2, List.append_assoc]
    · omega)
  rw [List.length_range] at h3 h4
  rw [Nat.zero_add] at h3 h4
  have h3 : M = L ++ dB R i := h3
  subst h3
  subst h2
  refine ⟨t, s, s', s'', ?_, by omega⟩
  rw [← h1, ← eq]
  have hf : iR2 (lCons (eOp dAdd (eVar 7) (eC (.int 1))) (lCons (eVar 1) lNil)) (fE names rs bk s6 L (.val (.int (i : Int))) s8 s9 s10 s11) = .ok (rngItems ((i : Int) + 1) (7 - ((i : Int) + 1)).toNat, .seen) (fE names rs bk s6 L (.val (.int (i : Int))) s8 s9 s10 s11) := by
    refine iR2_ok ?_ q3 q4 (by decide) (by decide)
    simp [fE]
  have e : b1 = sFor (iR2 (lCons (eOp dAdd (eVar 7) (eC (.int 1))) (lCons (eVar 1) lNil))) (gN 8) b2 := rfl
  rw [e, ev_sFor, hf]
  simp only [Res.andS_ok]
end
theorem v_bounds {names : List Str} (N : Nms names) {m : Nat} (hm : m = 7 ∨ m = 8) : F__law_bounds [.lst (names.map .str), .int (m : Int)] = .ok (.bl true) [.no, .no] := by
  have okm : okI (idxS m) = true := by rcases hm with rfl | rfl; exact ok7; exact ok8
  have ok := rooms_okI N okm
  have m8 : m ≤ 8 := by omega
  have hi := v_init ok
  suffices H : WF (F__law_bounds [.lst (names.map .str), .int (m : Int)]) fun z o => z = .bl true ∧ o = [.no, .no] by
    obtain ⟨z, o, h, rfl, rfl⟩ := H.out
    exact h
  generalize hK : (fun (z : D) (o : Ev) => z = .bl true ∧ o = [.no, .no]) = K
  have hK' : K (.bl true) [.no, .no] := by rw [← hK]; exact ⟨rfl, rfl⟩
  clear hK
  have q1 : (m : Int) ≤ 1000000 := by omega
  have q2 : (-1000000 : Int) ≤ m := by omega
  simp [F__law_bounds, run_fin, g__law_bounds]
  rw [eLc_y (enc := fun i : Nat => .int (0 + (i : Int))) (List.range m) (fun i => .tup ((rI names i).map .str)) ?h1 ?h2]
  case h1 => simp [q1, q2, rngItems]
  case h2 =>
    intro i hi
    have hi := List.mem_range.mp hi
    have c := cut3 N (i := i) (by omega)
    unfold rI
    generalize (wI i).map (nmOf names) = u at c
    simp [mulOk3, c]
  have hr : ((List.range m).map fun i => D.tup ((rI names i).map .str)) = (roomsI names (idxS m)).map fun r => .tup (r.map .str) := by
    rw [roomsS, List.map_map]
    rfl
  rw [hr]
  simp [hi]
  rcases hm with rfl | rfl
  · -- seven rooms
    have k7 := count_I N ok7
    simp
    refine WS_rng (fun i e => ∃ (s6 : Sl), e = [.val (.lst (names.map .str)), .val (.int 7), .val (.lst ((roomsI names (idxS 7)).map fun r => .tup (r.map .str))), .own (.lst []), .no, .val (bookD (roomsI names (idxS 7))), s6, .no, .no, .no, .no, .no, .no]) ⟨.no, rfl⟩ ?_ ?_
    · rintro i hi e ⟨s6, rfl⟩
      refine ⟨_, rfl, ?_⟩
      have hi : i < 2 := hi
      have hf : fewN (roomsI names (idxS 7)) (4 + i) = false := fewN_false (i := 3) (by omega) (by rw [k7, c74]; decide)
      have t := v_told ok (n := 4 + i) (by omega)
      rw [show ((4 + i : Nat) : Int) = 4 + (i : Int) by omega, hf] at t
      simp at t
      simp [t, rw_self]
    · rintro e ⟨s6, rfl⟩
      simp
      have hR : ∀ i : Nat, i < 7 → atI (roomsI names (idxS 7)) (i : Int) = some (rI names i) := fun i hi => by
        rw [PD.atI_nat, roomsS, List.getElem?_map, List.getElem?_range hi]
        rfl
      have lR : ∀ i, (rI names i).length = 3 := fun i => by
        unfold rI
        rw [(sortS_perm _).length_eq]
        rfl
      have hp := due_perm N
      have l3 : (dA (rI names)).length = 945 := len_dA lR
      have hf : fewN (roomsI names (idxS 7)) 3 = true := by
        unfold fewN
        rw [List.all_eq_true]
        intro i hi
        have := List.mem_range.mp hi
        refine decide_eq_true ?_
        rw [k7]
        have : i = 0 ∨ i = 1 ∨ i = 2 := by omega
        rcases this with rfl | rfl | rfl
        · rw [c71]; decide
        · rw [c72]; decide
        · rw [c73]; decide
      have t3 := v_told ok (n := 3) (by decide)
      simp [hf] at t3
      have hsd := sorted_tups hp (lots_sorted _ 3) fun l hl e => by
        have := lotsN_len _ 3 l (hp.mem_iff.mp hl)
        rw [e] at this
        cases this
      have hsd : dSorted (.lst (tT (dA (rI names)))) = some (.lst (tT (lotsN (roomsI names (idxS 7)) 3))) := hsd
      have hbk := bookD (roomsI names (idxS 7))
      generalize bookD (roomsI names (idxS 7)) = bk at t3
      generalize roomsI names (idxS 7) = rs at *
      generalize rI names = R at *
      have hb1 : ∀ g, g = b1 → (sFor (iR2 (lCons (eOp dAdd (eVar 7) (eC (.int 1))) (lCons (eVar 1) lNil))) (gN 8) (sFor (iR2 (lCons (eOp dAdd (eVar 8) (eC (.int 1))) (lCons (eVar 1) lNil))) (gN 9) (sFor (iT (eOp dIx (eVar 2) (eVar 7))) (gN 10) (sFor (iT (eOp dIx (eVar 2) (eVar 8))) (gN 11) (sDrop (eMt 3 mExtend (lCons (eVis (eLc (iT (eOp dIx (eVar 2) (eVar 9))) (gN 12) qYes (eCB (un dTuple) (lCons (eVis (eCBN (un dSorted) (lCons (eVis (eLst (lCons (eVar 10) (lCons (eVar 11) (lCons (eVar 12) lNil))))) lNil))) lNil)) [12])) lNil))))))) = g := fun g h => by rw [h]; rfl
      rw [hb1 b1 rfl]
      refine WS_rng (fun i e => ∃ (L : List (List Str)) (b c d f g : Sl), e = fE names rs bk s6 L b c d f g ∧ L = (List.range i).flatMap (dB R) ∧ L.length ≤ 2000 * i)
        ⟨[], .no, .no, .no, .no, .no, rfl, rfl, Nat.le_refl _⟩ ?_ ?_
      · rintro i hi e ⟨L1, b, c, d, f, g, rfl, h1, n1⟩
        have hi7 : i < 7 := hi
        obtain ⟨t, s, s', s'', e4, e5⟩ := lv1 (names := names) (bk := bk) (s6 := s6) (i := i) (L := L1) (s8 := c) (s9 := d) (s10 := f) (s11 := g) hR lR hi7 (by omega)
        refine ⟨fE names rs bk s6 L1 (.val (.int (i : Int))) c d f g, by simp [fE], ?_⟩
        rw [e4]
        exact ⟨_, _, _, _, _, _, rfl, by rw [range_flat, h1], by omega⟩
      · rintro e ⟨L1, b, c, d, f, g, rfl, h1, n1⟩
        have h1 : L1 = dA R := h1
        subst h1
        simp [fE, l3, t3, hsd, told_self]
        exact hK'
  · -- eight rooms
    have k8 := count_I N ok8
    simp
    refine WS_rng (fun i e => ∃ (s6 : Sl), e = [.val (.lst (names.map .str)), .val (.int 8), .val (.lst ((roomsI names (idxS 8)).map fun r => .tup (r.map .str))), .own (.lst []), .no, .val (bookD (roomsI names (idxS 8))), s6, .no, .no, .no, .no, .no, .no]) ⟨.no, rfl⟩ ?_ ?_
    · rintro i hi e ⟨s6, rfl⟩
      refine ⟨_, rfl, ?_⟩
      have hi : i < 3 := hi
      have hf : fewN (roomsI names (idxS 8)) (3 + i) = false := fewN_false (i := 2) (by omega) (by rw [k8, c83]; decide)
      have t := v_told ok (n := 3 + i) (by omega)
      rw [show ((3 + i : Nat) : Int) = 3 + (i : Int) by omega, hf] at t
      simp at t
      simp [t, rw_self]
    · rintro e ⟨s6, rfl⟩
      simp [rngItems, forL]
      exact hK'
end Q06


set_option Elab.async false
set_option linter.all false
set_option maxRecDepth 100000
set_option maxHeartbeats 2000000
/-! the law -/
namespace Q06
open PySem PySem.Spec PyProof.Rows L2 RK PD
theorem hp_ok (ns : List Int) : HS (hpF ns).1 (hpF ns).2 := by
  unfold hpF
  dsimp only
  refine ⟨?_, ?_⟩
  · rw [List.length_reverse]
    refine Nat.le_trans (List.length_filter_le _ _) ?_
    rw [List.length_map, List.length_take]
    omega
  · generalize (ns.take 60).map (fun z : Int => if z < 0 then -z else z) = cs
    have : ∀ (cs : List Int) (s : Int), 0 ≤ s → s < 2147483647 → 0 ≤ cs.foldl hpS s ∧ cs.foldl hpS s < 2147483647 := fun cs => by
      induction cs with
      | nil => intro s h1 h2; exact ⟨h1, h2⟩
      | cons c cs ih =>
        intro s _ _
        rw [List.foldl_cons]
        exact ih _ (Int.emod_nonneg _ (by decide)) (Int.emod_lt_of_pos _ (by decide))
    exact this cs 1009 (by decide) (by decide)
theorem odd_self : dEqv (.lst [.str "number", .str "size"]) (.lst [.str "number", .str "size"]) = some true := by
  refine dEqv_self (p := .list [.str "number", .str "size"]) (by simp) (by decide)
theorem odd_int {i : Int} (h : ¬(0 ≤ i ∧ i ≤ 5)) : F_is_number_within [.int i, .int 0, .int 5] = .ok (.bl false) [.no, .no, .no] := by
  rw [v_within_i, decide_eq_false h]
theorem odd_other {d : D} (h : F_is_integer [d] = .ok (.bl false) [.no]) : F_is_number_within [d, .int 0, .int 5] = .ok (.bl false) [.no, .no, .no] := by
  simp [F_is_number_within, run_fin, g_is_number_within, h]
def odds : List D := [.int (-1), .int 6, .int 60, .non, .str "2", .bl true, .tup [.int 2], .lst []]
theorem odds_no : ∀ d ∈ odds, F_is_number_within [d, .int 0, .int 5] = .ok (.bl false) [.no, .no, .no] := by
  intro d hd
  unfold odds at hd
  simp only [List.mem_cons, List.not_mem_nil, or_false] at hd
  rcases hd with rfl | rfl | rfl | rfl | rfl | rfl | rfl | rfl
  · exact odd_int (by decide)
  · exact odd_int (by decide)
  · exact odd_int (by decide)
  · exact odd_other (by simp [F_is_integer, run_fin, g_is_integer, is_int, is_bool])
  · exact odd_other (by simp [F_is_integer, run_fin, g_is_integer, is_int, is_bool])
  · exact odd_other (by simp [F_is_integer, run_fin, g_is_integer, is_int, is_bool])
  · exact odd_other (by simp [F_is_integer, run_fin, g_is_integer, is_int, is_bool])
  · exact odd_other (by simp [F_is_integer, run_fin, g_is_integer, is_int, is_bool])
theorem law_true (ns : List Int) : ∃ o, F_law [.scr ns] = .ok (.bl true) o := by
  suffices H : WF (F_law [.scr ns]) fun z o => z = .bl true by
    obtain ⟨z, o, h, rfl⟩ := H.out
    exact ⟨o, h⟩
  generalize hK : (fun (z : D) (o : Ev) => z = .bl true) = K
  have hK' : ∀ o, K (.bl true) o := fun o => by rw [← hK]
  clear hK
  obtain ⟨h1, h2, h3⟩ := hp_ok ns
  obtain ⟨_, _, en, nms, z1, s1, ln, nd, nok, hs1, rfl, rfl⟩ := (names_w ⟨h1, h2, h3⟩ (n := 24) (by decide) (K := fun z o => ∃ (nms : List Str) (zs' : List Int) (s' : Int), nms.length = 24 ∧ nms.Nodup ∧ (∀ x ∈ nms, NameOk x) ∧ HS zs' s' ∧ z = .lst (nms.map .str) ∧ o = [.heap zs' s', .no]) fun a b c h1 h2 h3 h4 => ⟨a, b, c, h1, h2, h3, h4, rfl, rfl⟩).out
  have N : Nms nms := ⟨ln, nd, nok⟩
  obtain ⟨v2, z2, s2, e2, a2, b2, hs2⟩ := draw hs1 (m := 9) (by decide) (by decide)
  obtain ⟨n2, rfl⟩ := Int.eq_ofNat_of_zero_le a2
  obtain ⟨v3, z3, s3, e3, a3, b3, hs3⟩ := draw hs2 (m := 3) (by decide) (by decide)
  obtain ⟨n3, rfl⟩ := Int.eq_ofNat_of_zero_le a3
  obtain ⟨_, _, er, rs, z4, s4, ok, hsub, hs4, rfl, rfl⟩ := (rooms_w hs3 (names := nms) (many := 1 + n2) (most := 3 + n3) (by omega) (by omega) (by omega) (by omega) (by omega) (by omega) nok nd (K := fun z o => ∃ (rs : List Rm) (zs' : List Int) (s' : Int), RoomsOk rs ∧ (∀ r ∈ rs, ∀ x ∈ r, x ∈ nms) ∧ HS zs' s' ∧ z = .lst (rs.map fun r => .tup (r.map .str)) ∧ o = [.heap zs' s', .no, .no, .no]) fun a b c h1 h2 h3 => ⟨a, b, c, h1, h2, h3, rfl, rfl⟩).out
  obtain ⟨v5, z5, s5, e5, a5, b5, hs5⟩ := draw hs4 (m := 8) (by decide) (by decide)
  obtain ⟨kd, rfl⟩ := Int.eq_ofNat_of_zero_le a5
  obtain ⟨m, hm5, hle, hgt, el⟩ := lots_eq ok (many := 60) (by decide)
  have hi := v_init ok
  rw [show ((1 + n2 : Nat) : Int) = 1 + (n2 : Int) by omega, show ((3 + n3 : Nat) : Int) = 3 + (n3 : Int) by omega] at er
  have m2 : 2 ≤ m := by
    rcases Nat.lt_or_ge m 2 with q | q
    · have h := hgt (by omega)
      have h0 : (lotsN rs 0).length = 1 := rfl
      have h1 : (lotsN rs 1).length ≤ 24 := step_le ok (lotsN rs 0)
      have : m = 0 ∨ m = 1 := by omega
      rcases this with rfl | rfl <;> omega
    · exact q
  have told : ∀ n, n ≤ m → F__law_told [bookD rs, .int (n : Int)] = .ok (.lst [.str "told", .tup (tT (lotsN rs n))]) [.no, .no] := fun n hn => by
    rw [v_told ok (by omega), if_pos (few_of ok fun i hi => hle i (by omega))]
  have hb7 : F__law_bounds [.lst (nms.map .str), .int 7] = .ok (.bl true) [.no, .no] := v_bounds N (m := 7) (.inl rfl)
  have hb8 : F__law_bounds [.lst (nms.map .str), .int 8] = .ok (.bl true) [.no, .no] := v_bounds N (m := 8) (.inr rfl)
  have hla := v_later N
  have hed := v_edge N
  have en : F__law_names [heapD (hpF ns).1 (hpF ns).2, .int 24] = _ := en
  have el : F__law_lots [.lst (rs.map fun r => .tup (r.map .str)), .int 60] = _ := el
  have tail : ∀ (k : Sl), WS (forL (gN 7) (sIf (qB (eOp dNe (eCall [.v, .v] F__law_told (lCons (eVar 5) (lCons (eVar 7) lNil))) (eVis (eLst (lCons (eC (.str "told")) (lCons (eCB (un dTuple) (lCons (eOp dIx (eVar 6) (eVar 7)) lNil)) lNil)))))) (sRet (eC (.bl false))) sNext) (rngItems 0 (m + 1)) [.val (.scr ns), .heap z5 s5, .val (.lst (nms.map .str)), .val (.lst (rs.map fun r => .tup (r.map .str))), k, .val (bookD rs), .val (.lst (foundL rs m)), .no, .no])
      (fun e => ∃ (a : Sl), e = [.val (.scr ns), .heap z5 s5, .val (.lst (nms.map .str)), .val (.lst (rs.map fun r => .tup (r.map .str))), k, .val (bookD rs), .val (.lst (foundL rs m)), a, .no]) (fun _ => False) (fun _ => False) (KR [.v] K) := by
    intro k
    refine WS_rng (fun i e => ∃ (a : Sl), e = [.val (.scr ns), .heap z5 s5, .val (.lst (nms.map .str)), .val (.lst (rs.map fun r => .tup (r.map .str))), k, .val (bookD rs), .val (.lst (foundL rs m)), a, .no]) ⟨.no, rfl⟩ ?_ ?_
    · rintro i hi e ⟨a, rfl⟩
      refine ⟨_, rfl, ?_⟩
      have t := told i (by omega)
      have f := found_at rs (m := m) (j := i) (by omega)
      simp [t, f, told_self]
    · exact fun e he => he
  have fl : (foundL rs m).length = m + 1 := by
    unfold foundL
    rw [List.length_map, List.length_range]
  have q1 : ((foundL rs m).length : Int) ≤ 1000000 := by omega
  have q2 : (-1000000 : Int) ≤ ((foundL rs m).length : Int) := by omega
  rw [← fl] at tail
  simp [F_law, run_fin, g_law, putHeap, h1, h2, h3, en, e2, e3, er, e5]
  have hk : kd = 0 ∨ kd = 1 ∨ kd = 2 ∨ kd = 3 ∨ 4 ≤ kd := by omega
  have f3 : ∀ (c : Prop) [Decidable c], (decide c = true) = c := fun c _ => by simp
  rcases hk with rfl | rfl | rfl | rfl | hk
  · simp [hb7, hi, el, q1, q2]
    refine WS.mono (tail _) ?_
    rintro e ⟨a, rfl⟩
    refine WS_for (enc := fun d : D => d) (fun i e => ∃ (b : Sl), e = [.val (.scr ns), .heap z5 s5, .val (.lst (nms.map .str)), .val (.lst (rs.map fun r => .tup (r.map .str))), .val (.int 0), .val (bookD rs), .val (.lst (foundL rs m)), a, b]) odds rfl ⟨.no, rfl⟩ ?_ ?_
    · rintro i d hd e ⟨b, rfl⟩
      refine ⟨_, rfl, ?_⟩
      have t := v_odd (rs := rs) (odds_no d (List.mem_of_getElem? hd))
      simp [t, odd_self]
    · rintro e ⟨b, rfl⟩
      have t : F__law_told [bookD rs, .int 2] = _ := told 2 m2
      have f : atI (foundL rs m) 2 = _ := found_at rs (m := m) (j := 2) m2
      simp [t, f, told_self]
      exact hK' _
  · simp [hb8, hi, el, q1, q2]
    refine WS.mono (tail _) ?_
    rintro e ⟨a, rfl⟩
    refine WS_for (enc := fun d : D => d) (fun i e => ∃ (b : Sl), e = [.val (.scr ns), .heap z5 s5, .val (.lst (nms.map .str)), .val (.lst (rs.map fun r => .tup (r.map .str))), .val (.int 1), .val (bookD rs), .val (.lst (foundL rs m)), a, b]) odds rfl ⟨.no, rfl⟩ ?_ ?_
    · rintro i d hd e ⟨b, rfl⟩
      refine ⟨_, rfl, ?_⟩
      have t := v_odd (rs := rs) (odds_no d (List.mem_of_getElem? hd))
      simp [t, odd_self]
    · rintro e ⟨b, rfl⟩
      have t : F__law_told [bookD rs, .int 2] = _ := told 2 m2
      have f : atI (foundL rs m) 2 = _ := found_at rs (m := m) (j := 2) m2
      simp [t, f, told_self]
      exact hK' _
  · simp [hla, hi, el, q1, q2]
    refine WS.mono (tail _) ?_
    rintro e ⟨a, rfl⟩
    refine WS_for (enc := fun d : D => d) (fun i e => ∃ (b : Sl), e = [.val (.scr ns), .heap z5 s5, .val (.lst (nms.map .str)), .val (.lst (rs.map fun r => .tup (r.map .str))), .val (.int 2), .val (bookD rs), .val (.lst (foundL rs m)), a, b]) odds rfl ⟨.no, rfl⟩ ?_ ?_
    · rintro i d hd e ⟨b, rfl⟩
      refine ⟨_, rfl, ?_⟩
      have t := v_odd (rs := rs) (odds_no d (List.mem_of_getElem? hd))
      simp [t, odd_self]
    · rintro e ⟨b, rfl⟩
      have t : F__law_told [bookD rs, .int 2] = _ := told 2 m2
      have f : atI (foundL rs m) 2 = _ := found_at rs (m := m) (j := 2) m2
      simp [t, f, told_self]
      exact hK' _
  · simp [hed, hi, el, q1, q2]
    refine WS.mono (tail _) ?_
    rintro e ⟨a, rfl⟩
    refine WS_for (enc := fun d : D => d) (fun i e => ∃ (b : Sl), e = [.val (.scr ns), .heap z5 s5, .val (.lst (nms.map .str)), .val (.lst (rs.map fun r => .tup (r.map .str))), .val (.int 3), .val (bookD rs), .val (.lst (foundL rs m)), a, b]) odds rfl ⟨.no, rfl⟩ ?_ ?_
    · rintro i d hd e ⟨b, rfl⟩
      refine ⟨_, rfl, ?_⟩
      have t := v_odd (rs := rs) (odds_no d (List.mem_of_getElem? hd))
      simp [t, odd_self]
    · rintro e ⟨b, rfl⟩
      have t : F__law_told [bookD rs, .int 2] = _ := told 2 m2
      have f : atI (foundL rs m) 2 = _ := found_at rs (m := m) (j := 2) m2
      simp [t, f, told_self]
      exact hK' _
  · have k1 : ¬ ((kd : Int) < 2) := by omega
    have k2 : ¬ ((kd : Int) = 2) := by omega
    have k3 : ¬ ((kd : Int) = 3) := by omega
    simp [k1, k2, k3, hi, el, q1, q2]
    refine WS.mono (tail _) ?_
    rintro e ⟨a, rfl⟩
    refine WS_for (enc := fun d : D => d) (fun i e => ∃ (b : Sl), e = [.val (.scr ns), .heap z5 s5, .val (.lst (nms.map .str)), .val (.lst (rs.map fun r => .tup (r.map .str))), .val (.int (kd : Int)), .val (bookD rs), .val (.lst (foundL rs m)), a, b]) odds rfl ⟨.no, rfl⟩ ?_ ?_
    · rintro i d hd e ⟨b, rfl⟩
      refine ⟨_, rfl, ?_⟩
      have t := v_odd (rs := rs) (odds_no d (List.mem_of_getElem? hd))
      simp [t, odd_self]
    · rintro e ⟨b, rfl⟩
      have t : F__law_told [bookD rs, .int 2] = _ := told 2 m2
      have f : atI (foundL rs m) 2 = _ := found_at rs (m := m) (j := 2) m2
      simp [t, f, told_self]
      exact hK' _
end Q06


set_option Elab.async false
set_option linter.all false
set_option maxRecDepth 100000
set_option maxHeartbeats 4000000
/-! the errors, the law in plain words -/
namespace Q06
open PySem PySem.Spec PyProof.Rows L2 RK PD
def spLaw (K : PySem.W.Frag) : Sp := fun vs H Q _ => ∃ (a : Addr) (ns : List Int), vs = [.ref a] ∧ SqL K H a (ns.map V.int) ∧ ns.length ≤ 63 ∧ ∀ H', Q (.bl true) H'
section
variable {P : Program} {w : World} {k : Kn} {mg : Str → Option Value} {base : Heap} {AD : String → Addr}
theorem law_in {F : List D → FR} (hF : ∀ ns : List Int, ∃ o, F [.scr ns] = .ok (.bl true) o) {vs : List V} {H : Hp} {Q : VK} {E : XK} (h : spLaw k.K vs H Q E) : spD k [.v] false F vs H Q (fun _ _ _ => False) := by
  obtain ⟨a, ns, rfl, hS, hl, hq⟩ := h
  obtain ⟨o, e⟩ := hF ns
  refine ⟨rfl, H, H, [.scr ns], [.val (.scr ns)], rfl, ⟨fun _ => [], ⟨rfl, L2.Same.refl H, L2.Same.refl H, fun i d hi => ?_, fun i s hi ho => ?_, fun i s b hi ho hb => absurd hb List.not_mem_nil, fun i j s t b _ _ _ _ _ hb => absurd hb List.not_mem_nil, fun i a hp => ?_, fun dd f v d hk => by cases hk⟩⟩, ?_⟩
  · match i, hi with
    | 0, hi =>
      cases hi
      exact ⟨_, rfl, .scr hS hl⟩
    | i + 1, hi => cases hi
  · match i, hi with
    | 0, hi => cases hi; cases ho
    | i + 1, hi => cases hi
  · match i, hp with
    | 0, hp => cases hp
    | i + 1, hp => cases hp
  · rw [e]
    exact ⟨fun _ G' H' v _ _ rp => by cases rp; exact hq H', fun z => by cases z⟩
theorem ok_lawT {f : Addr} {fd : FuncData} (G : FnOk P w k.K mg base CX0 8 f fd ["script"] (fun vs H Q _ => spD k [.v] false F_law vs H Q (fun _ _ _ => False))) : FnOk P w k.K mg base CX0 8 f fd ["script"] (spLaw k.K) :=
  G.imp fun vs H Q E h => law_in law_true h
abbrev sIni0 : Stmt := metL 3 0
theorem scIni0 : FnScope ["self", "at"] ["self", "at"] (defScope sIni0) := ⟨rfl, rfl, rfl, by decide +kernel, rfl, by decide +kernel, by decide +kernel⟩
theorem ok_ini0 {K : PySem.W.Frag} {f : Addr} {fd : FuncData} (F : Fun K "__init__" "InvalidBook.__init__" sIni0 f fd) : FnOk P w K mg base CX0 1 f fd ["self", "at"] (spIni K "at") := by
  refine F.ok scIni0 (fun vs H Q E h => ?_) (fun cdv A outer s H vs Q E hr h => ?_)
  · obtain ⟨a, C, w, rfl, _⟩ := h
    rfl
  · obtain ⟨a, C, w, rfl, T, no, ha, k⟩ := h
    refine ⟨_, pss_one (ps_ost (pv 0) (pv 1)), ?_⟩
    exact ⟨_, rfl, _, rfl, a, C, rfl, T, no, .inl ⟨ha, fun dx h1 h2 => k dx h1 h2⟩⟩
abbrev sIni1 : Stmt := metL 4 0
theorem scIni1 : FnScope ["self", "word"] ["self", "word"] (defScope sIni1) := ⟨rfl, rfl, rfl, by decide +kernel, rfl, by decide +kernel, by decide +kernel⟩
theorem ok_ini1 {K : PySem.W.Frag} {f : Addr} {fd : FuncData} (F : Fun K "__init__" "InvalidNumber.__init__" sIni1 f fd) : FnOk P w K mg base CX0 1 f fd ["self", "word"] (spIni K "word") := by
  refine F.ok scIni1 (fun vs H Q E h => ?_) (fun cdv A outer s H vs Q E hr h => ?_)
  · obtain ⟨a, C, w, rfl, _⟩ := h
    rfl
  · obtain ⟨a, C, w, rfl, T, no, ha, k⟩ := h
    refine ⟨_, pss_one (ps_ost (pv 0) (pv 1)), ?_⟩
    exact ⟨_, rfl, _, rfl, a, C, rfl, T, no, .inl ⟨ha, fun dx h1 h2 => k dx h1 h2⟩⟩
abbrev sIni2 : Stmt := metL 5 0
theorem scIni2 : FnScope ["self", "word"] ["self", "word"] (defScope sIni2) := ⟨rfl, rfl, rfl, by decide +kernel, rfl, by decide +kernel, by decide +kernel⟩
theorem ok_ini2 {K : PySem.W.Frag} {f : Addr} {fd : FuncData} (F : Fun K "__init__" "Refused.__init__" sIni2 f fd) : FnOk P w K mg base CX0 1 f fd ["self", "word"] (spIni K "word") := by
  refine F.ok scIni2 (fun vs H Q E h => ?_) (fun cdv A outer s H vs Q E hr h => ?_)
  · obtain ⟨a, C, w, rfl, _⟩ := h
    rfl
  · obtain ⟨a, C, w, rfl, T, no, ha, k⟩ := h
    refine ⟨_, pss_one (ps_ost (pv 0) (pv 1)), ?_⟩
    exact ⟨_, rfl, _, rfl, a, C, rfl, T, no, .inl ⟨ha, fun dx h1 h2 => k dx h1 h2⟩⟩
def kwP {α : Type} (p : List Nat) : List α → List α → List α
  | [], ws => p.filterMap (ws[·]?)
  | _ :: _, _ => []
theorem vals_get {vs : List V} {us : List Value} (r : Vals vs us) : ∀ i : Nat, (vs[i]? = none ∧ us[i]? = none) ∨ ∃ v u, vs[i]? = some v ∧ us[i]? = some u ∧ RelV v u := by
  induction r with
  | nil => intro i; exact .inl ⟨rfl, rfl⟩
  | cons a r ih =>
    intro i
    cases i with
    | zero => exact .inr ⟨_, _, rfl, rfl, a⟩
    | succ i => exact ih i
theorem vals_pick {vs : List V} {us : List Value} (r : Vals vs us) : ∀ p : List Nat, Vals (p.filterMap (vs[·]?)) (p.filterMap (us[·]?))
  | [] => .nil
  | i :: p => by
    rcases vals_get r i with ⟨h1, h2⟩ | ⟨v, u, h1, h2, h3⟩
    · rw [List.filterMap_cons, List.filterMap_cons, h1, h2]
      exact vals_pick r p
    · rw [List.filterMap_cons, List.filterMap_cons, h1, h2]
      exact .cons h3 (vals_pick r p)
theorem kwP_rel (p : List Nat) {vs : List V} {us : List Value} {zs : List V} {ws : List Value} (r : Vals vs us) (rz : Vals zs ws) : Vals (kwP p vs zs) (kwP p us ws) := by
  cases r with
  | nil => exact vals_pick rz p
  | cons _ _ => exact .nil
theorem kit_typ {K : PySem.W.Frag} {C : Addr} {T : String} {b : Bool} (hm : PySem.W.kitMeta T = true) (hs : PySem.W.subIn K (.ref C) (.type T) = some b) : PySem.W.kitOne K (.ref C) (.type T) = some b := by
  unfold PySem.W.kitOne PySem.W.kitCls
  rw [if_neg (by simp)]
  dsimp only
  rw [if_pos hm]
  exact hs
theorem en_in {en : List (Str × Addr)} {c : Str} {C : Addr} (h : en.lookup c = some C) : (c, C) ∈ en := by
  induction en with
  | nil => cases h
  | cons p r ih =>
    obtain ⟨a, b⟩ := p
    rw [List.lookup_cons] at h
    cases e : c == a with
    | true =>
      rw [e] at h
      cases h
      rw [beq_iff_eq.mp e]
      exact List.mem_cons_self
    | false =>
      rw [e] at h
      exact List.mem_cons_of_mem _ (ih h)
end
end Q06


set_option Elab.async false
set_option linter.all false
set_option maxRecDepth 100000
set_option maxHeartbeats 4000000
namespace Q06
open PySem PySem.Spec PyProof.Rows L2 RK
structure Df (K : PySem.W.Frag) (mg : Str → Option Value) (x : Str) (st : Stmt) : Prop where
  ex : ∃ (f : Addr) (fd : FuncData), Fun K x x st f fd ∧ mg x = some (.ref f)
theorem df_mk {K : PySem.W.Frag} {h : Heap} {mg : Str → Option Value} {x : Str} {st : Stmt} {f : Addr} {oc : Value} {od an : Option Addr} {sl : Array (Option Value)} {kV dc pm cd ct : Value} (X : K.In h) (G : h.Ns mainGlobals mg)
    (a : PySem.W.nsIn K mainGlobals x = some (some (.ref f))) (l : K.lookup f = some ⟨oc, od, .func (PySem.W.fnOf x x (defArgs st) (defBody st) (defScope st) .none kV dc pm an cd ct), sl⟩) (c : PySem.W.codeIn K cd x = true)
    (k : PySem.W.keepIn K (.ref f) = true) : Df K mg x st := ⟨f, _, fun_mk l c k, PySem.W.mg_of X G a⟩
/-- a method of a class, where the top has put it -/
structure Dm (K : PySem.W.Frag) (C : Addr) (m qual : Str) (st : Stmt) : Prop where
  ex : ∃ (f : Addr) (fd : FuncData), Fun K m qual st f fd ∧ L2.Meth K C m f
theorem dm_mk {K : PySem.W.Frag} {C : Addr} {m qual : Str} {st : Stmt} {f : Addr} {oc : Value} {od an : Option Addr} {sl : Array (Option Value)} {kV dc pm cd ct : Value}
    (a : PySem.W.findIn K (.ref C) m = some (some (.ref f))) (t : PySem.W.typeIn K (.ref f) = some (.type "function")) (l : K.lookup f = some ⟨oc, od, .func (PySem.W.fnOf m qual (defArgs st) (defBody st) (defScope st) .none kV dc pm an cd ct), sl⟩) (c : PySem.W.codeIn K cd qual = true)
    (k : PySem.W.keepIn K (.ref f) = true) : Dm K C m qual st := ⟨f, _, fun_mk l c k, ⟨a, beq_iff_eq.mpr t, k⟩⟩
theorem kit_subT {K : PySem.W.Frag} {S : Addr} {T : String} {b : Bool} (hd : PySem.W.hasDictIn K S = true) (ht : PySem.W.typeIn K (.ref S) = some (.type "type"))
    (hs : PySem.W.subIn K (.type T) (.ref S) = some b) : PySem.W.kitOne K (.type T) (.ref S) = some b := by
  obtain ⟨cd, hc, _⟩ := PySem.W.any_some hd
  have e2 : ((PySem.W.clsIn K S).isSome && PySem.W.typeIn K (.ref S) == some (.type "type")) = true := by rw [hc, ht] <;> rfl
  unfold PySem.W.kitOne PySem.W.kitCls
  rw [if_neg (by simp)]
  dsimp only
  rw [if_pos e2]
  exact hs
theorem nf_sub {K : PySem.W.Frag} {S : Addr} {T : Value} (hs : PySem.W.subIn K T (.ref S) = some false) : PySem.W.notFirst K S T = true := by
  unfold PySem.W.notFirst
  rw [hs, Bool.or_eq_true]
  exact .inr (by decide)
theorem exm_self {K : PySem.W.Frag} {S C : Addr} (h1 : PySem.W.subIn K (.ref S) (.type "BaseException") = some true) (hd : PySem.W.hasDictIn K S = true) (h3 : PySem.W.typeIn K (.ref S) = some (.type "type"))
    (h4 : PySem.W.subIn K (.ref C) (.ref S) = some true) : PySem.W.exmOne K (.ref C) (.ref S) = some true := PySem.W.exm_ref h1 hd h3 h4
open PD
abbrev sLaw : Stmt := s_law
def knOf (K : PySem.W.Frag) (cs en : List (Str × Addr)) : Kn := ⟨K, fun s => cs.lookup s, fun s => en.lookup s, fdOf, fun _ => none, none⟩
theorem ty_bool {K : PySem.W.Frag} : ∀ n ∈ tyNames, PySem.W.kitOne K (.type n) (.type "bool") = some (is_bool (.ty n)) := by
  intro n hn
  simp only [tyNames, List.mem_cons, List.not_mem_nil, or_false] at hn
  rcases hn with rfl | rfl | rfl | rfl | rfl | rfl | rfl <;> kernel_rfl
theorem ty_int {K : PySem.W.Frag} : ∀ n ∈ tyNames, PySem.W.kitOne K (.type n) (.type "int") = some (is_int (.ty n)) := by
  intro n hn
  simp only [tyNames, List.mem_cons, List.not_mem_nil, or_false] at hn
  rcases hn with rfl | rfl | rfl | rfl | rfl | rfl | rfl <;> kernel_rfl
theorem ty_str {K : PySem.W.Frag} : ∀ n ∈ tyNames, PySem.W.kitOne K (.type n) (.type "str") = some (is_str (.ty n)) := by
  intro n hn
  simp only [tyNames, List.mem_cons, List.not_mem_nil, or_false] at hn
  rcases hn with rfl | rfl | rfl | rfl | rfl | rfl | rfl <;> kernel_rfl
theorem ty_tuple {K : PySem.W.Frag} : ∀ n ∈ tyNames, PySem.W.kitOne K (.type n) (.type "tuple") = some (is_tuple (.ty n)) := by
  intro n hn
  simp only [tyNames, List.mem_cons, List.not_mem_nil, or_false] at hn
  rcases hn with rfl | rfl | rfl | rfl | rfl | rfl | rfl <;> kernel_rfl
theorem all_mk {l : PySem.W.OpenLaw} {w : World} {K : PySem.W.Frag} {h : Heap} {mg : Str → Option Value} {fa fL CB C0 C1 C2 CR : Addr} (X : K.In h) (G : h.Ns mainGlobals mg) (hfa : mg "law" = some (.ref fa))
    {odL anL : Option Addr} {slL : Array (Option Value)} {ocL kVL dcL pmL cdL ctL : Value} {t_LETTERS t_MOST_LOTS t_MOST_OUTCOMES t_MOST_ROOMS : Tok}
    (a_CB : PySem.W.nsIn K mainGlobals "Book" = some (some (.ref CB)))
    (pg_CB : PySem.W.plainGet K CB Str.empty = true)
    (hd_CB : PySem.W.hasDictIn K CB = true)
    (po_CB : PySem.W.plainOver K CB = true)
    (sa_CB : PySem.W.findIn K (.ref CB) "__setattr__" = some (some (.builtin "object.__setattr__")))
    (mk_CB : PySem.W.makesIn K CB = true)
    (kp_CB : PySem.W.keepIn K (.ref CB) = true)
    (ty_CB : PySem.W.typeIn K (.ref CB) = some (.type "type"))
    (cc_CB : PySem.W.findIn K (.ref CB) "__class__" = some (some (.builtin "object.__class__")))
    (mo_CB : PySem.W.mroIn K CB (.type "object") = some true)
    (so_CB : PySem.W.subIn K (.ref CB) (.type "object") = some true)
    (na_CB__homes : PySem.W.findIn K (.ref CB) "_homes" = some none)
    (na_CB_rooms : PySem.W.findIn K (.ref CB) "rooms" = some none)
    {nm_C0 q_C0 : Str} {N_C0 : Addr} {bs_C0 : List Value} {sn_C0 : List Str} {sub_C0 : List Value} {ab_C0 : Bool} {col_C0 : Option Bool} {dd_C0 : Option Addr} {m0_C0 m1_C0 m2_C0 m3_C0 m5_C0 : Option Value}
    (a_C0 : PySem.W.nsIn K mainGlobals "InvalidBook" = some (some (.ref C0)))
    (x_C0 : K.lookup C0 = some (excClassObj nm_C0 q_C0 C0 N_C0 bs_C0 [.ref CR, .type "ValueError", .type "Exception", .type "BaseException", .type "object"] true sn_C0 sub_C0 ab_C0 col_C0 dd_C0 m0_C0 m1_C0 m2_C0 m3_C0 m5_C0 "ValueError.__new__"))
    (sa_C0 : PySem.W.findIn K (.ref C0) "__setattr__" = some (some (.builtin "object.__setattr__")))
    (no_C0 : PySem.W.findIn K (.ref C0) "at" = some none)
    (eC_C0 : PySem.W.subIn K (.ref C0) (.type "BaseException") = some true)
    (ty_C0 : PySem.W.typeIn K (.ref C0) = some (.type "type"))
    (kp_C0 : PySem.W.keepIn K (.ref C0) = true)
    (ga_C0 : PySem.W.findIn K (.ref C0) "__getattribute__" = some (some (.builtin "BaseException.__getattribute__")))
    (gg_C0 : PySem.W.findIn K (.ref C0) "__getattr__" = some none)
    (hd_C0 : PySem.W.hasDictIn K C0 = true)
    (cc_C0 : PySem.W.findIn K (.ref C0) "__class__" = some (some (.builtin "object.__class__")))
    (mo_C0 : PySem.W.mroIn K C0 (.type "object") = some true)
    {nm_C1 q_C1 : Str} {N_C1 : Addr} {bs_C1 : List Value} {sn_C1 : List Str} {sub_C1 : List Value} {ab_C1 : Bool} {col_C1 : Option Bool} {dd_C1 : Option Addr} {m0_C1 m1_C1 m2_C1 m3_C1 m5_C1 : Option Value}
    (a_C1 : PySem.W.nsIn K mainGlobals "InvalidNumber" = some (some (.ref C1)))
    (x_C1 : K.lookup C1 = some (excClassObj nm_C1 q_C1 C1 N_C1 bs_C1 [.ref CR, .type "ValueError", .type "Exception", .type "BaseException", .type "object"] true sn_C1 sub_C1 ab_C1 col_C1 dd_C1 m0_C1 m1_C1 m2_C1 m3_C1 m5_C1 "ValueError.__new__"))
    (sa_C1 : PySem.W.findIn K (.ref C1) "__setattr__" = some (some (.builtin "object.__setattr__")))
    (no_C1 : PySem.W.findIn K (.ref C1) "word" = some none)
    (eC_C1 : PySem.W.subIn K (.ref C1) (.type "BaseException") = some true)
    (ty_C1 : PySem.W.typeIn K (.ref C1) = some (.type "type"))
    (kp_C1 : PySem.W.keepIn K (.ref C1) = true)
    (ga_C1 : PySem.W.findIn K (.ref C1) "__getattribute__" = some (some (.builtin "BaseException.__getattribute__")))
    (gg_C1 : PySem.W.findIn K (.ref C1) "__getattr__" = some none)
    (hd_C1 : PySem.W.hasDictIn K C1 = true)
    (cc_C1 : PySem.W.findIn K (.ref C1) "__class__" = some (some (.builtin "object.__class__")))
    (mo_C1 : PySem.W.mroIn K C1 (.type "object") = some true)
    {nm_C2 q_C2 : Str} {N_C2 : Addr} {bs_C2 : List Value} {sn_C2 : List Str} {sub_C2 : List Value} {ab_C2 : Bool} {col_C2 : Option Bool} {dd_C2 : Option Addr} {m0_C2 m1_C2 m2_C2 m3_C2 m5_C2 : Option Value}
    (a_C2 : PySem.W.nsIn K mainGlobals "Refused" = some (some (.ref C2)))
    (x_C2 : K.lookup C2 = some (excClassObj nm_C2 q_C2 C2 N_C2 bs_C2 [.ref CR, .type "ValueError", .type "Exception", .type "BaseException", .type "object"] true sn_C2 sub_C2 ab_C2 col_C2 dd_C2 m0_C2 m1_C2 m2_C2 m3_C2 m5_C2 "ValueError.__new__"))
    (sa_C2 : PySem.W.findIn K (.ref C2) "__setattr__" = some (some (.builtin "object.__setattr__")))
    (no_C2 : PySem.W.findIn K (.ref C2) "word" = some none)
    (eC_C2 : PySem.W.subIn K (.ref C2) (.type "BaseException") = some true)
    (ty_C2 : PySem.W.typeIn K (.ref C2) = some (.type "type"))
    (kp_C2 : PySem.W.keepIn K (.ref C2) = true)
    (ga_C2 : PySem.W.findIn K (.ref C2) "__getattribute__" = some (some (.builtin "BaseException.__getattribute__")))
    (gg_C2 : PySem.W.findIn K (.ref C2) "__getattr__" = some none)
    (hd_C2 : PySem.W.hasDictIn K C2 = true)
    (cc_C2 : PySem.W.findIn K (.ref C2) "__class__" = some (some (.builtin "object.__class__")))
    (mo_C2 : PySem.W.mroIn K C2 (.type "object") = some true)
    (a_CR : PySem.W.nsIn K mainGlobals "RoomError" = some (some (.ref CR)))
    (hd_CR : PySem.W.hasDictIn K CR = true)
    (ty_CR : PySem.W.typeIn K (.ref CR) = some (.type "type"))
    (s_C0_C0 : PySem.W.subIn K (.ref C0) (.ref C0) = some true)
    (s_C0_C1 : PySem.W.subIn K (.ref C0) (.ref C1) = some false)
    (s_C0_C2 : PySem.W.subIn K (.ref C0) (.ref C2) = some false)
    (s_C1_C0 : PySem.W.subIn K (.ref C1) (.ref C0) = some false)
    (s_C1_C1 : PySem.W.subIn K (.ref C1) (.ref C1) = some true)
    (s_C1_C2 : PySem.W.subIn K (.ref C1) (.ref C2) = some false)
    (s_C2_C0 : PySem.W.subIn K (.ref C2) (.ref C0) = some false)
    (s_C2_C1 : PySem.W.subIn K (.ref C2) (.ref C1) = some false)
    (s_C2_C2 : PySem.W.subIn K (.ref C2) (.ref C2) = some true)
    (s_C0_CR : PySem.W.subIn K (.ref C0) (.ref CR) = some true)
    (s_C1_CR : PySem.W.subIn K (.ref C1) (.ref CR) = some true)
    (s_C2_CR : PySem.W.subIn K (.ref C2) (.ref CR) = some true)
    (s_CR_BaseException : PySem.W.subIn K (.ref CR) (.type "BaseException") = some true)
    (s_CB_bool : PySem.W.subIn K (.ref CB) (.type "bool") = some false)
    (s_CB_int : PySem.W.subIn K (.ref CB) (.type "int") = some false)
    (s_CB_str : PySem.W.subIn K (.ref CB) (.type "str") = some false)
    (s_CB_tuple : PySem.W.subIn K (.ref CB) (.type "tuple") = some false)
    (sp : PySem.W.specialIn K (.builtin "object.__class__") "__get__" = some (some (.builtin "getset_descriptor.__get__")))
    (ti : PySem.W.takesIn K (.builtin "object.__class__") = some true)
    (v_LETTERS : PySem.W.nsIn K mainGlobals "LETTERS" = some (some (.str "abcdefghijklmnopqrstuvwxyz" t_LETTERS)))
    (v_MOST_LOTS : PySem.W.nsIn K mainGlobals "MOST_LOTS" = some (some (.int 1000 t_MOST_LOTS)))
    (v_MOST_OUTCOMES : PySem.W.nsIn K mainGlobals "MOST_OUTCOMES" = some (some (.int 24 t_MOST_OUTCOMES)))
    (v_MOST_ROOMS : PySem.W.nsIn K mainGlobals "MOST_ROOMS" = some (some (.int 10 t_MOST_ROOMS)))
    (z_abs : PySem.W.nsIn K mainGlobals "abs" = some none)
    (z_all : PySem.W.nsIn K mainGlobals "all" = some none)
    (z_any : PySem.W.nsIn K mainGlobals "any" = some none)
    (z_bool : PySem.W.nsIn K mainGlobals "bool" = some none)
    (z_enumerate : PySem.W.nsIn K mainGlobals "enumerate" = some none)
    (z_int : PySem.W.nsIn K mainGlobals "int" = some none)
    (z_isinstance : PySem.W.nsIn K mainGlobals "isinstance" = some none)
    (z_len : PySem.W.nsIn K mainGlobals "len" = some none)
    (z_ord : PySem.W.nsIn K mainGlobals "ord" = some none)
    (z_range : PySem.W.nsIn K mainGlobals "range" = some none)
    (z_sorted : PySem.W.nsIn K mainGlobals "sorted" = some none)
    (z_str : PySem.W.nsIn K mainGlobals "str" = some none)
    (z_tuple : PySem.W.nsIn K mainGlobals "tuple" = some none)
    (aL : PySem.W.nsIn K mainGlobals "law" = some (some (.ref fL)))
    (lL : K.lookup fL = some ⟨ocL, odL, .func (PySem.W.fnOf "law" "law" (defArgs sLaw) (defBody sLaw) (defScope sLaw) .none kVL dcL pmL anL cdL ctL), slL⟩)
    (cL : PySem.W.codeIn K cdL "law" = true)
    (kL : PySem.W.keepIn K (.ref fL) = true)
    (d0 : Df K mg "_law_heap" s__law_heap)
    (d1 : Df K mg "_law_draw" s__law_draw)
    (d2 : Df K mg "is_integer" s_is_integer)
    (d3 : Df K mg "is_number_within" s_is_number_within)
    (d4 : Df K mg "is_name" s_is_name)
    (d5 : Df K mg "is_ascending" s_is_ascending)
    (d6 : Df K mg "_is_room" s__is_room)
    (d7 : Df K mg "_common" s__common)
    (d8 : Df K mg "_crosses_twice" s__crosses_twice)
    (d9 : Df K mg "_homes_of" s__homes_of)
    (d10 : Df K mg "_beside" s__beside)
    (d11 : Df K mg "rivals" s_rivals)
    (d12 : Df K mg "_may_end" s__may_end)
    (d13 : Df K mg "longer_lots" s_longer_lots)
    (d14 : Df K mg "lots_without" s_lots_without)
    (d15 : Df K mg "apart_lots" s_apart_lots)
    (d16 : Df K mg "_law_pick" s__law_pick)
    (d17 : Df K mg "_law_names" s__law_names)
    (d18 : Df K mg "_law_apart" s__law_apart)
    (d19 : Df K mg "_law_rooms" s__law_rooms)
    (d20 : Df K mg "_law_known" s__law_known)
    (d21 : Df K mg "_law_told" s__law_told)
    (d22 : Df K mg "_law_lots" s__law_lots)
    (d23 : Df K mg "_law_bounds" s__law_bounds)
    (d24 : Df K mg "_law_later" s__law_later)
    (d25 : Df K mg "_law_edge" s__law_edge)
    (m0 : Dm K CB "__init__" "Book.__init__" s_Book___init__)
    (m1 : Dm K CB "rooms_of" "Book.rooms_of" s_Book_rooms_of)
    (m2 : Dm K CB "outcomes" "Book.outcomes" s_Book_outcomes)
    (m3 : Dm K C0 "__init__" "InvalidBook.__init__" sIni0)
    (m4 : Dm K C1 "__init__" "InvalidNumber.__init__" sIni1)
    (m5 : Dm K C2 "__init__" "Refused.__init__" sIni2) :
    ∃ fd : FuncData, (∀ (s : Shared) (v : Value), BindsTo s fd ⟨[v], []⟩ [("script", v)]) ∧ ∀ base : Heap, K.In base → base.Ns mainGlobals mg → FnOk l.prog w K mg base CX0 8 fa fd ["script"] (spLaw K) := by
  have e := hfa.symm.trans (PySem.W.mg_of X G aL)
  cases e
  have cl_CB : Cls K CB := ⟨pg_CB, hd_CB, po_CB, sa_CB⟩
  have tyB_CB : ∀ {H : Hp} {a dx : Addr} {fs : List (Str × V)}, H a = some (.ins CB dx fs) → TyX K H (.ref a) (.ref CB) := fun e => .base (.ins e cl_CB cc_CB sp ti mo_CB)
  have g_LETTERS := PySem.W.mg_of X G v_LETTERS
  have g_MOST_LOTS := PySem.W.mg_of X G v_MOST_LOTS
  have g_MOST_OUTCOMES := PySem.W.mg_of X G v_MOST_OUTCOMES
  have g_MOST_ROOMS := PySem.W.mg_of X G v_MOST_ROOMS
  have b_abs := PySem.W.mg_none_of X G z_abs
  have b_all := PySem.W.mg_none_of X G z_all
  have b_any := PySem.W.mg_none_of X G z_any
  have b_bool := PySem.W.mg_none_of X G z_bool
  have b_enumerate := PySem.W.mg_none_of X G z_enumerate
  have b_int := PySem.W.mg_none_of X G z_int
  have b_isinstance := PySem.W.mg_none_of X G z_isinstance
  have b_len := PySem.W.mg_none_of X G z_len
  have b_ord := PySem.W.mg_none_of X G z_ord
  have b_range := PySem.W.mg_none_of X G z_range
  have b_sorted := PySem.W.mg_none_of X G z_sorted
  have b_str := PySem.W.mg_none_of X G z_str
  have b_tuple := PySem.W.mg_none_of X G z_tuple
  have FL := fun_mk (st := sLaw) lL cL kL
  obtain ⟨f0, fd0, F0, g0⟩ := d0.ex
  have b0 := F0.binds (ps := ["script"]) fun _ _ _ _ _ _ us hl => match us, hl with | [_], _ => rfl
  obtain ⟨f1, fd1, F1, g1⟩ := d1.ex
  have b1 := F1.binds (ps := ["heap", "many"]) fun _ _ _ _ _ _ us hl => match us, hl with | [_, _], _ => rfl
  obtain ⟨f2, fd2, F2, g2⟩ := d2.ex
  have b2 := F2.binds (ps := ["value"]) fun _ _ _ _ _ _ us hl => match us, hl with | [_], _ => rfl
  obtain ⟨f3, fd3, F3, g3⟩ := d3.ex
  have b3 := F3.binds (ps := ["value", "low", "high"]) fun _ _ _ _ _ _ us hl => match us, hl with | [_, _, _], _ => rfl
  obtain ⟨f4, fd4, F4, g4⟩ := d4.ex
  have b4 := F4.binds (ps := ["value"]) fun _ _ _ _ _ _ us hl => match us, hl with | [_], _ => rfl
  obtain ⟨f5, fd5, F5, g5⟩ := d5.ex
  have b5 := F5.binds (ps := ["values"]) fun _ _ _ _ _ _ us hl => match us, hl with | [_], _ => rfl
  obtain ⟨f6, fd6, F6, g6⟩ := d6.ex
  have b6 := F6.binds (ps := ["value"]) fun _ _ _ _ _ _ us hl => match us, hl with | [_], _ => rfl
  obtain ⟨f7, fd7, F7, g7⟩ := d7.ex
  have b7 := F7.binds (ps := ["room", "other"]) fun _ _ _ _ _ _ us hl => match us, hl with | [_, _], _ => rfl
  obtain ⟨f8, fd8, F8, g8⟩ := d8.ex
  have b8 := F8.binds (ps := ["room", "earlier"]) fun _ _ _ _ _ _ us hl => match us, hl with | [_, _], _ => rfl
  obtain ⟨f9, fd9, F9, g9⟩ := d9.ex
  have b9 := F9.binds (ps := ["rooms"]) fun _ _ _ _ _ _ us hl => match us, hl with | [_], _ => rfl
  obtain ⟨f10, fd10, F10, g10⟩ := d10.ex
  have b10 := F10.binds (ps := ["book", "outcome"]) fun _ _ _ _ _ _ us hl => match us, hl with | [_, _], _ => rfl
  obtain ⟨f11, fd11, F11, g11⟩ := d11.ex
  have b11 := F11.binds (ps := ["book"]) fun _ _ _ _ _ _ us hl => match us, hl with | [_], _ => rfl
  obtain ⟨f12, fd12, F12, g12⟩ := d12.ex
  have b12 := F12.binds (ps := ["lot", "name", "clashes"]) fun _ _ _ _ _ _ us hl => match us, hl with | [_, _, _], _ => rfl
  obtain ⟨f13, fd13, F13, g13⟩ := d13.ex
  have b13 := F13.binds (ps := ["lots", "names", "clashes"]) fun _ _ _ _ _ _ us hl => match us, hl with | [_, _, _], _ => rfl
  obtain ⟨f14, fd14, F14, g14⟩ := d14.ex
  have b14 := F14.binds (ps := ["names", "clashes", "size"]) fun _ _ _ _ _ _ us hl => match us, hl with | [_, _, _], _ => rfl
  obtain ⟨f15, fd15, F15, g15⟩ := d15.ex
  have b15 := F15.binds (ps := ["book", "size"]) fun _ _ _ _ _ _ us hl => match us, hl with | [_, _], _ => rfl
  obtain ⟨f16, fd16, F16, g16⟩ := d16.ex
  have b16 := F16.binds (ps := ["heap", "some"]) fun _ _ _ _ _ _ us hl => match us, hl with | [_, _], _ => rfl
  obtain ⟨f17, fd17, F17, g17⟩ := d17.ex
  have b17 := F17.binds (ps := ["heap", "many"]) fun _ _ _ _ _ _ us hl => match us, hl with | [_, _], _ => rfl
  obtain ⟨f18, fd18, F18, g18⟩ := d18.ex
  have b18 := F18.binds (ps := ["rooms", "taken", "one"]) fun _ _ _ _ _ _ us hl => match us, hl with | [_, _, _], _ => rfl
  obtain ⟨f19, fd19, F19, g19⟩ := d19.ex
  have b19 := F19.binds (ps := ["heap", "names", "many", "most"]) fun _ _ _ _ _ _ us hl => match us, hl with | [_, _, _, _], _ => rfl
  obtain ⟨f20, fd20, F20, g20⟩ := d20.ex
  have b20 := F20.binds (ps := ["rooms"]) fun _ _ _ _ _ _ us hl => match us, hl with | [_], _ => rfl
  obtain ⟨f21, fd21, F21, g21⟩ := d21.ex
  have b21 := F21.binds (ps := ["book", "size"]) fun _ _ _ _ _ _ us hl => match us, hl with | [_, _], _ => rfl
  obtain ⟨f22, fd22, F22, g22⟩ := d22.ex
  have b22 := F22.binds (ps := ["rooms", "many"]) fun _ _ _ _ _ _ us hl => match us, hl with | [_, _], _ => rfl
  obtain ⟨f23, fd23, F23, g23⟩ := d23.ex
  have b23 := F23.binds (ps := ["names", "many"]) fun _ _ _ _ _ _ us hl => match us, hl with | [_, _], _ => rfl
  obtain ⟨f24, fd24, F24, g24⟩ := d24.ex
  have b24 := F24.binds (ps := ["names"]) fun _ _ _ _ _ _ us hl => match us, hl with | [_], _ => rfl
  obtain ⟨f25, fd25, F25, g25⟩ := d25.ex
  have b25 := F25.binds (ps := ["names"]) fun _ _ _ _ _ _ us hl => match us, hl with | [_], _ => rfl
  obtain ⟨mf0, mfd0, M0, h0⟩ := m0.ex
  have mb0 := M0.binds (ps := ["self", "rooms"]) fun _ _ _ _ _ _ us hl => match us, hl with | [_, _], _ => rfl
  obtain ⟨mf1, mfd1, M1, h1⟩ := m1.ex
  have mb1 := M1.binds (ps := ["self", "outcome"]) fun _ _ _ _ _ _ us hl => match us, hl with | [_, _], _ => rfl
  obtain ⟨mf2, mfd2, M2, h2⟩ := m2.ex
  have mb2 := M2.binds (ps := ["self"]) fun _ _ _ _ _ _ us hl => match us, hl with | [_], _ => rfl
  obtain ⟨mf3, mfd3, M3, h3⟩ := m3.ex
  have mb3 := M3.binds (ps := ["self", "at"]) fun _ _ _ _ _ _ us hl => match us, hl with | [_, _], _ => rfl
  obtain ⟨mf4, mfd4, M4, h4⟩ := m4.ex
  have mb4 := M4.binds (ps := ["self", "word"]) fun _ _ _ _ _ _ us hl => match us, hl with | [_, _], _ => rfl
  obtain ⟨mf5, mfd5, M5, h5⟩ := m5.ex
  have mb5 := M5.binds (ps := ["self", "word"]) fun _ _ _ _ _ _ us hl => match us, hl with | [_, _], _ => rfl
  have xf_C0 : XfC K C0 := ⟨ga_C0, gg_C0, eC_C0, hd_C0⟩
  have exc_C0 : ExcC K C0 := ⟨ga_C0, gg_C0, eC_C0, hd_C0, cc_C0, sp, ti, mo_C0⟩
  have err_C0 : ErrC K mg "InvalidBook" "at" C0 mf3 := ⟨PySem.W.mg_of X G a_C0, ⟨⟨_, _, _, _, _, _, _, _, _, _, _, _, _, _, _, x_C0, rfl⟩, sa_C0, eC_C0, ty_C0, kp_C0⟩, xf_C0, exc_C0, no_C0, h3.at_, beq_iff_eq.mp h3.fn⟩
  have xf_C1 : XfC K C1 := ⟨ga_C1, gg_C1, eC_C1, hd_C1⟩
  have exc_C1 : ExcC K C1 := ⟨ga_C1, gg_C1, eC_C1, hd_C1, cc_C1, sp, ti, mo_C1⟩
  have err_C1 : ErrC K mg "InvalidNumber" "word" C1 mf4 := ⟨PySem.W.mg_of X G a_C1, ⟨⟨_, _, _, _, _, _, _, _, _, _, _, _, _, _, _, x_C1, rfl⟩, sa_C1, eC_C1, ty_C1, kp_C1⟩, xf_C1, exc_C1, no_C1, h4.at_, beq_iff_eq.mp h4.fn⟩
  have xf_C2 : XfC K C2 := ⟨ga_C2, gg_C2, eC_C2, hd_C2⟩
  have exc_C2 : ExcC K C2 := ⟨ga_C2, gg_C2, eC_C2, hd_C2, cc_C2, sp, ti, mo_C2⟩
  have err_C2 : ErrC K mg "Refused" "word" C2 mf5 := ⟨PySem.W.mg_of X G a_C2, ⟨⟨_, _, _, _, _, _, _, _, _, _, _, _, _, _, _, x_C2, rfl⟩, sa_C2, eC_C2, ty_C2, kp_C2⟩, xf_C2, exc_C2, no_C2, h5.at_, beq_iff_eq.mp h5.fn⟩
  refine ⟨PySem.W.fnOf "law" "law" (defArgs sLaw) (defBody sLaw) (defScope sLaw) .none kVL dcL pmL anL cdL ctL, fun s v => .of_eq rfl, fun base _ _ => ?_⟩
  obtain ⟨AD, q0, q1, q2, q3, q4, q5, q6, q7⟩ : ∃ AD : String → Addr, CB = AD "Book" ∧ C0 = AD "InvalidBook" ∧ C1 = AD "InvalidNumber" ∧ C2 = AD "Refused" ∧ CR = AD "RoomError" ∧ mf3 = AD "InvalidBook.__init__" ∧ mf4 = AD "InvalidNumber.__init__" ∧ mf5 = AD "Refused.__init__" := ⟨fun s => if s = "Book" then CB else if s = "InvalidBook" then C0 else if s = "InvalidNumber" then C1 else if s = "Refused" then C2 else if s = "RoomError" then CR else if s = "InvalidBook.__init__" then mf3 else if s = "InvalidNumber.__init__" then mf4 else if s = "Refused.__init__" then mf5 else CR, by simp, by simp, by simp, by simp, by simp, by simp, by simp, by simp⟩
  subst q0 q1 q2 q3 q4 q5 q6 q7
  have cnc : ∀ c C, (knOf K [(("Book" : Str), AD "Book")] [(("InvalidBook" : Str), AD "InvalidBook"), (("InvalidNumber" : Str), AD "InvalidNumber"), (("Refused" : Str), AD "Refused")]).cn c = some C → (c = "Book" ∧ C = AD "Book") := fun c C h => by
    have h := en_in h
    simpa only [List.mem_cons, List.not_mem_nil, or_false, Prod.mk.injEq] using h
  have enc : ∀ c C, (knOf K [(("Book" : Str), AD "Book")] [(("InvalidBook" : Str), AD "InvalidBook"), (("InvalidNumber" : Str), AD "InvalidNumber"), (("Refused" : Str), AD "Refused")]).en c = some C → (c = "InvalidBook" ∧ C = AD "InvalidBook") ∨ (c = "InvalidNumber" ∧ C = AD "InvalidNumber") ∨ (c = "Refused" ∧ C = AD "Refused") := fun c C h => by
    have h := en_in h
    simpa only [List.mem_cons, List.not_mem_nil, or_false, Prod.mk.injEq] using h
  have T : Tf (knOf K [(("Book" : Str), AD "Book")] [(("InvalidBook" : Str), AD "InvalidBook"), (("InvalidNumber" : Str), AD "InvalidNumber"), (("Refused" : Str), AD "Refused")]) mg AD := {
    f__homes := ⟨fun c hc C h => by
      rcases cnc c C h with ⟨rfl, rfl⟩
      · exact ⟨cl_CB, na_CB__homes⟩
⟩
    f_rooms := ⟨fun c hc C h => by
      rcases cnc c C h with ⟨rfl, rfl⟩
      · exact ⟨cl_CB, na_CB_rooms⟩
⟩
    g_LETTERS := ⟨_, g_LETTERS, ⟨_, rfl⟩⟩
    g_MOST_LOTS := ⟨_, g_MOST_LOTS, ⟨_, rfl⟩⟩
    g_MOST_OUTCOMES := ⟨_, g_MOST_OUTCOMES, ⟨_, rfl⟩⟩
    g_MOST_ROOMS := ⟨_, g_MOST_ROOMS, ⟨_, rfl⟩⟩
    is_bool := ⟨ty_bool, fun c C h => by
      rcases cnc c C h with ⟨rfl, rfl⟩
      · exact kit_typ (by decide +kernel) s_CB_bool
⟩
    is_int := ⟨ty_int, fun c C h => by
      rcases cnc c C h with ⟨rfl, rfl⟩
      · exact kit_typ (by decide +kernel) s_CB_int
⟩
    is_str := ⟨ty_str, fun c C h => by
      rcases cnc c C h with ⟨rfl, rfl⟩
      · exact kit_typ (by decide +kernel) s_CB_str
⟩
    is_tuple := ⟨ty_tuple, fun c C h => by
      rcases cnc c C h with ⟨rfl, rfl⟩
      · exact kit_typ (by decide +kernel) s_CB_tuple
⟩
    e_InvalidBook := err_C0
    n_InvalidBook := by with_unfolding_all rfl
    d_InvalidBook := by with_unfolding_all rfl
    e_InvalidNumber := err_C1
    n_InvalidNumber := by with_unfolding_all rfl
    d_InvalidNumber := by with_unfolding_all rfl
    e_Refused := err_C2
    n_Refused := by with_unfolding_all rfl
    d_Refused := by with_unfolding_all rfl
    x_InvalidNumber := PySem.W.mg_of X G a_C1
    h_InvalidNumber := fun c C h => by
      rcases enc c C h with ⟨rfl, rfl⟩ | ⟨rfl, rfl⟩ | ⟨rfl, rfl⟩
      · (rw [show sel_InvalidNumber "InvalidBook" = false by decide]; exact PySem.W.exm_ref eC_C1 hd_C1 ty_C1 s_C0_C1)
      · (rw [show sel_InvalidNumber "InvalidNumber" = true by decide]; exact PySem.W.exm_ref eC_C1 hd_C1 ty_C1 s_C1_C1)
      · (rw [show sel_InvalidNumber "Refused" = false by decide]; exact PySem.W.exm_ref eC_C1 hd_C1 ty_C1 s_C2_C1)

    x_Refused := PySem.W.mg_of X G a_C2
    h_Refused := fun c C h => by
      rcases enc c C h with ⟨rfl, rfl⟩ | ⟨rfl, rfl⟩ | ⟨rfl, rfl⟩
      · (rw [show sel_Refused "InvalidBook" = false by decide]; exact PySem.W.exm_ref eC_C2 hd_C2 ty_C2 s_C0_C2)
      · (rw [show sel_Refused "InvalidNumber" = false by decide]; exact PySem.W.exm_ref eC_C2 hd_C2 ty_C2 s_C1_C2)
      · (rw [show sel_Refused "Refused" = true by decide]; exact PySem.W.exm_ref eC_C2 hd_C2 ty_C2 s_C2_C2)

    x_RoomError := PySem.W.mg_of X G a_CR
    h_RoomError := fun c C h => by
      rcases enc c C h with ⟨rfl, rfl⟩ | ⟨rfl, rfl⟩ | ⟨rfl, rfl⟩
      · (rw [show sel_RoomError "InvalidBook" = true by decide]; exact PySem.W.exm_ref s_CR_BaseException hd_CR ty_CR s_C0_CR)
      · (rw [show sel_RoomError "InvalidNumber" = true by decide]; exact PySem.W.exm_ref s_CR_BaseException hd_CR ty_CR s_C1_CR)
      · (rw [show sel_RoomError "Refused" = true by decide]; exact PySem.W.exm_ref s_CR_BaseException hd_CR ty_CR s_C2_CR)

    m_abs := b_abs
    m_all := b_all
    m_any := b_any
    m_bool := b_bool
    m_enumerate := b_enumerate
    m_int := b_int
    m_isinstance := b_isinstance
    m_len := b_len
    m_ord := b_ord
    m_range := b_range
    m_sorted := b_sorted
    m_str := b_str
    m_tuple := b_tuple
    cl_Book := cl_CB
    hc_Book := by with_unfolding_all rfl
    ins := ⟨fun c C h => by
      rcases cnc c C h with ⟨rfl, rfl⟩
      · exact ⟨cl_CB, cc_CB, mo_CB⟩
, sp, ti⟩
    fd := rfl
    er := ⟨fun c C n h hf => by
      rcases enc c C h with ⟨rfl, rfl⟩ | ⟨rfl, rfl⟩ | ⟨rfl, rfl⟩
      · (have hf : fdOf "InvalidBook" = some n := hf; rw [show fdOf "InvalidBook" = some "at" by decide] at hf; cases hf; exact ⟨xf_C0, exc_C0, no_C0⟩)
      · (have hf : fdOf "InvalidNumber" = some n := hf; rw [show fdOf "InvalidNumber" = some "word" by decide] at hf; cases hf; exact ⟨xf_C1, exc_C1, no_C1⟩)
      · (have hf : fdOf "Refused" = some n := hf; rw [show fdOf "Refused" = some "word" by decide] at hf; cases hf; exact ⟨xf_C2, exc_C2, no_C2⟩)
⟩ }
  have c__law_heap := Cl.of F0 g0 (ok__law_heap (P := l.prog) (w := w) (base := base) F0 T) b0
  have c__law_draw := Cl.of F1 g1 (ok__law_draw (P := l.prog) (w := w) (base := base) F1 T) b1
  have c_is_integer := Cl.of F2 g2 (ok_is_integer (P := l.prog) (w := w) (base := base) F2 T ) b2
  have c_is_number_within := Cl.of F3 g3 (ok_is_number_within (P := l.prog) (w := w) (base := base) F3 T c_is_integer) b3
  have c_is_name := Cl.of F4 g4 (ok_is_name (P := l.prog) (w := w) (base := base) F4 T ) b4
  have c_is_ascending := Cl.of F5 g5 (ok_is_ascending (P := l.prog) (w := w) (base := base) F5 T ) b5
  have c__is_room := Cl.of F6 g6 (ok__is_room (P := l.prog) (w := w) (base := base) F6 T c_is_ascending c_is_name) b6
  have c__common := Cl.of F7 g7 (ok__common (P := l.prog) (w := w) (base := base) F7 T ) b7
  have c__crosses_twice := Cl.of F8 g8 (ok__crosses_twice (P := l.prog) (w := w) (base := base) F8 T c__common) b8
  have c__homes_of := Cl.of F9 g9 (ok__homes_of (P := l.prog) (w := w) (base := base) F9 T ) b9
  have c_Book : Cc l.prog w K mg base (L2.CX l.prog w) 3 "Book" (AD "Book") _ _ := ⟨_, _, ok_Book___init__ (P := l.prog) (w := w) (base := base) M0 T c__crosses_twice c__is_room c__homes_of (ok_ini0 (P := l.prog) (w := w) (base := base) M3) mb3, PySem.W.mg_of X G a_CB, ⟨mk_CB, h0.at_, h0.fn, kp_CB⟩, mb0⟩
  have c_Book_rooms_of : Cm l.prog w K mg base (L2.CX l.prog w) 1 (AD "Book") "rooms_of" _ _ := ⟨_, _, ok_Book_rooms_of (P := l.prog) (w := w) (base := base) M1 T , h1, mb1⟩
  have c_Book_outcomes : Cm l.prog w K mg base (L2.CX l.prog w) 1 (AD "Book") "outcomes" _ _ := ⟨_, _, ok_Book_outcomes (P := l.prog) (w := w) (base := base) M2 T , h2, mb2⟩
  have c__beside := Cl.of F10 g10 (ok__beside (P := l.prog) (w := w) (base := base) F10 T c_Book_rooms_of) b10
  have c_rivals := Cl.of F11 g11 (ok_rivals (P := l.prog) (w := w) (base := base) F11 T c_Book_outcomes c__beside) b11
  have c__may_end := Cl.of F12 g12 (ok__may_end (P := l.prog) (w := w) (base := base) F12 T ) b12
  have c_longer_lots := Cl.of F13 g13 (ok_longer_lots (P := l.prog) (w := w) (base := base) F13 T c__may_end) b13
  have c_lots_without := Cl.of F14 g14 (ok_lots_without (P := l.prog) (w := w) (base := base) F14 T c_longer_lots (ok_ini2 (P := l.prog) (w := w) (base := base) M5) mb5) b14
  have c_apart_lots := Cl.of F15 g15 (ok_apart_lots (P := l.prog) (w := w) (base := base) F15 T c_is_number_within c_rivals c_Book_outcomes c_lots_without (ok_ini1 (P := l.prog) (w := w) (base := base) M4) mb4) b15
  have c__law_pick := Cl.of F16 g16 (ok__law_pick (P := l.prog) (w := w) (base := base) F16 T c__law_draw) b16
  have c__law_names := Cl.of F17 g17 (ok__law_names (P := l.prog) (w := w) (base := base) F17 T c__law_draw c__law_pick) b17
  have c__law_apart := Cl.of F18 g18 (ok__law_apart (P := l.prog) (w := w) (base := base) F18 T ) b18
  have c__law_rooms := Cl.of F19 g19 (ok__law_rooms (P := l.prog) (w := w) (base := base) F19 T c__law_draw c__law_apart c__law_pick) b19
  have c__law_known := Cl.of F20 g20 (ok__law_known (P := l.prog) (w := w) (base := base) F20 T ) b20
  have k_apart_lots_book_size := Ck.of F15 g15 (ok_apart_lots (P := l.prog) (w := w) (base := base) F15 T c_is_number_within c_rivals c_Book_outcomes c_lots_without (ok_ini1 (P := l.prog) (w := w) (base := base) M4) mb4) (fun_kb (ks := ["book", "size"]) (g := kwP [0, 1]) (gV := kwP [0, 1]) F15 (kwP_rel [0, 1]) fun _ _ _ _ _ _ us ws hl => match us, ws, hl with | [], _ :: _ :: _, _ => rfl | [], [], hl => absurd hl (by simp [kwP]) | [], [_], hl => absurd hl (by simp [kwP]) | _ :: _, _, hl => absurd hl (by simp [kwP]))
  have c__law_told := Cl.of F21 g21 (ok__law_told (P := l.prog) (w := w) (base := base) F21 T k_apart_lots_book_size (fun _ => rfl)) b21
  have c__law_lots := Cl.of F22 g22 (ok__law_lots (P := l.prog) (w := w) (base := base) F22 T c__law_known c__law_apart) b22
  have c__law_bounds := Cl.of F23 g23 (ok__law_bounds (P := l.prog) (w := w) (base := base) F23 T c_Book c__law_told) b23
  have c__law_later := Cl.of F24 g24 (ok__law_later (P := l.prog) (w := w) (base := base) F24 T c_Book c__law_told) b24
  have c__law_edge := Cl.of F25 g25 (ok__law_edge (P := l.prog) (w := w) (base := base) F25 T c__law_lots c_Book c__law_told) b25
  exact ok_lawT (ok_law (P := l.prog) (w := w) (base := base) FL T c__law_heap c__law_names c__law_draw c__law_rooms c__law_bounds c__law_later c__law_edge c_Book c__law_lots c__law_told)
theorem walk {l : PySem.W.OpenLaw} {q : Program} {loose : List Str} {XP : (Str → Option Value) → Heap → Prop} {YP : World → Heap → Prop} {d : DefRec} {K : Params → PySem.W.Frag} (hn : l.most = some 63) (hdf : d.params.defaults = [])
    (hY : ∀ (w : World) (h : Heap), YP w h → (K w.params).In h)
    (F : ∀ (w : World) (mg : Str → Option Value) (fa : Addr) (h : Heap), (K w.params).In h → h.Ns mainGlobals mg → mg d.name = some (.ref fa) →
      ∃ fd : FuncData, (∀ (s : Shared) (u : Value), BindsTo s fd ⟨[u], []⟩ [("script", u)]) ∧ ∀ base : Heap, (K w.params).In base → base.Ns mainGlobals mg → FnOk l.prog w (K w.params) mg base CX0 8 fa fd ["script"] (spLaw (K w.params))) :
    PySem.W.WalkO q loose XP YP l.row.toRowW d [] (fun f vs => PySem.call f vs) :=
  L2.walk_of (n := 63) (k := 8) (x := "script") (CX := fun _ => CX0) (sp := fun w => spLaw (K w.params)) hn (by decide) hdf ⟨rfl, by decide, by decide⟩ hY F (fun _ _ a ns hl _ hS => ⟨a, ns, rfl, hS, hl, fun _ => rfl⟩) fun _ _ _ _ _ z => z
end Q06
open PySem PySem.W PyProof.Rows
set_option maxRecDepth 100000 in
set_option maxHeartbeats 0 in
theorem PySem.Challenge.cw_roomlooks_k06_lots_of_outcomes_apart_holds : PySem.Challenge.rw_roomlooks_k06_lots_of_outcomes_apart.Holds := by
  w_on; o_law; k_head; (case hw => w_witness2)
  k_fill
  refine Q06.walk (l := PySem.Challenge.rw_roomlooks_k06_lots_of_outcomes_apart) rfl rfl (fun w h Y => PySem.W.kIn_of Y) ?F
  case F =>
    intro w mg fa h KX G hmg
    refine' Q06.all_mk KX G hmg ?a_CB ?pg_CB ?hd_CB ?po_CB ?sa_CB ?mk_CB ?kp_CB ?ty_CB ?cc_CB ?mo_CB ?so_CB ?na_CB__homes ?na_CB_rooms ?a_C0 ?x_C0 ?sa_C0 ?no_C0 ?eC_C0 ?ty_C0 ?kp_C0 ?ga_C0 ?gg_C0 ?hd_C0 ?cc_C0 ?mo_C0 ?a_C1 ?x_C1 ?sa_C1 ?no_C1 ?eC_C1 ?ty_C1 ?kp_C1 ?ga_C1 ?gg_C1 ?hd_C1 ?cc_C1 ?mo_C1 ?a_C2 ?x_C2 ?sa_C2 ?no_C2 ?eC_C2 ?ty_C2 ?kp_C2 ?ga_C2 ?gg_C2 ?hd_C2 ?cc_C2 ?mo_C2 ?a_CR ?hd_CR ?ty_CR ?s_C0_C0 ?s_C0_C1 ?s_C0_C2 ?s_C1_C0 ?s_C1_C1 ?s_C1_C2 ?s_C2_C0 ?s_C2_C1 ?s_C2_C2 ?s_C0_CR ?s_C1_CR ?s_C2_CR ?s_CR_BaseException ?s_CB_bool ?s_CB_int ?s_CB_str ?s_CB_tuple ?sp ?ti ?v_LETTERS ?v_MOST_LOTS ?v_MOST_OUTCOMES ?v_MOST_ROOMS ?z_abs ?z_all ?z_any ?z_bool ?z_enumerate ?z_int ?z_isinstance ?z_len ?z_ord ?z_range ?z_sorted ?z_str ?z_tuple ?aL ?lL ?cL ?kL ?d0 ?d1 ?d2 ?d3 ?d4 ?d5 ?d6 ?d7 ?d8 ?d9 ?d10 ?d11 ?d12 ?d13 ?d14 ?d15 ?d16 ?d17 ?d18 ?d19 ?d20 ?d21 ?d22 ?d23 ?d24 ?d25 ?m0 ?m1 ?m2 ?m3 ?m4 ?m5
    case a_CB => first | k_is | rfl | k_exc | decide
    case pg_CB => first | k_is | rfl | k_exc | decide
    case hd_CB => first | k_is | rfl | k_exc | decide
    case po_CB => first | k_is | rfl | k_exc | decide
    case sa_CB => first | k_is | rfl | k_exc | decide
    case mk_CB => first | k_is | rfl | k_exc | decide
    case kp_CB => first | k_is | rfl | k_exc | decide
    case ty_CB => first | k_is | rfl | k_exc | decide
    case cc_CB => first | k_is | rfl | k_exc | decide
    case mo_CB => first | k_is | rfl | k_exc | decide
    case so_CB => first | k_is | rfl | k_exc | decide
    case na_CB__homes => first | k_is | rfl | k_exc | decide
    case na_CB_rooms => first | k_is | rfl | k_exc | decide
    case a_C0 => first | k_is | rfl | k_exc | decide
    case x_C0 => first | k_is | rfl | k_exc | decide
    case sa_C0 => first | k_is | rfl | k_exc | decide
    case no_C0 => first | k_is | rfl | k_exc | decide
    case eC_C0 => first | k_is | rfl | k_exc | decide
    case ty_C0 => first | k_is | rfl | k_exc | decide
    case kp_C0 => first | k_is | rfl | k_exc | decide
    case ga_C0 => first | k_is | rfl | k_exc | decide
    case gg_C0 => first | k_is | rfl | k_exc | decide
    case hd_C0 => first | k_is | rfl | k_exc | decide
    case cc_C0 => first | k_is | rfl | k_exc | decide
    case mo_C0 => first | k_is | rfl | k_exc | decide
    case a_C1 => first | k_is | rfl | k_exc | decide
    case x_C1 => first | k_is | rfl | k_exc | decide
    case sa_C1 => first | k_is | rfl | k_exc | decide
    case no_C1 => first | k_is | rfl | k_exc | decide
    case eC_C1 => first | k_is | rfl | k_exc | decide
    case ty_C1 => first | k_is | rfl | k_exc | decide
    case kp_C1 => first | k_is | rfl | k_exc | decide
    case ga_C1 => first | k_is | rfl | k_exc | decide
    case gg_C1 => first | k_is | rfl | k_exc | decide
    case hd_C1 => first | k_is | rfl | k_exc | decide
    case cc_C1 => first | k_is | rfl | k_exc | decide
    case mo_C1 => first | k_is | rfl | k_exc | decide
    case a_C2 => first | k_is | rfl | k_exc | decide
    case x_C2 => first | k_is | rfl | k_exc | decide
    case sa_C2 => first | k_is | rfl | k_exc | decide
    case no_C2 => first | k_is | rfl | k_exc | decide
    case eC_C2 => first | k_is | rfl | k_exc | decide
    case ty_C2 => first | k_is | rfl | k_exc | decide
    case kp_C2 => first | k_is | rfl | k_exc | decide
    case ga_C2 => first | k_is | rfl | k_exc | decide
    case gg_C2 => first | k_is | rfl | k_exc | decide
    case hd_C2 => first | k_is | rfl | k_exc | decide
    case cc_C2 => first | k_is | rfl | k_exc | decide
    case mo_C2 => first | k_is | rfl | k_exc | decide
    case a_CR => first | k_is | rfl | k_exc | decide
    case hd_CR => first | k_is | rfl | k_exc | decide
    case ty_CR => first | k_is | rfl | k_exc | decide
    case s_C0_C0 => first | k_is | rfl | k_exc | decide
    case s_C0_C1 => first | k_is | rfl | k_exc | decide
    case s_C0_C2 => first | k_is | rfl | k_exc | decide
    case s_C1_C0 => first | k_is | rfl | k_exc | decide
    case s_C1_C1 => first | k_is | rfl | k_exc | decide
    case s_C1_C2 => first | k_is | rfl | k_exc | decide
    case s_C2_C0 => first | k_is | rfl | k_exc | decide
    case s_C2_C1 => first | k_is | rfl | k_exc | decide
    case s_C2_C2 => first | k_is | rfl | k_exc | decide
    case s_C0_CR => first | k_is | rfl | k_exc | decide
    case s_C1_CR => first | k_is | rfl | k_exc | decide
    case s_C2_CR => first | k_is | rfl | k_exc | decide
    case s_CR_BaseException => first | k_is | rfl | k_exc | decide
    case s_CB_bool => first | k_is | rfl | k_exc | decide
    case s_CB_int => first | k_is | rfl | k_exc | decide
    case s_CB_str => first | k_is | rfl | k_exc | decide
    case s_CB_tuple => first | k_is | rfl | k_exc | decide
    case sp => first | k_is | rfl | k_exc | decide
    case ti => first | k_is | rfl | k_exc | decide
    case v_LETTERS => first | k_is | rfl | k_exc | decide
    case v_MOST_LOTS => first | k_is | rfl | k_exc | decide
    case v_MOST_OUTCOMES => first | k_is | rfl | k_exc | decide
    case v_MOST_ROOMS => first | k_is | rfl | k_exc | decide
    case z_abs => first | k_is | rfl | k_exc | decide
    case z_all => first | k_is | rfl | k_exc | decide
    case z_any => first | k_is | rfl | k_exc | decide
    case z_bool => first | k_is | rfl | k_exc | decide
    case z_enumerate => first | k_is | rfl | k_exc | decide
    case z_int => first | k_is | rfl | k_exc | decide
    case z_isinstance => first | k_is | rfl | k_exc | decide
    case z_len => first | k_is | rfl | k_exc | decide
    case z_ord => first | k_is | rfl | k_exc | decide
    case z_range => first | k_is | rfl | k_exc | decide
    case z_sorted => first | k_is | rfl | k_exc | decide
    case z_str => first | k_is | rfl | k_exc | decide
    case z_tuple => first | k_is | rfl | k_exc | decide
    case aL => first | k_is | rfl | k_exc | decide
    case lL => first | k_is | rfl | k_exc | decide
    case cL => first | k_is | rfl | k_exc | decide
    case kL => first | k_is | rfl | k_exc | decide
    case d0 => (refine' Q06.df_mk KX G ?a ?l ?c ?k; (case a => k_is); (case l => k_is); (case c => k_is); (case k => k_is))
    case d1 => (refine' Q06.df_mk KX G ?a ?l ?c ?k; (case a => k_is); (case l => k_is); (case c => k_is); (case k => k_is))
    case d2 => (refine' Q06.df_mk KX G ?a ?l ?c ?k; (case a => k_is); (case l => k_is); (case c => k_is); (case k => k_is))
    case d3 => (refine' Q06.df_mk KX G ?a ?l ?c ?k; (case a => k_is); (case l => k_is); (case c => k_is); (case k => k_is))
    case d4 => (refine' Q06.df_mk KX G ?a ?l ?c ?k; (case a => k_is); (case l => k_is); (case c => k_is); (case k => k_is))
    case d5 => (refine' Q06.df_mk KX G ?a ?l ?c ?k; (case a => k_is); (case l => k_is); (case c => k_is); (case k => k_is))
    case d6 => (refine' Q06.df_mk KX G ?a ?l ?c ?k; (case a => k_is); (case l => k_is); (case c => k_is); (case k => k_is))
    case d7 => (refine' Q06.df_mk KX G ?a ?l ?c ?k; (case a => k_is); (case l => k_is); (case c => k_is); (case k => k_is))
    case d8 => (refine' Q06.df_mk KX G ?a ?l ?c ?k; (case a => k_is); (case l => k_is); (case c => k_is); (case k => k_is))
    case d9 => (refine' Q06.df_mk KX G ?a ?l ?c ?k; (case a => k_is); (case l => k_is); (case c => k_is); (case k => k_is))
    case d10 => (refine' Q06.df_mk KX G ?a ?l ?c ?k; (case a => k_is); (case l => k_is); (case c => k_is); (case k => k_is))
    case d11 => (refine' Q06.df_mk KX G ?a ?l ?c ?k; (case a => k_is); (case l => k_is); (case c => k_is); (case k => k_is))
    case d12 => (refine' Q06.df_mk KX G ?a ?l ?c ?k; (case a => k_is); (case l => k_is); (case c => k_is); (case k => k_is))
    case d13 => (refine' Q06.df_mk KX G ?a ?l ?c ?k; (case a => k_is); (case l => k_is); (case c => k_is); (case k => k_is))
    case d14 => (refine' Q06.df_mk KX G ?a ?l ?c ?k; (case a => k_is); (case l => k_is); (case c => k_is); (case k => k_is))
    case d15 => (refine' Q06.df_mk KX G ?a ?l ?c ?k; (case a => k_is); (case l => k_is); (case c => k_is); (case k => k_is))
    case d16 => (refine' Q06.df_mk KX G ?a ?l ?c ?k; (case a => k_is); (case l => k_is); (case c => k_is); (case k => k_is))
    case d17 => (refine' Q06.df_mk KX G ?a ?l ?c ?k; (case a => k_is); (case l => k_is); (case c => k_is); (case k => k_is))
    case d18 => (refine' Q06.df_mk KX G ?a ?l ?c ?k; (case a => k_is); (case l => k_is); (case c => k_is); (case k => k_is))
    case d19 => (refine' Q06.df_mk KX G ?a ?l ?c ?k; (case a => k_is); (case l => k_is); (case c => k_is); (case k => k_is))
    case d20 => (refine' Q06.df_mk KX G ?a ?l ?c ?k; (case a => k_is); (case l => k_is); (case c => k_is); (case k => k_is))
    case d21 => (refine' Q06.df_mk KX G ?a ?l ?c ?k; (case a => k_is); (case l => k_is); (case c => k_is); (case k => k_is))
    case d22 => (refine' Q06.df_mk KX G ?a ?l ?c ?k; (case a => k_is); (case l => k_is); (case c => k_is); (case k => k_is))
    case d23 => (refine' Q06.df_mk KX G ?a ?l ?c ?k; (case a => k_is); (case l => k_is); (case c => k_is); (case k => k_is))
    case d24 => (refine' Q06.df_mk KX G ?a ?l ?c ?k; (case a => k_is); (case l => k_is); (case c => k_is); (case k => k_is))
    case d25 => (refine' Q06.df_mk KX G ?a ?l ?c ?k; (case a => k_is); (case l => k_is); (case c => k_is); (case k => k_is))
    case m0 => (refine' Q06.dm_mk ?a ?t ?l ?c ?k; (case a => k_is); (case t => k_is); (case l => k_is); (case c => k_is); (case k => k_is))
    case m1 => (refine' Q06.dm_mk ?a ?t ?l ?c ?k; (case a => k_is); (case t => k_is); (case l => k_is); (case c => k_is); (case k => k_is))
    case m2 => (refine' Q06.dm_mk ?a ?t ?l ?c ?k; (case a => k_is); (case t => k_is); (case l => k_is); (case c => k_is); (case k => k_is))
    case m3 => (refine' Q06.dm_mk ?a ?t ?l ?c ?k; (case a => k_is); (case t => k_is); (case l => k_is); (case c => k_is); (case k => k_is))
    case m4 => (refine' Q06.dm_mk ?a ?t ?l ?c ?k; (case a => k_is); (case t => k_is); (case l => k_is); (case c => k_is); (case k => k_is))
    case m5 => (refine' Q06.dm_mk ?a ?t ?l ?c ?k; (case a => k_is); (case t => k_is); (case l => k_is); (case c => k_is); (case k => k_is))

