import PyProof.Rows.All
import Wide.All
import OpenK.AllK
import Wide.FinOn
import HandS.ForMost
import HandS.ForExc
import HandS.NoneIn
import HandS.Evl
import KE.KEqSeq
import PyProof.StrBlock2
import HandS.ExcInit
import HandS.ExcValue
import HandS.IsInst
import KE.KExcIs
import PySem.Challenge.RW_pricespin_k38_errors
set_option Elab.async false
set_option linter.all false
set_option maxRecDepth 100000
namespace DK
open PySem PySem.Spec PyProof.Rows L2
theorem hu64 {k : Nat} {A : Around} (hr : Room k A) : A.units + 64 < cLine := by
  have := hr.un
  omega
def CPowW (i j : Int) : Prop := 0 ≤ j ∧ (Builtin.Int.intBits i : Int) * j ≤ 2 ^ 27
theorem op_powW {X : Cx} : OpR X (binaryOp .Pow) (rI CPowW fun i j => .int (i ^ j.toNat)) := opI fun _ _ _ _ _ _ _ hc q => pow_int hc.1 hc.2 q
/-- a text times a number -/
theorem op_mulS {X : Cx} : OpR X (binaryOp .Mult) (fun x y H Q => ∃ z n, x = .str z ∧ y = .int n ∧ PySem.MulOk z n ∧ Q (.str (PySem.Txt.mul z n)) H) := by
  intro pins s σ H x y v u Q I rx ry h
  obtain ⟨z, n, rfl, rfl, hc, q⟩ := h
  obtain ⟨t, rfl⟩ := rx
  obtain ⟨t', rfl⟩ := ry
  exact PySem.SB.mul hc fun t2 k => ⟨.str _, H, I.tok _, ⟨_, rfl⟩, q⟩
/-- where a def of the top stands -/
structure At (K : PySem.W.Frag) (mg : Str → Option Value) (x : Str) (st : Stmt) (ps : List Str) where
  f : Addr
  fd : FuncData
  F : Fun K x x st f fd
  g : mg x = some (.ref f)
  b : Binds K fd ps []
/-- all but the addresses of M stay -/
def ExM (M : List Addr) (H H' : Hp) : Prop := ∀ a o, a ∉ M → H a = some o → H' a = some o
theorem ExM.refl (M : List Addr) (H : Hp) : ExM M H H := fun _ _ _ h => h
theorem ExM.trans {M : List Addr} {H H1 H2 : Hp} (a : ExM M H H1) (b : ExM M H1 H2) : ExM M H H2 := fun x o n h => b x o n (a x o n h)
theorem ExM.new {M : List Addr} {H : Hp} {p : Addr} {o : HO} (h : H p = none) : ExM M H (upd H p o) := fun a u _ e => by
  rw [upd_ne (ne_of_none e h)]
  exact e
theorem ExM.mut {M : List Addr} {H : Hp} {p : Addr} {o : HO} (h : p ∈ M) : ExM M H (upd H p o) := fun a u n e => by
  rw [upd_ne (show a ≠ p from fun z => n (by rw [z]; exact h))]
  exact e
theorem ExM.of {M : List Addr} {H H' : Hp} (e : Evl.Ex H H') : ExM M H H' := fun a o _ h => e a o h
/-- the source of a law's draws: at s the list of the cells' list (at c) and of the turn, at most n -/
def big : Int := 10 ^ 1200
structure Src (H : Hp) (s c : Addr) (n : Nat) : Prop where
  ne : c ≠ s
  ex : ∃ (ks : List Int) (t : Nat), H s = some (.lst [.ref c, .int (t : Int)]) ∧ H c = some (.lst (ks.map V.int)) ∧ 1 ≤ ks.length ∧ ks.length ≤ 63 ∧ t ≤ n
theorem Src.mono {H : Hp} {s c : Addr} {n m : Nat} (h : Src H s c n) (l : n ≤ m) : Src H s c m := by
  obtain ⟨a, ks, t, e1, e2, e3, e4, e5⟩ := h
  exact ⟨a, ks, t, e1, e2, e3, e4, Nat.le_trans e5 l⟩
theorem Src.ex1 {H H' : Hp} {s c : Addr} {n : Nat} (h : Src H s c n) (e : Evl.Ex H H') : Src H' s c n := by
  obtain ⟨a, ks, t, e1, e2, e3, e4, e5⟩ := h
  exact ⟨a, ks, t, e _ _ e1, e _ _ e2, e3, e4, e5⟩
theorem Src.new {H : Hp} {s c p : Addr} {o : HO} {n : Nat} (h : Src H s c n) (hp : H p = none) : Src (upd H p o) s c n := h.ex1 (Evl.Ex.new hp)
/-- _law_source(script) -/
def spSource (K : PySem.W.Frag) : Sp := fun vs H Q _ => ∃ (a : Addr) (ns : List Int), vs = [.ref a] ∧ SqL K H a (ns.map V.int) ∧ ns.length ≤ 63 ∧
  ∀ s c H', Evl.Ex H H' → H s = none → H c = none → Src H' s c 0 → Q (.ref s) H'
/-- _law_draw(source, limit) -/
def spDraw : Sp := fun vs H Q _ => ∃ (s c : Addr) (n : Nat) (l : Int), vs = [.ref s, .int l] ∧ Src H s c n ∧ n < 2 ^ 60 ∧ 0 < l ∧ l < 2 ^ 30 ∧
  ∀ (d : Int) H', 0 ≤ d → d < l → ExM [s, c] H H' → Src H' s c (n + 1) → Q (.int d) H'
/-- _law_pick(source, values) -/
def spPick (K : PySem.W.Frag) : Sp := fun vs H Q _ => ∃ (s c p : Addr) (n : Nat) (xs : List V), vs = [.ref s, .ref p] ∧ Src H s c n ∧ n < 2 ^ 60 ∧ SqL K H p xs ∧ p ≠ s ∧ p ≠ c ∧ 1 ≤ xs.length ∧ xs.length ≤ 1000 ∧
  ∀ v H', v ∈ xs → ExM [s, c] H H' → Src H' s c (n + 1) → Q v H'
theorem sqm {K : PySem.W.Frag} {M : List Addr} {H H' : Hp} {a : Addr} {xs : List V} (e : ExM M H H') (n : a ∉ M) (h : SqL K H a xs) : SqL K H' a xs := by
  rcases h with (h | ⟨o, h⟩) | h
  · exact .inl (.inl (e a _ n h))
  · exact .inl (.inr ⟨o, e a _ n h⟩)
  · exact .inr h
end DK

set_option Elab.async false
set_option linter.all false
set_option maxRecDepth 100000
set_option maxHeartbeats 2000000
namespace XV
open PySem PySem.Spec PyProof.Rows L2 DK
/-- what the written part says of an exception class of the program, for isinstance and fields -/
structure XC (K : PySem.W.Frag) (C : Addr) : Prop where
  cl : (PySem.W.clsIn K C).isSome = true
  ga : PySem.W.findIn K (.ref C) "__getattribute__" = some (some (.builtin "BaseException.__getattribute__"))
  gg : PySem.W.findIn K (.ref C) "__getattr__" = some none
  ex : PySem.W.subIn K (.ref C) (.type "BaseException") = some true
  hd : PySem.W.hasDictIn K C = true
  ca : PySem.W.findIn K (.ref C) "__class__" = some (some (.builtin "object.__class__"))
  cg : PySem.W.specialIn K (.builtin "object.__class__") "__get__" = some (some (.builtin "getset_descriptor.__get__"))
  ct : PySem.W.takesIn K (.builtin "object.__class__") = some true
  ob : PySem.W.mroIn K C (.type "object") = some true
def xcB (K : PySem.W.Frag) (C : Addr) : Bool :=
  (PySem.W.clsIn K C).isSome && (decide (PySem.W.findIn K (.ref C) "__getattribute__" = some (some (.builtin "BaseException.__getattribute__"))) && (decide (PySem.W.findIn K (.ref C) "__getattr__" = some none) &&
  (decide (PySem.W.subIn K (.ref C) (.type "BaseException") = some true) && (PySem.W.hasDictIn K C && (decide (PySem.W.findIn K (.ref C) "__class__" = some (some (.builtin "object.__class__"))) &&
  (decide (PySem.W.specialIn K (.builtin "object.__class__") "__get__" = some (some (.builtin "getset_descriptor.__get__"))) && (decide (PySem.W.takesIn K (.builtin "object.__class__") = some true) && decide (PySem.W.mroIn K C (.type "object") = some true))))))))
theorem xcB_ok {K : PySem.W.Frag} {C : Addr} (h : xcB K C = true) : XC K C := by
  unfold xcB at h
  simp only [Bool.and_eq_true, decide_eq_true_eq] at h
  obtain ⟨h1, h2, h3, h4, h5, h6, h7, h8, h9⟩ := h
  exact ⟨h1, h2, h3, h4, h5, h6, h7, h8, h9⟩
/-- at a: an exception object of the class at C, held as a value, not raised; its fields -/
def ExV (H : Hp) (a C : Addr) (fs : List (Str × V)) : Prop :=
  (fs = [] ∧ H a = some (ExO (.ref C) a)) ∨ ∃ d, H a = some (exo a C (some d)) ∧ H d = some (exd d fs)
theorem ExV.ex {H H' : Hp} {a C : Addr} {fs : List (Str × V)} (h : ExV H a C fs) (e : Evl.Ex H H') : ExV H' a C fs := by
  rcases h with ⟨z, h⟩ | ⟨d, h1, h2⟩
  · exact .inl ⟨z, e _ _ h⟩
  · exact .inr ⟨d, e _ _ h1, e _ _ h2⟩
section
variable {X : Cx} {pins : List (Addr × Obj)} {σ : L2.St} {H : Hp} {s : Shared}
theorem ExV.inst {a C : Addr} {fs : List (Str × V)} (I : Inv X pins σ H s) (h : ExV H a C fs) : ∃ ox od, PySem.W.InstAt s.heap a ox C od := by
  rcases h with ⟨_, h⟩ | ⟨d, h1, h2⟩
  · obtain ⟨⟨oe, vs, ho, hz, hd, _⟩, _, _⟩ := I.hok a _ h
    exact ⟨oe, none, ho, hz.1, by unfold PySem.W.notCls; rw [hd] <;> rfl, by rw [hz.2]; exact True.intro⟩
  · obtain ⟨t1, ho⟩ := exo_at I.hok h1
    obtain ⟨mA, hns, _⟩ := exd_at I.hok h2
    obtain ⟨od, e1, _⟩ := lookIn_ns hns
    exact ⟨_, some od, ho, rfl, rfl, e1⟩
end
/-- isinstance(e, c), e such an exception -/
def rIsX (K : PySem.W.Frag) : List V → Hp → VK → Prop := fun xs H Q => ∃ (a C : Addr) (fs : List (Str × V)) (c : V) (cv : Value) (b : Bool),
  xs = [.ref a, c] ∧ ExV H a C fs ∧ XC K C ∧ ClsV c cv ∧ PySem.W.kitOne K (.ref C) cv = some b ∧ Q (.bl b) H
/-- e.n -/
def tXv (K : PySem.W.Frag) (n : Str) (te : TE) : TE := fun σ H Q => te σ H fun x H1 => ∃ (a C : Addr) (fs : List (Str × V)) (v : V),
  x = .ref a ∧ ExV H1 a C fs ∧ XC K C ∧ PySem.W.findIn K (.ref C) n = some none ∧ fs.lookup n = some v ∧ Q v H1
section
variable {X : Cx}
theorem call_isX : CallR X (.builtin "isinstance") (rIsX X.K) := by
  intro pins s σ H xs us Q I r h
  obtain ⟨a, C, fs, c, cv, b, rfl, hv, T, k, e, q⟩ := h
  obtain ⟨u1, u2, rfl, r1, r2⟩ := vals2 r
  have e2 := k.eq r2
  subst e2
  cases (show u1 = Value.ref a from r1)
  obtain ⟨ox, od, J⟩ := hv.inst I
  exact PySem.W.kia_one (PySem.W.kitx_exc T.cl T.ga T.gg T.ex T.ca T.cg T.ct T.ob) I.kIn J e (fun z => nomatch z) fun tk => ⟨.bl b, H, I.tok tk, rfl, q⟩
theorem pe_xv {e : Expr} {te : TE} {pos : Pos} {n : Str} (he : PE X e te) (hb : attributeBase e n X.env (eval e X.env) = eval e X.env := by rfl) : PE X (.Attribute e n pos) (tXv X.K n te) := by
  refine ⟨fun pins s σ H Q I h => ?_⟩
  refine attr_of hb (thn (he.run pins s σ H _ I h) fun u s1 hh => ?_)
  obtain ⟨x, H1, I1, rx, a, C, fs, v, ex, hv, T, hno, l, q⟩ := hh
  subst ex
  obtain rfl : u = Value.ref a := rx
  rcases hv with ⟨z, _⟩ | ⟨d, h1, h2⟩
  · subst z
    cases l
  obtain ⟨t1, ho⟩ := exo_at I1.hok h1
  obtain ⟨mA, hns, hr⟩ := exd_at I1.hok h2
  obtain ⟨od, ho2, hl⟩ := lookIn_ns hns
  obtain ⟨w, hu, ru⟩ := RelO.some_of (v := v) (o := mA n) (by rw [← l]; exact hr n)
  have J : PySem.W.InstAt s1.heap a _ C (some od) := ⟨ho, rfl, rfl, ho2⟩
  exact HandSPX.exc_get I1.kIn J T.ga T.gg T.ex (PySem.W.findObj_own T.hd hno rfl (by rw [hl, hu])) (handed_of ru) ⟨v, H1, I1.tok _, ru, q⟩
/-- X(), an own exception class without own __init__, as a value -/
theorem pe_exc0 {C : Addr} {bmB : List Value} {B newId initId : String} {x : Str} {p pos : Pos} (F : ExcBaseFacts B newId initId bmB) (q : PySem.W.excIn X.K C bmB newId = true) (gC : X.mg x = some (.ref C)) (kC : PySem.W.keepIn X.K (.ref C) = true) (hg : Gl X x)
    (hdb : (x == ("__debug__" : Str)) = false := by decide) :
    PE X (.Call (.Name x p) [] [] pos) (fun _ H Q => ∀ a, H a = none → Q (.ref a) (upd H a (ExO (.ref C) a))) := by
  refine ⟨fun pins s σ H Q I h => ?_⟩
  refine wpAny_Call_Name_kw (ld_glob I hg gC ?_ hdb)
  refine PySem.W.callWith_K0 I.kIn kC ?_
  obtain ⟨bm, N, nm, qn, bs, hdct, sn, sub, ab, col, dd, k0, k1, k2, k3, k5, mN, hC, hN, hni, T⟩ := exc_obj I.kIn q
  refine wpAny_call_exc_subT F T hC hN hni (fun h' a hm => ?_) (by show 0 ≤ sizeLine; exact Nat.zero_le _)
  have hn : H a = none := I.hok.gone hm.new
  obtain ⟨t, ht, _, _⟩ := hm.there
  exact ⟨.ref a, upd H a (ExO (.ref C) a), I.laidN hm.keeps hm.new hn (exO_ok ht ⟨rfl, rfl⟩ rfl rfl rfl (show 4 < 6 by decide)), rfl, h a hn⟩
/-- C(e, ..), C's own __init__ keeping sp, as a value -/
def tMkV (C : Addr) (sp : Sp) (ta : TA) : TE := fun σ H Q => ta σ H fun vs H1 => vs.length ≤ 1000 ∧ ∀ a, H1 a = none → sp (.ref a :: vs) (upd H1 a (exo a C none)) (fun v H2 => v = .non ∧ Q (.ref a) H2) (fun _ _ _ => False)
theorem pe_oexV {CX : CXT} {x : Str} {C fI : Addr} {k : Nat} {fd : FuncData} {ps : List Str} {sp : Sp} {e : Expr} {es : List Expr} {ta : TA} {p pos : Pos} (T : OexC X.K C) (iC : PySem.W.findIn X.K (.ref C) "__init__" = some (some (.ref fI))) (tI : PySem.W.typeIn X.K (.ref fI) = some (.type "function"))
    (F1 : FnOk X.prog X.w X.K X.mg X.base CX k fI fd ps sp) (hr : Room (k + 1) X.A) (hb : Binds X.K fd ps []) (hx : Passes CX X (fun _ _ _ => False)) (hg : Gl X x) (hm : X.mg x = some (.ref C)) (ha : PA X (e :: es) ta)
    (hdb : (x == ("__debug__" : Str)) = false := by decide) (he : starEach (e :: es) X.env = (false, eval e X.env) :: starEach es X.env := by rfl) (hpl : (backTo pos (starEach es X.env)).any (·.1) = false := by rfl) :
    PE X (.Call (.Name x p) (e :: es) [] pos) (tMkV C sp ta) := by
  refine ⟨fun pins s σ H Q I h => ?_⟩
  obtain ⟨nm, q, N, bs, bm, sn, sub, ab, col, dd, k0, k1, k2, k3, k5, hC, hbm⟩ := T.cls
  refine wpAny_Call_Name_kw (ld_glob I hg hm ?_ hdb)
  refine PySem.W.callWith_K (h₀ := X.base) I.ok.mod.kin T.kC (thn (ha.run pos pins s σ H _ I h) fun us s1 ⟨vs, H1, I1, r1, hz, q1⟩ => ⟨I1.kIn, ?_⟩) he hpl
  show wpAny _ _ (call (.ref C) us) _ _ _
  obtain ⟨hp, g, dr, tk, os⟩ := s1
  have hsz : hp.objs.size ≤ hp.objs.size + 1 := Nat.le_succ _
  have hn : H1 (hp.objs.size + 1) = none := I1.hok.fresh hsz
  have hq := q1 (hp.objs.size + 1) hn
  have kk : ∀ b o, hp.get? b = some o → ((hp.push (PySem.W.kdv_tup us)).push (PySem.HandSPX.excO C hp.objs.size)).get? b = some o := fun b o e => Heap.get?_push_of_some _ (Heap.get?_push_of_some _ e)
  have hget : ((hp.push (PySem.W.kdv_tup us)).push (PySem.HandSPX.excO C hp.objs.size)).get? (hp.objs.size + 1) = some (PySem.HandSPX.excO C hp.objs.size) := by heap_get
  have I2 : Inv X pins σ (upd H1 (hp.objs.size + 1) (exo (hp.objs.size + 1) C none)) ⟨(hp.push (PySem.W.kdv_tup us)).push (PySem.HandSPX.excO C hp.objs.size), g, dr, tk, os⟩ :=
    I1.laid (t' := tk) (a := hp.objs.size + 1) (o := exo (hp.objs.size + 1) C none) (h' := (hp.push (PySem.W.kdv_tup us)).push (PySem.HandSPX.excO C hp.objs.size)) kk hsz (exo_ok hget)
  have r2 : Vals (V.ref (hp.objs.size + 1) :: vs) (Value.ref (hp.objs.size + 1) :: us) := .cons rfl r1
  have hl : (Value.ref (hp.objs.size + 1) :: us).length = ps.length := by
    have e := r2.length
    rw [F1.len _ _ _ _ hq] at e
    exact e.symm
  have hus : us.length ≤ sizeLine := by
    rw [← Paired.length r1, sizeLine_eq]
    omega
  refine wpAny_call (PySem.HandSPX.call_own F.excBase_ValueError (fun Y => PySem.HandSPX.refsVE_contains Y bm hbm) (I1.kIn _ _ hC) (PySem.W.looks_findIn I1.kIn iC) (fun self => PySem.W.bind_fn I1.kIn self tI) hus
    (codeAny_mono (F1.run _ X.stack _ _ ⟨Value.ref (hp.objs.size + 1) :: us, []⟩ (Value.ref (hp.objs.size + 1) :: us) _ _ (fun _ _ _ => False) (hr.make C us []) (I2.env0.make C us []) (by
      have z := hb _ (Value.ref (hp.objs.size + 1) :: us) I2.kIn (by rw [List.append_nil]; exact hl)
      rw [List.append_nil] at z
      exact z) r2 hq) fun r s' hq' => ?_))
  cases r with
  | error er => exact hx pins σ _ _ er s' I2 hq'
  | ok fl =>
    cases fl with
    | ret u =>
      obtain ⟨v, H', I3, rv, ev, q3⟩ := I2.after hq'
      subst ev
      exact ⟨rv, ⟨V.ref (hp.objs.size + 1), H', I3, rfl, q3⟩⟩
    | next => exact False.elim hq'
    | brk => exact False.elim hq'
    | cont => exact False.elim hq'
end
end XV

set_option Elab.async false
set_option linter.all false
set_option maxRecDepth 100000
set_option maxHeartbeats 2000000
namespace XV
open PySem PySem.Spec PyProof.Rows L2 DK Evl
abbrev XD := Addr × List (Str × V)
/-- a row of exception values: each of its class, with its fields -/
def XAll (H : Hp) : List V → List XD → Prop := Paired fun v c => ∃ a, v = .ref a ∧ ExV H a c.1 c.2
theorem XAll.ex {H H' : Hp} {vs : List V} {cs : List XD} (h : XAll H vs cs) (e : Ex H H') : XAll H' vs cs := Paired.mapP h fun _ _ ⟨a, z, x⟩ => ⟨a, z, x.ex e⟩
theorem XAll.get {H : Hp} : ∀ {vs : List V} {cs : List XD} {i : Nat} {c : XD}, XAll H vs cs → cs[i]? = some c → ∃ a, vs[i]? = some (.ref a) ∧ ExV H a c.1 c.2
  | _, _, _, _, .nil, e => by simp at e
  | _, _, 0, _, .cons r _, e => by
    simp at e
    subst e
    obtain ⟨a, rfl, x⟩ := r
    exact ⟨a, rfl, x⟩
  | _, _, i + 1, c, .cons _ t, e => by
    obtain ⟨a, h1, h2⟩ := XAll.get (i := i) (c := c) t (by simpa using e)
    exact ⟨a, by simpa using h1, h2⟩
theorem XAll.append {H : Hp} : ∀ {vs us : List V} {cs ds : List XD}, XAll H vs cs → XAll H us ds → XAll H (vs ++ us) (cs ++ ds)
  | _, _, _, _, .nil, s => s
  | _, _, _, _, .cons r t, s => .cons r (XAll.append t s)
theorem XAll.len {H : Hp} {vs : List V} {cs : List XD} (h : XAll H vs cs) : vs.length = cs.length := Paired.length h
def EX (te : TE) (σ : L2.St) (H : Hp) (c : XD) : Prop := ∀ H1, Ex H H1 → ∀ Q : VK, (∀ a H2, Ex H1 H2 → ExV H2 a c.1 c.2 → Q (.ref a) H2) → te σ H1 Q
def AX (ta : TA) (σ : L2.St) (H : Hp) (cs : List XD) : Prop := ∀ H1, Ex H H1 → ∀ Q : List V → Hp → Prop, (∀ vs H2, Ex H1 H2 → XAll H2 vs cs → Q vs H2) → ta σ H1 Q
def LX (te : TE) (σ : L2.St) (H : Hp) (cs : List XD) : Prop := ∀ H1, Ex H H1 → ∀ Q : VK, (∀ p vs H2, H1 p = none → Ex H1 H2 → H2 p = some (.lst vs) → XAll H2 vs cs → Q (.ref p) H2) → te σ H1 Q
section
variable {σ : L2.St} {H : Hp} {ta tb te : TE} {t : TA} {cs ds : List XD} {c : XD} {C : Addr} {v : V} {K : PySem.W.Frag}
theorem ax_nil : AX tNil σ H [] := fun H1 _ _ q => q [] H1 (Ex.refl H1) .nil
theorem ax_cons (h : EX te σ H c) (hr : AX t σ H cs) : AX (tCons te t) σ H (c :: cs) := fun H1 e _ q =>
  h H1 e _ fun a H2 e2 x => hr H2 (e.trans e2) _ fun vs H3 e3 xs => q _ H3 (e2.trans e3) (.cons ⟨a, rfl, x.ex e3⟩ xs)
theorem ex_exc0 : EX (fun _ H Q => ∀ a, H a = none → Q (.ref a) (upd H a (ExO (.ref C) a))) σ H (C, []) := fun H1 e Q q => fun a ha => q a _ (Ex.new ha) (.inl ⟨rfl, upd_same⟩)
theorem ex_exc1 (h : Ev ta σ H v) : EX (fun σ H Q => ta σ H fun _ H1 => ∀ a, H1 a = none → Q (.ref a) (upd H1 a (ExO (.ref C) a))) σ H (C, []) := fun H1 e Q q =>
  h H1 e _ fun H2 e2 => fun a ha => q a _ (e2.trans (Ex.new ha)) (.inl ⟨rfl, upd_same⟩)
theorem lx_lst (h : AX t σ H cs) (hl : cs.length ≤ 1000) : LX (tLst t) σ H cs := fun H1 e Q q =>
  h H1 e _ fun vs H2 e2 x => ⟨sz_of (by rw [x.len]; omega), fun p hp => q p vs _ (fresh_back e2 hp) (e2.trans (Ex.new hp)) upd_same (x.ex (Ex.new hp))⟩
theorem lx_cat {p : Addr} {vs : List V} (ha : Ev ta σ H (.ref p)) (hp : H p = some (.lst vs)) (hx : XAll H vs cs) (hb : LX tb σ H ds) (hl : cs.length + ds.length ≤ 1000) : LX (tOp rCat ta tb) σ H (cs ++ ds) := fun H1 e Q q =>
  ha H1 e _ fun H2 e2 => hb H2 (e.trans e2) _ fun r us H3 _ e3 hr xr =>
    have e13 := e2.trans e3
    ⟨p, r, vs, us, rfl, rfl, (e.trans e13) _ _ hp, hr, sz_of (by rw [hx.len, xr.len]; omega), fun z hz => q z _ _ (fresh_back e13 hz) (e13.trans (Ex.new hz)) upd_same (((hx.ex (e.trans e13)).append xr).ex (Ex.new hz))⟩
theorem lx_cat2 {p : Addr} {vs : List V} (ha : LX ta σ H ds) (hb : Ev tb σ H (.ref p)) (hp : H p = some (.lst vs)) (hx : XAll H vs cs) (hl : ds.length + cs.length ≤ 1000) : LX (tOp rCat ta tb) σ H (ds ++ cs) := fun H1 e Q q =>
  ha H1 e _ fun r us H2 hr0 e2 hr xr => hb H2 (e.trans e2) _ fun H3 e3 =>
    have e13 := e2.trans e3
    ⟨r, p, us, vs, rfl, rfl, e3 _ _ hr, (e.trans e13) _ _ hp, sz_of (by rw [hx.len, xr.len]; omega), fun z hz => q z _ _ (fresh_back e13 hz) (e13.trans (Ex.new hz)) upd_same (((xr.ex e3).append (hx.ex (e.trans e13))).ex (Ex.new hz))⟩
theorem q_asgX {D : Ends} {tz : TS} {i : Nat} (h : LX te σ H cs) (k : ∀ p vs H1, H p = none → Ex H H1 → H1 p = some (.lst vs) → XAll H1 vs cs → tz D (σ.set i (some (.ref p))) H1) : tSeq (tAsg te (gName i)) tz D σ H :=
  h H (Ex.refl H) _ fun p vs H1 n e hp x => k p vs H1 n e hp x
theorem el_cat {p : Addr} {xs ys : List V} (ha : Ev ta σ H (.ref p)) (hp : H p = some (.lst xs)) (hb : EvL tb σ H ys) (hl : xs.length + ys.length ≤ 100000) : EvL (tOp rCat ta tb) σ H (xs ++ ys) := fun H1 e Q q =>
  ha H1 e _ fun H2 e2 => hb H2 (e.trans e2) _ fun r H3 _ e3 hr =>
    have e13 := e2.trans e3
    ⟨p, r, xs, ys, rfl, rfl, (e.trans e13) _ _ hp, hr, sz_of hl, fun z hz => q z _ (fresh_back e13 hz) (e13.trans (Ex.new hz)) upd_same⟩
theorem ev_isX {a : Addr} {fs : List (Str × V)} {cx : V} {cv : Value} {b : Bool} (ha : Ev ta σ H (.ref a)) (hx : ExV H a C fs) (T : XC K C) (k : ClsV cx cv) (e : PySem.W.kitOne K (.ref C) cv = some b) : Ev (tCB (rIsX K) (tCons ta (tCons (tC cx) tNil))) σ H (.bl b) := fun H1 e1 Q q =>
  ha H1 e1 _ fun H2 e2 => ⟨a, C, fs, cx, cv, b, rfl, hx.ex (e1.trans e2), T, k, e, q H2 e2⟩
theorem ev_xv {a : Addr} {fs : List (Str × V)} {n : Str} (ha : Ev ta σ H (.ref a)) (hx : ExV H a C fs) (T : XC K C) (hn : PySem.W.findIn K (.ref C) n = some none) (hl : fs.lookup n = some v) : Ev (tXv K n ta) σ H v := fun H1 e1 Q q =>
  ha H1 e1 _ fun H2 e2 => ⟨a, C, fs, v, rfl, hx.ex (e1.trans e2), T, hn, hl, q H2 e2⟩
/-- an own __init__: from the bare object to the one with its fields -/
def spInit (C : Addr) (n : Nat) (fs : List V → List (Str × V)) : Sp := fun vs H Q _ => ∃ (a : Addr) (xs : List V), vs = .ref a :: xs ∧ xs.length = n ∧ H a = some (exo a C none) ∧
  ∀ d H', H d = none → d ≠ a → (∀ b, b ≠ a → b ≠ d → H' b = H b) → H' a = some (exo a C (some d)) → H' d = some (exd d (fs xs)) → Q .non H'
theorem ex_oexV {n : Nat} {fs : List V → List (Str × V)} {vs : List V} (h : EvA t σ H vs) (hl : vs.length = n) (hn : n ≤ 1000) : EX (tMkV C (spInit C n fs) t) σ H (C, fs vs) := fun H1 e Q q =>
  h H1 e _ fun H2 e2 => ⟨by omega, fun a ha => ⟨a, vs, rfl, hl, upd_same, fun d H' hd hda hk h1 h2 => ⟨rfl, by
    have hd2 : H2 d = none := by
      rw [upd_ne hda] at hd
      exact hd
    refine q a H' (e2.trans fun b o hb => ?_) (.inr ⟨d, h1, h2⟩)
    rw [hk b (ne_of_none hb ha) (ne_of_none hb hd2), upd_ne (ne_of_none hb ha)]
    exact hb⟩⟩⟩
end
theorem _root_.DK.Src.nes {H : Hp} {s c p : Addr} {n : Nat} (S : Src H s c n) (h : H p = none) : p ≠ s ∧ p ≠ c := by
  obtain ⟨_, ks, t, e1, e2, _⟩ := S
  exact ⟨(ne_of_none e1 h).symm, (ne_of_none e2 h).symm⟩
end XV

set_option Elab.async false
set_option linter.all false
set_option maxRecDepth 100000
set_option maxHeartbeats 2000000
namespace DK
open PySem PySem.Spec PyProof.Rows L2 Evl
section
variable {K : PySem.W.Frag} {H H' : Hp}
mutual
theorem dp_ex (e : Ex H H') : ∀ (d : PyData) (v : V), Dp K H v d → Dp K H' v d
  | .none, _, h => by cases h; exact .non
  | .bool _, _, h => by cases h; exact .bl _
  | .int _, _, h => by cases h; exact .int _
  | .str _, _, h => by cases h; exact .str _
  | .list ds, _, h => by
    cases h with
    | lst h1 h2 => exact .lst (ex_l e h1) (dp_exAll e ds _ h2)
  | .tuple ds, _, h => by
    cases h with
    | tup h1 h2 => exact .tup (ex_t e h1) (dp_exAll e ds _ h2)
  | .dict _, _, h => by cases h
theorem dp_exAll (e : Ex H H') : ∀ (ds : List PyData) (vs : List V), DpAll K H vs ds → DpAll K H' vs ds
  | [], _, h => by cases h; exact .nil
  | d :: ds, _, h => by
    cases h with
    | cons h1 h2 => exact .cons (dp_ex e d _ h1) (dp_exAll e ds _ h2)
end
mutual
theorem eqv_same : ∀ d : PyData, d.canLay0 = true → PyData.eqv d d = true
  | .none, _ => rfl
  | .bool b, _ => by simp [PyData.eqv]
  | .int i, _ => by simp [PyData.eqv]
  | .str x, _ => by simp [PyData.eqv]
  | .list xs, h => by
    simp only [PyData.eqv]
    exact eqv_sameAll xs (by simpa [PyData.canLay0] using h)
  | .tuple xs, h => by
    simp only [PyData.eqv]
    exact eqv_sameAll xs (by simpa [PyData.canLay0] using h)
  | .dict _, h => by simp [PyData.canLay0] at h
theorem eqv_sameAll : ∀ ds : List PyData, PyData.canLayAll0 ds = true → PyData.eqvAll ds ds = true
  | [], _ => rfl
  | d :: ds, h => by
    have h' : d.canLay0 = true ∧ PyData.canLayAll0 ds = true := by simpa [PyData.canLayAll0] using h
    simp only [PyData.eqvAll]
    rw [eqv_same d h'.1, eqv_sameAll ds h'.2] <;> rfl
end
theorem rv_neD {x y : V} {d e : PyData} (hd : Dp K H x d) (he : Dp K H y e) (sd : SeqAt.shaped d = true) (se : SeqAt.shaped e = true) : RV (rNeD K) x y H (.bl (!PyData.eqv d e)) :=
  fun H1 e1 _ q => ⟨d, e, dp_ex e1 d _ hd, dp_ex e1 e _ he, sd, se, q H1 (Ex.refl H1)⟩
theorem rv_eqD {x y : V} {d e : PyData} (hd : Dp K H x d) (he : Dp K H y e) (sd : SeqAt.shaped d = true) (se : SeqAt.shaped e = true) : RV (rEqD K) x y H (.bl (PyData.eqv d e)) :=
  fun H1 e1 _ q => ⟨d, e, dp_ex e1 d _ hd, dp_ex e1 e _ he, sd, se, q H1 (Ex.refl H1)⟩
theorem rv_neS {x y : V} {d : PyData} (hd : Dp K H x d) (he : Dp K H y d) (sd : SeqAt.shaped d = true) : RV (rNeD K) x y H (.bl false) := by
  have h := rv_neD hd he sd sd
  rw [eqv_same d (SeqAt.canLay_of_shaped sd)] at h
  exact h
theorem dp_bools : ∀ bs : List Bool, DpAll K H (bs.map V.bl) (bs.map PyData.bool)
  | [] => .nil
  | b :: bs => .cons (.bl b) (dp_bools bs)
theorem shaped_bools (bs : List Bool) : SeqAt.shaped (.list (bs.map PyData.bool)) = true := by
  have h1 : ∀ bs : List Bool, PyData.canLayAll0 (bs.map PyData.bool) = true ∧ PyData.depthAll (bs.map PyData.bool) = 0 := fun bs => by
    induction bs with
    | nil => exact ⟨rfl, rfl⟩
    | cons b bs ih => simp [PyData.canLayAll0, PyData.canLay0, PyData.depthAll, PyData.depth, ih.1, ih.2]
  simp [SeqAt.shaped, PyData.canLay0, PyData.depth, (h1 bs).1, (h1 bs).2]
end
end DK
namespace XV
open PySem PySem.Spec PyProof.Rows L2 DK Evl
theorem ex_of {te : TE} {σ : L2.St} {H : Hp} {a C : Addr} {fs : List (Str × V)} (h : Ev te σ H (.ref a)) (hx : ExV H a C fs) : EX te σ H (C, fs) := fun H1 e Q q =>
  h H1 e _ fun H2 e2 => q a H2 e2 (hx.ex (e.trans e2))
end XV

set_option Elab.async false
set_option linter.all false
set_option maxRecDepth 100000
set_option maxHeartbeats 4000000
namespace K38
open PySem PySem.Spec PyProof.Rows L2 DK XV
def topS (i : Nat) : Stmt := PySem.Challenge.pw_pricespin_k38_errors.main.body.getD i (.Pass ⟨0, 0, 0, 0⟩)
abbrev s__law_source : Stmt := topS 21
theorem sc__law_source : FnScope ["script", "cells", "k"] ["script"] (defScope s__law_source) := ⟨rfl, rfl, rfl, by decide +kernel, rfl, by decide +kernel, by decide +kernel⟩
abbrev s__law_draw : Stmt := topS 22
theorem sc__law_draw : FnScope ["source", "limit", "cells", "turn", "place", "cell", "number"] ["source", "limit"] (defScope s__law_draw) := ⟨rfl, rfl, rfl, by decide +kernel, rfl, by decide +kernel, by decide +kernel⟩
abbrev s__law_pick : Stmt := topS 23
theorem sc__law_pick : FnScope ["source", "values"] ["source", "values"] (defScope s__law_pick) := ⟨rfl, rfl, rfl, by decide +kernel, rfl, by decide +kernel, by decide +kernel⟩
abbrev s__law_kinds : Stmt := topS 24
theorem sc__law_kinds : FnScope ["e", "found"] ["e"] (defScope s__law_kinds) := ⟨rfl, rfl, rfl, by decide +kernel, rfl, by decide +kernel, by decide +kernel⟩
abbrev s__law_made : Stmt := topS 25
theorem sc__law_made : FnScope ["found"] [] (defScope s__law_made) := ⟨rfl, rfl, rfl, by decide +kernel, rfl, by decide +kernel, by decide +kernel⟩
abbrev s__law_made_with : Stmt := topS 26
theorem sc__law_made_with : FnScope ["word", "found"] ["word"] (defScope s__law_made_with) := ⟨rfl, rfl, rfl, by decide +kernel, rfl, by decide +kernel, by decide +kernel⟩
abbrev s_law : Stmt := topS 27
abbrev N_law : List Str := ["script", "source", "word", "line", "reason", "another", "last", "more", "made", "at", "k"]
theorem sc_law : FnScope ["script", "source", "word", "line", "reason", "another", "last", "more", "made", "at", "k"] ["script"] (defScope s_law) := ⟨rfl, rfl, rfl, by decide +kernel, rfl, by decide +kernel, by decide +kernel⟩
abbrev s_InvalidText_init : Stmt := inClass (topS 9) 0
theorem sc_InvalidText_init : FnScope ["self", "at"] ["self", "at"] (defScope s_InvalidText_init) := ⟨rfl, rfl, rfl, by decide +kernel, rfl, by decide +kernel, by decide +kernel⟩
abbrev s_InvalidLine_init : Stmt := inClass (topS 17) 0
theorem sc_InvalidLine_init : FnScope ["self", "line", "reason"] ["self", "line", "reason"] (defScope s_InvalidLine_init) := ⟨rfl, rfl, rfl, by decide +kernel, rfl, by decide +kernel, by decide +kernel⟩
/-- a class without own __init__, one with -/
structure XCls (K : PySem.W.Frag) (mg : Str → Option Value) (x : Str) where
  C : Addr
  g : mg x = some (.ref C)
  k : PySem.W.keepIn K (.ref C) = true
  q : PySem.W.excIn K C [.type "ValueError", .type "Exception", .type "BaseException", .type "object"] "ValueError.__new__" = true
  xc : XC K C
structure OCls (K : PySem.W.Frag) (mg : Str → Option Value) (x qual : Str) (st : Stmt) (ps : List Str) where
  C : Addr
  g : mg x = some (.ref C)
  T : OexC K C
  fI : Addr
  iC : PySem.W.findIn K (.ref C) "__init__" = some (some (.ref fI))
  tI : PySem.W.typeIn K (.ref fI) = some (.type "function")
  fd : FuncData
  F : Fun K "__init__" qual st fI fd
  b : Binds K fd ps []
  xc : XC K C
structure Top (K : PySem.W.Frag) (mg : Str → Option Value) where
  _law_source : At K mg "_law_source" s__law_source ["script"]
  _law_draw : At K mg "_law_draw" s__law_draw ["source", "limit"]
  _law_pick : At K mg "_law_pick" s__law_pick ["source", "values"]
  _law_kinds : At K mg "_law_kinds" s__law_kinds ["e"]
  _law_made : At K mg "_law_made" s__law_made []
  _law_made_with : At K mg "_law_made_with" s__law_made_with ["word"]
  law : At K mg "law" s_law ["script"]
  x_SpinError : XCls K mg "SpinError"
  x_InvalidTerm : XCls K mg "InvalidTerm"
  x_InvalidRules : XCls K mg "InvalidRules"
  x_InvalidPrices : XCls K mg "InvalidPrices"
  x_InvalidPrice : XCls K mg "InvalidPrice"
  x_InvalidNumber : XCls K mg "InvalidNumber"
  x_InvalidShop : XCls K mg "InvalidShop"
  x_TooMany : XCls K mg "TooMany"
  x_InvalidOrder : XCls K mg "InvalidOrder"
  x_InvalidLog : XCls K mg "InvalidLog"
  x_InvalidLimits : XCls K mg "InvalidLimits"
  x_NotQuiet : XCls K mg "NotQuiet"
  x_NothingToUndo : XCls K mg "NothingToUndo"
  x_NothingToRedo : XCls K mg "NothingToRedo"
  x_UnknownDeed : XCls K mg "UnknownDeed"
  x_InvalidKind : XCls K mg "InvalidKind"
  x_InvalidSeen : XCls K mg "InvalidSeen"
  o_InvalidText : OCls K mg "InvalidText" "InvalidText.__init__" s_InvalidText_init ["self", "at"]
  o_InvalidLine : OCls K mg "InvalidLine" "InvalidLine.__init__" s_InvalidLine_init ["self", "line", "reason"]
  n_len : mg "len" = none
  n_abs : mg "abs" = none
  n_int : mg "int" = none
  n_range : mg "range" = none
  n_isinstance : mg "isinstance" = none
  n_ValueError : mg "ValueError" = none
  nof1 : PySem.W.findIn K (.ref o_InvalidText.C) "at" = some none
  nof2 : PySem.W.findIn K (.ref o_InvalidLine.C) "line" = some none
  nof3 : PySem.W.findIn K (.ref o_InvalidLine.C) "reason" = some none
/-- the kinds' classes, in the law's order -/
def Top.L {K : PySem.W.Frag} {mg : Str → Option Value} (T : Top K mg) : List Addr := [T.x_InvalidTerm.C, T.x_InvalidRules.C, T.x_InvalidPrices.C, T.x_InvalidPrice.C, T.x_InvalidNumber.C, T.x_InvalidShop.C, T.x_TooMany.C, T.x_InvalidOrder.C, T.x_InvalidLog.C, T.x_InvalidLimits.C, T.x_NotQuiet.C, T.x_NothingToUndo.C, T.x_NothingToRedo.C, T.x_UnknownDeed.C, T.x_InvalidKind.C, T.x_InvalidSeen.C, T.o_InvalidText.C, T.o_InvalidLine.C]
/-- _law_kinds(e) -/
def spKinds (K : PySem.W.Frag) (L : List Addr) : Sp := fun vs H Q _ => ∃ (a C : Addr) (fs : List (Str × V)) (b : Nat → Bool), vs = [.ref a] ∧ ExV H a C fs ∧ XC K C ∧
  (∀ (j : Nat) (D : Addr), L[j]? = some D → PySem.W.kitOne K (.ref C) (.ref D) = some (b j)) ∧
  ∀ p H', H p = none → Evl.Ex H H' → H' p = some (.lst ((List.range 18).map fun j => V.bl (b j))) → Q (.ref p) H'
/-- _law_made(), _law_made_with(word) -/
def spMade (L : List Addr) (n : Nat) : Sp := fun vs H Q _ => (∃ v, vs.length = n ∧ (n = 1 → vs = [v])) ∧ ∀ p us H', H p = none → Evl.Ex H H' → H' p = some (.lst us) → XAll H' us ((L.take 16).map fun C => (C, [])) → Q (.ref p) H'
def fText : List V → List (Str × V) | [x] => [("at", x)] | _ => []
def fLine : List V → List (Str × V) | [x, y] => [("reason", y), ("line", x)] | _ => []
section
variable {P : Program} {w : World} {K : PySem.W.Frag} {mg : Str → Option Value} {base : Heap}
theorem ok__law_draw (T : Top K mg) : FnOk P w K mg base CX0 1 T._law_draw.f T._law_draw.fd ["source", "limit"] spDraw := by
  refine T._law_draw.F.ok sc__law_draw (fun vs H Q E h => ?_) (fun cdv A outer s H vs Q E hr h => ?_)
  · obtain ⟨_, _, _, _, rfl, _⟩ := h
    rfl
  obtain ⟨s, c, n, l, rfl, ⟨ne, ks, t, e1, e2, k1, k63, tn⟩, n60, l0, l30, q⟩ := h
  refine ⟨_, (pss_cons (ps_asg (pv 0) (pg_unl rfl (pgs_cons (pg_name (i := 2) sc__law_draw.nd rfl (Or.inl rfl)) (pgs_cons (pg_name (i := 3) sc__law_draw.nd rfl (Or.inl rfl)) pgs_nil))))
      (pss_cons (ps_set (i := 4) sc__law_draw.nd rfl (Or.inl rfl) (pe_op op_mod (pe_callTy call_int1 (by rfl) T.n_int (by decide +kernel) (pa_cons (pv 3) pa_nil)) (pe_callB (r := Evl.rLenS K) call_len_seq (by rfl) T.n_len PySem.boot_len (pa_cons (pv 2) pa_nil))))
      (pss_cons (ps_set (i := 5) sc__law_draw.nd rfl (Or.inl rfl) (pe_ix ix_list (pv 2) (pv 4) (fun _ _ => rfl)))
      (pss_cons (ps_asg (pe_op op_add (pv 3) pe_int) (pg_sub (pv 0) pe_int set_list))
      (pss_cons (ps_if (pt_cmpR op_ge (pv 5) (pe_op op_powW pe_int pe_int) (nomark _)) (pss_cons (ps_asg (pe_op op_fdiv (pv 5) (pv 1)) (pg_sub (pv 2) (pv 4) set_list))
      (pss_one (ps_ret (pe_op op_mod (pe_callTy call_int1 (by rfl) T.n_int (by decide +kernel) (pa_cons (pv 5) pa_nil)) (pv 1))))) pss_nil)
      (pss_cons (ps_set (i := 6) sc__law_draw.nd rfl (Or.inl rfl) (pe_op op_mod (pe_callTy call_int1 (by rfl) T.n_int (by decide +kernel) (pa_cons (pe_op op_add (pe_op op_add (pe_op op_mul (pe_op op_mod (pe_callTy call_int1 (by rfl) T.n_int (by decide +kernel) (pa_cons (pv 5) pa_nil)) pe_int) pe_int) (pe_op op_mul (pe_op op_mul (pv 3) (pv 3)) pe_int)) pe_int) pa_nil)) pe_int))
      (pss_cons (ps_set (i := 6) sc__law_draw.nd rfl (Or.inl rfl) (pe_op op_mod (pe_callTy call_int1 (by rfl) T.n_int (by decide +kernel) (pa_cons (pe_op op_mul (pv 6) (pv 6)) pa_nil)) pe_int))
      (pss_cons (ps_set (i := 6) sc__law_draw.nd rfl (Or.inl rfl) (pe_op op_mod (pe_callTy call_int1 (by rfl) T.n_int (by decide +kernel) (pa_cons (pe_op op_mul (pv 6) (pv 6)) pa_nil)) pe_int))
      (pss_one (ps_ret (pe_op op_mod (pe_callTy call_int1 (by rfl) T.n_int (by decide +kernel) (pa_cons (pv 6) pa_nil)) (pv 1)))))))))))), ?_⟩
  have hk : 0 < ((ks.map V.int).length : Int) := by
    rw [List.length_map]
    omega
  -- cells, turn = source
  refine ⟨_, rfl, s, _, rfl, .inl (.inl e1), rfl, _, _, rfl, _, _, rfl, rfl, ?_⟩
  -- place = int(turn) % len(cells)
  refine ⟨_, rfl, .inl ⟨_, rfl, _, rfl, c, _, rfl, .inl (.inl (.inl e2)), _, _, rfl, rfl, hk, ?_⟩⟩
  have hp1 : 0 ≤ (t : Int) % ((ks.map V.int).length : Int) := Int.emod_nonneg _ (by omega)
  have hp2 : (t : Int) % ((ks.map V.int).length : Int) < ((ks.map V.int).length : Int) := Int.emod_lt_of_pos _ hk
  obtain ⟨j, hj⟩ : ∃ j : Nat, (t : Int) % ((ks.map V.int).length : Int) = (j : Int) := ⟨_, (Int.toNat_of_nonneg hp1).symm⟩
  have hj2 : j < ks.length := by
    rw [hj, List.length_map] at hp2
    omega
  have hat : atI (ks.map V.int) ((t : Int) % ((ks.map V.int).length : Int)) = some (.int ks[j]) := by
    rw [hj]
    exact atI_nat (by rw [List.getElem?_map, List.getElem?_eq_getElem hj2] <;> rfl)
  have hix : ixN (ks.map V.int).length ((t : Int) % ((ks.map V.int).length : Int)) = some j := by
    rw [hj]
    exact Evl.ixN_nat (by rw [List.length_map]; exact hj2)
  -- cell = cells[place]
  refine ⟨_, rfl, _, rfl, c, _, _, _, rfl, rfl, .inl (.inl e2), hat, ?_⟩
  -- source[1] = turn + 1
  refine ⟨_, rfl, _, _, rfl, rfl, _, rfl, s, _, 1, 1, rfl, rfl, e1, rfl, ?_⟩
  have f1 : upd H s (.lst ([V.ref c, .int (t : Int)].set 1 (.int ((t : Int) + 1)))) s = some (.lst [.ref c, .int (((t + 1 : Nat) : Int))]) := by
    rw [upd_same]
    rfl
  have f2 : upd H s (.lst ([V.ref c, .int (t : Int)].set 1 (.int ((t : Int) + 1)))) c = some (.lst (ks.map V.int)) := by
    rw [upd_ne ne]
    exact e2
  have fM : ExM [s, c] H (upd H s (.lst ([V.ref c, .int (t : Int)].set 1 (.int ((t : Int) + 1))))) := ExM.mut (by simp)
  generalize upd H s (.lst ([V.ref c, .int (t : Int)].set 1 (.int ((t : Int) + 1)))) = H1 at f1 f2 fM ⊢
  -- if cell >= 10 ** 18
  refine ⟨_, rfl, 10, 18, rfl, rfl, ⟨by decide, by decide +kernel⟩, _, _, rfl, rfl, _, rfl, ite2 (fun b => ?_) (fun b => ?_)⟩
  · -- cells[place] = cell // limit
    refine ⟨_, rfl, _, rfl, _, _, rfl, rfl, ⟨l0, l30⟩, _, rfl, _, rfl, c, _, _, j, rfl, rfl, f2, hix, ?_⟩
    refine ⟨_, rfl, .inl ⟨_, rfl, _, rfl, _, _, rfl, rfl, l0, ?_⟩⟩
    refine q _ _ (Int.emod_nonneg _ (by omega)) (Int.emod_lt_of_pos _ l0) (fM.trans (ExM.mut (by simp))) ⟨ne, ks.set j (ks[j] / l), t + 1, ?_, ?_, ?_, ?_, by omega⟩
    · rw [upd_ne (Ne.symm ne)]
      exact f1
    · rw [upd_same, List.map_set]
    · rw [List.length_set]
      exact k1
    · rw [List.length_set]
      exact k63
  · have m1 : ∀ (a b : Int), 0 < b → b < 2 ^ 33 → -(2 ^ 64) < a % b ∧ a % b < 2 ^ 64 := fun a b h1 h2 => by
      have := Int.emod_nonneg a (show b ≠ 0 by omega)
      have := Int.emod_lt_of_pos a h1
      omega
    refine ⟨_, rfl, .inl ⟨_, rfl, _, _, rfl, rfl, (show (0 : Int) < 2147483629 by decide), _, _, rfl, rfl, .inr ⟨by decide, by decide⟩, ?_⟩⟩
    refine ⟨_, rfl, _, rfl, _, _, rfl, rfl, .inl ⟨by omega, by omega⟩, _, _, rfl, rfl, .inr ⟨by decide, by decide⟩, _, _, rfl, rfl, _, _, rfl, rfl, .inl ⟨_, rfl, _, _, rfl, rfl, (show (0 : Int) < 2147483647 by decide), ?_⟩⟩
    refine ⟨_, rfl, _, rfl, _, _, rfl, rfl, .inl (m1 _ _ (by decide) (by decide)), .inl ⟨_, rfl, _, _, rfl, rfl, (show (0 : Int) < 2147483629 by decide), ?_⟩⟩
    refine ⟨_, rfl, _, rfl, _, _, rfl, rfl, .inl (m1 _ _ (by decide) (by decide)), .inl ⟨_, rfl, _, _, rfl, rfl, (show (0 : Int) < 2147483587 by decide), ?_⟩⟩
    refine ⟨_, rfl, .inl ⟨_, rfl, _, rfl, _, _, rfl, rfl, l0, ?_⟩⟩
    exact q _ _ (Int.emod_nonneg _ (by omega)) (Int.emod_lt_of_pos _ l0) fM ⟨ne, ks, t + 1, f1, f2, k1, k63, by omega⟩
theorem ok__law_source (T : Top K mg) : FnOk P w K mg base CX0 1 T._law_source.f T._law_source.fd ["script"] (spSource K) := by
  refine T._law_source.F.ok sc__law_source (fun vs H Q E h => ?_) (fun cdv A outer s H vs Q E hr h => ?_)
  · obtain ⟨_, _, rfl, _⟩ := h
    rfl
  obtain ⟨a, ns, rfl, hS, h63, q⟩ := h
  refine ⟨_, (pss_cons (ps_set (i := 1) sc__law_source.nd rfl (Or.inl rfl) (pe_slice sl_list (pv 0) po_none (po_some pe_int)))
      (pss_cons (ps_for PassesOwn.never rfl (pi_range1 (by rfl) T.n_range (pa_cons (pe_callB (r := Evl.rLenS K) call_len_seq (by rfl) T.n_len PySem.boot_len (pa_cons (pv 1) pa_nil)) pa_nil)) (pg_name (i := 2) sc__law_source.nd rfl (Or.inl rfl)) (pss_one (ps_if (pt_cmpR op_ge (pe_callB call_abs (by rfl) T.n_abs (by decide +kernel) (pa_cons (pe_ix ix_list (pv 1) (pv 2) (fun _ _ => rfl)) pa_nil)) (pe_op op_powW pe_int pe_int) (nomark _)) (pss_one (ps_asg (pe_op op_mod (pe_callTy call_int1 (by rfl) T.n_int (by decide +kernel) (pa_cons (pe_ix ix_list (pv 1) (pv 2) (fun _ _ => rfl)) pa_nil)) (pe_op op_powW (pe_op op_powW pe_int pe_int) pe_int)) (pg_sub (pv 1) (pv 2) set_list))) pss_nil)))
      (pss_cons (ps_if (pt_cmpR (op_eqD (hu64 hr)) (pv 1) (pe_lst pa_nil) (nomark _)) (pss_one (ps_set (i := 1) sc__law_source.nd rfl (Or.inl rfl) (pe_lst (pa_cons pe_int pa_nil)))) pss_nil)
      (pss_one (ps_ret (pe_lst (pa_cons (pv 1) (pa_cons pe_int pa_nil)))))))), ?_⟩
  -- cells = script[:63]
  refine ⟨_, rfl, 63, rfl, a, _, rfl, hS, fun p hp => ?_⟩
  have hcut : cutV (ns.map V.int) none (some 63) = (ns.take 63).map V.int := by
    unfold cutV
    rw [HT.sIx_none, show HT.sIx (ns.map V.int).length (ns.map V.int).length (some 63) = min 63 (ns.map V.int).length from HT.sIx_nat _ _ 63, List.length_map, Nat.min_eq_right h63, List.drop_zero, Nat.sub_zero, List.take_of_length_le (by rw [List.length_map]; omega), List.take_of_length_le h63]
  rw [hcut]
  have e0 : Evl.Ex H (upd H p (.lst ((ns.take 63).map V.int))) := Evl.Ex.new hp
  have hl0 : (ns.take 63).length ≤ 63 := List.length_take_le _ _
  have at0 : upd H p (.lst ((ns.take 63).map V.int)) p = some (.lst ((ns.take 63).map V.int)) := upd_same
  generalize upd H p (.lst ((ns.take 63).map V.int)) = H0 at e0 at0
  generalize ns.take 63 = ms at hl0 at0
  -- for k in range(len(cells))
  refine ⟨.ref p, rfl, p, _, rfl, .inl (.inl (.inl at0)), _, rfl, by rw [List.length_map]; omega, by rw [List.length_map]; omega, for_range (lo := 0) (n := ((((ms.map V.int).length : Nat) : Int)).toNat) (fun _ σ H' => ∃ (y2 : Option V) (ks : List Int), σ = [some (.ref a), some (.ref p), y2] ∧ ks.length = ms.length ∧ Evl.Ex H H' ∧ H' p = some (.lst (ks.map V.int))) ⟨none, ms, rfl, rfl, e0, at0⟩ (fun i σ H' hi hW => ?_) (fun σ H' hW => ?_)⟩
  · obtain ⟨y2, ks, rfl, hk, hE, hP⟩ := hW
    rw [Int.toNat_natCast, List.length_map, ← hk] at hi
    have hat : atI (ks.map V.int) ((0 : Int) + (i : Int)) = some (.int ks[i]) := by
      rw [Int.zero_add]
      exact atI_nat (by rw [List.getElem?_map, List.getElem?_eq_getElem hi] <;> rfl)
    have hix : ixN (ks.map V.int).length ((0 : Int) + (i : Int)) = some i := by
      rw [Int.zero_add]
      exact Evl.ixN_nat (by rw [List.length_map]; exact hi)
    refine ⟨.ref p, rfl, _, rfl, p, _, _, _, rfl, rfl, .inl (.inl hP), hat, _, rfl, 10, 18, rfl, rfl, ⟨by decide, by decide +kernel⟩, _, _, rfl, rfl, _, rfl, ite2 (fun _ => ?_) (fun _ => ?_)⟩
    · refine ⟨.ref p, rfl, _, rfl, p, _, _, _, rfl, rfl, .inl (.inl hP), hat, .inl ⟨_, rfl, 10, 60, rfl, rfl, ⟨by decide, by decide +kernel⟩, _, 20, rfl, rfl, ⟨by decide, by decide +kernel⟩, _, _, rfl, rfl, (show (0 : Int) < (10 ^ (60 : Int).toNat) ^ (20 : Int).toNat by decide +kernel), .ref p, rfl, _, rfl, p, _, _, i, rfl, rfl, hP, hix, ?_⟩⟩
      refine ⟨_, ks.set i (ks[i] % ((10 ^ (60 : Int).toNat) ^ (20 : Int).toNat)), rfl, by rw [List.length_set]; exact hk, hE.mut hp, ?_⟩
      rw [upd_same, List.map_set]
    · exact ⟨_, ks, rfl, hk, hE, hP⟩
  · obtain ⟨y2, ks, rfl, hk, hE, hP⟩ := hW
    -- if cells == []
    refine ⟨.ref p, rfl, by decide, fun r hr0 => ?_⟩
    have hP1 : upd H' r (.lst []) p = some (.lst (ks.map V.int)) := by
      rw [upd_ne (ne_of_none hP hr0)]
      exact hP
    have hE1 : Evl.Ex H (upd H' r (.lst [])) := hE.trans (Evl.Ex.new hr0)
    have hlen : ks.length ≤ 63 := by omega
    generalize hH1 : upd H' r (.lst []) = H1 at hP1 hE1
    have hR1 : H1 r = some (.lst []) := by
      rw [← hH1]
      exact upd_same
    have dpI : ∀ l : List Int, DpAll K H1 (l.map V.int) (l.map PyData.int) := fun l => by
      induction l with
      | nil => exact .nil
      | cons x l ih => exact .cons (.int x) ih
    refine ⟨_, _, .lst (.inl (.inl hP1)) (dpI ks), .lst (.inl (.inl hR1)) .nil, ?_, by decide, _, rfl, ite2 (fun b => ?_) (fun b => ?_)⟩
    · exact PySem.W.ke_shaped_ints ks
    · -- cells = [0]
      refine ⟨by decide, fun p2 hp2 => ?_⟩
      refine ⟨_, rfl, (show 2 ≤ sizeLine by decide), fun s hs => ?_⟩
      have n1 : p2 ≠ s := ne_of_none upd_same hs
      refine q s p2 _ ((hE1.trans (Evl.Ex.new hp2)).trans (Evl.Ex.new hs)) (Evl.fresh_back (hE1.trans (Evl.Ex.new hp2)) hs) (Evl.fresh_back hE1 hp2) ⟨n1, [0], 0, upd_same, ?_, by decide, by decide, Nat.le_refl _⟩
      rw [upd_ne n1, upd_same]
      rfl
    · refine ⟨_, rfl, (show 2 ≤ sizeLine by decide), fun s hs => ?_⟩
      have n1 : p ≠ s := ne_of_none hP1 hs
      have hks : 1 ≤ ks.length := by
        cases ks with
        | nil => exact absurd rfl b
        | cons x l => exact Nat.succ_le_succ (Nat.zero_le _)
      refine q s p _ (hE1.trans (Evl.Ex.new hs)) (Evl.fresh_back hE1 hs) hp ⟨n1, ks, 0, upd_same, ?_, hks, hlen, Nat.le_refl _⟩
      rw [upd_ne n1]
      exact hP1
theorem ok__law_pick (T : Top K mg) : FnOk P w K mg base CX0 2 T._law_pick.f T._law_pick.fd ["source", "values"] (spPick K) := by
  refine T._law_pick.F.ok sc__law_pick (fun vs H Q E h => ?_) (fun cdv A outer s H vs Q E hr h => ?_)
  · obtain ⟨_, _, _, _, _, rfl, _⟩ := h
    rfl
  obtain ⟨s, c, p, n, xs, rfl, S, n60, hX, n1, n2, x1, x2, q⟩ := h
  refine ⟨_, (pss_one (ps_ret (pe_ix ix_list (pv 1) (pe_call (ok__law_draw T) (hr.mono (by omega)) (by rfl) T._law_draw.g T._law_draw.F.kp T._law_draw.b .nil pass0 (pa_cons (pv 0) (pa_cons (pe_callB (r := Evl.rLenS K) call_len_seq (by rfl) T.n_len PySem.boot_len (pa_cons (pv 1) pa_nil)) pa_nil))) (fun _ _ => rfl)))), ?_⟩
  refine ⟨_, rfl, _, rfl, _, rfl, p, _, rfl, .inl hX, s, c, n, _, rfl, S, n60, by omega, by omega, fun d H' d0 d1 e S' => ?_⟩
  obtain ⟨j, rfl⟩ : ∃ j : Nat, d = (j : Int) := ⟨_, (Int.toNat_of_nonneg d0).symm⟩
  have hj : j < xs.length := by omega
  refine ⟨p, xs, _, xs[j], rfl, rfl, sqm e (by simp [n1, n2]) hX, atI_nat (List.getElem?_eq_getElem hj), q _ H' (List.getElem_mem hj) e S'⟩
theorem ok__law_kinds (T : Top K mg) : FnOk P w K mg base CX0 1 T._law_kinds.f T._law_kinds.fd ["e"] (spKinds K T.L) := by
  refine T._law_kinds.F.ok sc__law_kinds (fun vs H Q E h => ?_) (fun cdv A outer s H vs Q E hr h => ?_)
  · obtain ⟨_, _, _, _, rfl, _⟩ := h
    rfl
  obtain ⟨a, C, fs, b, rfl, hx, xc, hk, q⟩ := h
  refine ⟨_, (pss_cons (ps_set (i := 1) sc__law_kinds.nd rfl (Or.inl rfl) (pe_lst (pa_cons (pe_callB call_isX (by rfl) T.n_isinstance (by decide +kernel) (pa_cons (pv 0) (pa_cons (pe_glob (v := .ref T.x_InvalidTerm.C) rfl T.x_InvalidTerm.g rfl) pa_nil))) (pa_cons (pe_callB call_isX (by rfl) T.n_isinstance (by decide +kernel) (pa_cons (pv 0) (pa_cons (pe_glob (v := .ref T.x_InvalidRules.C) rfl T.x_InvalidRules.g rfl) pa_nil))) (pa_cons (pe_callB call_isX (by rfl) T.n_isinstance (by decide +kernel) (pa_cons (pv 0) (pa_cons (pe_glob (v := .ref T.x_InvalidPrices.C) rfl T.x_InvalidPrices.g rfl) pa_nil))) pa_nil)))))
      (pss_cons (ps_set (i := 1) sc__law_kinds.nd rfl (Or.inl rfl) (pe_op op_cat (pv 1) (pe_lst (pa_cons (pe_callB call_isX (by rfl) T.n_isinstance (by decide +kernel) (pa_cons (pv 0) (pa_cons (pe_glob (v := .ref T.x_InvalidPrice.C) rfl T.x_InvalidPrice.g rfl) pa_nil))) (pa_cons (pe_callB call_isX (by rfl) T.n_isinstance (by decide +kernel) (pa_cons (pv 0) (pa_cons (pe_glob (v := .ref T.x_InvalidNumber.C) rfl T.x_InvalidNumber.g rfl) pa_nil))) pa_nil)))))
      (pss_cons (ps_set (i := 1) sc__law_kinds.nd rfl (Or.inl rfl) (pe_op op_cat (pv 1) (pe_lst (pa_cons (pe_callB call_isX (by rfl) T.n_isinstance (by decide +kernel) (pa_cons (pv 0) (pa_cons (pe_glob (v := .ref T.x_InvalidShop.C) rfl T.x_InvalidShop.g rfl) pa_nil))) (pa_cons (pe_callB call_isX (by rfl) T.n_isinstance (by decide +kernel) (pa_cons (pv 0) (pa_cons (pe_glob (v := .ref T.x_TooMany.C) rfl T.x_TooMany.g rfl) pa_nil))) pa_nil)))))
      (pss_cons (ps_set (i := 1) sc__law_kinds.nd rfl (Or.inl rfl) (pe_op op_cat (pv 1) (pe_lst (pa_cons (pe_callB call_isX (by rfl) T.n_isinstance (by decide +kernel) (pa_cons (pv 0) (pa_cons (pe_glob (v := .ref T.x_InvalidOrder.C) rfl T.x_InvalidOrder.g rfl) pa_nil))) (pa_cons (pe_callB call_isX (by rfl) T.n_isinstance (by decide +kernel) (pa_cons (pv 0) (pa_cons (pe_glob (v := .ref T.x_InvalidLog.C) rfl T.x_InvalidLog.g rfl) pa_nil))) pa_nil)))))
      (pss_cons (ps_set (i := 1) sc__law_kinds.nd rfl (Or.inl rfl) (pe_op op_cat (pv 1) (pe_lst (pa_cons (pe_callB call_isX (by rfl) T.n_isinstance (by decide +kernel) (pa_cons (pv 0) (pa_cons (pe_glob (v := .ref T.x_InvalidLimits.C) rfl T.x_InvalidLimits.g rfl) pa_nil))) (pa_cons (pe_callB call_isX (by rfl) T.n_isinstance (by decide +kernel) (pa_cons (pv 0) (pa_cons (pe_glob (v := .ref T.x_NotQuiet.C) rfl T.x_NotQuiet.g rfl) pa_nil))) pa_nil)))))
      (pss_cons (ps_set (i := 1) sc__law_kinds.nd rfl (Or.inl rfl) (pe_op op_cat (pv 1) (pe_lst (pa_cons (pe_callB call_isX (by rfl) T.n_isinstance (by decide +kernel) (pa_cons (pv 0) (pa_cons (pe_glob (v := .ref T.x_NothingToUndo.C) rfl T.x_NothingToUndo.g rfl) pa_nil))) (pa_cons (pe_callB call_isX (by rfl) T.n_isinstance (by decide +kernel) (pa_cons (pv 0) (pa_cons (pe_glob (v := .ref T.x_NothingToRedo.C) rfl T.x_NothingToRedo.g rfl) pa_nil))) pa_nil)))))
      (pss_cons (ps_set (i := 1) sc__law_kinds.nd rfl (Or.inl rfl) (pe_op op_cat (pv 1) (pe_lst (pa_cons (pe_callB call_isX (by rfl) T.n_isinstance (by decide +kernel) (pa_cons (pv 0) (pa_cons (pe_glob (v := .ref T.x_UnknownDeed.C) rfl T.x_UnknownDeed.g rfl) pa_nil))) (pa_cons (pe_callB call_isX (by rfl) T.n_isinstance (by decide +kernel) (pa_cons (pv 0) (pa_cons (pe_glob (v := .ref T.x_InvalidKind.C) rfl T.x_InvalidKind.g rfl) pa_nil))) pa_nil)))))
      (pss_cons (ps_set (i := 1) sc__law_kinds.nd rfl (Or.inl rfl) (pe_op op_cat (pv 1) (pe_lst (pa_cons (pe_callB call_isX (by rfl) T.n_isinstance (by decide +kernel) (pa_cons (pv 0) (pa_cons (pe_glob (v := .ref T.x_InvalidSeen.C) rfl T.x_InvalidSeen.g rfl) pa_nil))) (pa_cons (pe_callB call_isX (by rfl) T.n_isinstance (by decide +kernel) (pa_cons (pv 0) (pa_cons (pe_glob (v := .ref T.o_InvalidText.C) rfl T.o_InvalidText.g rfl) pa_nil))) pa_nil)))))
      (pss_cons (ps_set (i := 1) sc__law_kinds.nd rfl (Or.inl rfl) (pe_op op_cat (pv 1) (pe_lst (pa_cons (pe_callB call_isX (by rfl) T.n_isinstance (by decide +kernel) (pa_cons (pv 0) (pa_cons (pe_glob (v := .ref T.o_InvalidLine.C) rfl T.o_InvalidLine.g rfl) pa_nil))) pa_nil))))
      (pss_one (ps_ret (pv 1)))))))))))), ?_⟩
  have I2 : ∀ (j : Nat) (D : Addr), T.L[j]? = some D → ∀ (σ : L2.St) (H1 : Hp), (σ[0]? = some (some (.ref a)) ∧ Evl.Ex H H1) → Evl.Ev (tCB (rIsX K) (tCons (tVar 0) (tCons (tC (.ref D)) tNil))) σ H1 (.bl (b j)) :=
    fun j D hD σ H1 e => ev_isX (Evl.ev_var e.1) (hx.ex e.2) xc (.own D) (hk j D hD)
  have e : (([some (.ref a), none] : L2.St)[0]? = some (some (.ref a)) ∧ Evl.Ex H H) := ⟨rfl, Evl.Ex.refl H⟩
  refine Evl.q_asgL (Evl.el_lst (Evl.ea_cons (I2 0 T.x_InvalidTerm.C rfl _ _ e) (Evl.ea_cons (I2 1 T.x_InvalidRules.C rfl _ _ e) (Evl.ea_cons (I2 2 T.x_InvalidPrices.C rfl _ _ e) Evl.ea_nil))) (by simp)) fun p H1 n1 x1 h1 => ?_
  replace e : (([some (.ref a), some (.ref p)] : L2.St)[0]? = some (some (.ref a)) ∧ Evl.Ex H H1) := ⟨rfl, x1⟩
  refine Evl.q_asgL (el_cat (Evl.ev_var rfl) h1 (Evl.el_lst (Evl.ea_cons (I2 3 T.x_InvalidPrice.C rfl _ _ e) (Evl.ea_cons (I2 4 T.x_InvalidNumber.C rfl _ _ e) Evl.ea_nil)) (by simp)) (by simp)) fun p H2 n2 x2 h2 => ?_
  have y1 : Evl.Ex H H1 := x1
  replace e : (([some (.ref a), some (.ref p)] : L2.St)[0]? = some (some (.ref a)) ∧ Evl.Ex H H2) := ⟨rfl, y1.trans x2⟩
  refine Evl.q_asgL (el_cat (Evl.ev_var rfl) h2 (Evl.el_lst (Evl.ea_cons (I2 5 T.x_InvalidShop.C rfl _ _ e) (Evl.ea_cons (I2 6 T.x_TooMany.C rfl _ _ e) Evl.ea_nil)) (by simp)) (by simp)) fun p H3 n3 x3 h3 => ?_
  have y2 : Evl.Ex H H2 := y1.trans x2
  replace e : (([some (.ref a), some (.ref p)] : L2.St)[0]? = some (some (.ref a)) ∧ Evl.Ex H H3) := ⟨rfl, y2.trans x3⟩
  refine Evl.q_asgL (el_cat (Evl.ev_var rfl) h3 (Evl.el_lst (Evl.ea_cons (I2 7 T.x_InvalidOrder.C rfl _ _ e) (Evl.ea_cons (I2 8 T.x_InvalidLog.C rfl _ _ e) Evl.ea_nil)) (by simp)) (by simp)) fun p H4 n4 x4 h4 => ?_
  have y3 : Evl.Ex H H3 := y2.trans x3
  replace e : (([some (.ref a), some (.ref p)] : L2.St)[0]? = some (some (.ref a)) ∧ Evl.Ex H H4) := ⟨rfl, y3.trans x4⟩
  refine Evl.q_asgL (el_cat (Evl.ev_var rfl) h4 (Evl.el_lst (Evl.ea_cons (I2 9 T.x_InvalidLimits.C rfl _ _ e) (Evl.ea_cons (I2 10 T.x_NotQuiet.C rfl _ _ e) Evl.ea_nil)) (by simp)) (by simp)) fun p H5 n5 x5 h5 => ?_
  have y4 : Evl.Ex H H4 := y3.trans x4
  replace e : (([some (.ref a), some (.ref p)] : L2.St)[0]? = some (some (.ref a)) ∧ Evl.Ex H H5) := ⟨rfl, y4.trans x5⟩
  refine Evl.q_asgL (el_cat (Evl.ev_var rfl) h5 (Evl.el_lst (Evl.ea_cons (I2 11 T.x_NothingToUndo.C rfl _ _ e) (Evl.ea_cons (I2 12 T.x_NothingToRedo.C rfl _ _ e) Evl.ea_nil)) (by simp)) (by simp)) fun p H6 n6 x6 h6 => ?_
  have y5 : Evl.Ex H H5 := y4.trans x5
  replace e : (([some (.ref a), some (.ref p)] : L2.St)[0]? = some (some (.ref a)) ∧ Evl.Ex H H6) := ⟨rfl, y5.trans x6⟩
  refine Evl.q_asgL (el_cat (Evl.ev_var rfl) h6 (Evl.el_lst (Evl.ea_cons (I2 13 T.x_UnknownDeed.C rfl _ _ e) (Evl.ea_cons (I2 14 T.x_InvalidKind.C rfl _ _ e) Evl.ea_nil)) (by simp)) (by simp)) fun p H7 n7 x7 h7 => ?_
  have y6 : Evl.Ex H H6 := y5.trans x6
  replace e : (([some (.ref a), some (.ref p)] : L2.St)[0]? = some (some (.ref a)) ∧ Evl.Ex H H7) := ⟨rfl, y6.trans x7⟩
  refine Evl.q_asgL (el_cat (Evl.ev_var rfl) h7 (Evl.el_lst (Evl.ea_cons (I2 15 T.x_InvalidSeen.C rfl _ _ e) (Evl.ea_cons (I2 16 T.o_InvalidText.C rfl _ _ e) Evl.ea_nil)) (by simp)) (by simp)) fun p H8 n8 x8 h8 => ?_
  have y7 : Evl.Ex H H7 := y6.trans x7
  replace e : (([some (.ref a), some (.ref p)] : L2.St)[0]? = some (some (.ref a)) ∧ Evl.Ex H H8) := ⟨rfl, y7.trans x8⟩
  refine Evl.q_asgL (el_cat (Evl.ev_var rfl) h8 (Evl.el_lst (Evl.ea_cons (I2 17 T.o_InvalidLine.C rfl _ _ e) Evl.ea_nil) (by simp)) (by simp)) fun p H9 n9 x9 h9 => ?_
  have y8 : Evl.Ex H H8 := y7.trans x8
  have y9 : Evl.Ex H H9 := y8.trans x9
  refine Evl.s_ret (Evl.ev_var rfl) fun H10 x10 => ?_
  exact q p H10 (Evl.fresh_back y8 n9) (y9.trans x10) (x10 _ _ h9)
theorem ok__law_made (T : Top K mg) : FnOk P w K mg base CX0 1 T._law_made.f T._law_made.fd [] (spMade T.L 0) := by
  refine T._law_made.F.ok sc__law_made (fun vs H Q E h => ?_) (fun cdv A outer s H vs Q E hr h => ?_)
  · obtain ⟨⟨_, h, _⟩, _⟩ := h
    exact h
  obtain ⟨⟨_, h, _⟩, q⟩ := h
  cases vs with
  | cons _ _ => exact absurd h (by simp)
  | nil => ?_
  refine ⟨_, (pss_cons (ps_set (i := 0) sc__law_made.nd rfl (Or.inl rfl) (pe_lst (pa_cons (pe_exc0 F.excBase_ValueError T.x_InvalidTerm.q T.x_InvalidTerm.g T.x_InvalidTerm.k (by rfl)) (pa_cons (pe_exc0 F.excBase_ValueError T.x_InvalidRules.q T.x_InvalidRules.g T.x_InvalidRules.k (by rfl)) (pa_cons (pe_exc0 F.excBase_ValueError T.x_InvalidPrices.q T.x_InvalidPrices.g T.x_InvalidPrices.k (by rfl)) (pa_cons (pe_exc0 F.excBase_ValueError T.x_InvalidPrice.q T.x_InvalidPrice.g T.x_InvalidPrice.k (by rfl)) (pa_cons (pe_exc0 F.excBase_ValueError T.x_InvalidNumber.q T.x_InvalidNumber.g T.x_InvalidNumber.k (by rfl)) pa_nil)))))))
      (pss_cons (ps_set (i := 0) sc__law_made.nd rfl (Or.inl rfl) (pe_op op_cat (pv 0) (pe_lst (pa_cons (pe_exc0 F.excBase_ValueError T.x_InvalidShop.q T.x_InvalidShop.g T.x_InvalidShop.k (by rfl)) (pa_cons (pe_exc0 F.excBase_ValueError T.x_TooMany.q T.x_TooMany.g T.x_TooMany.k (by rfl)) (pa_cons (pe_exc0 F.excBase_ValueError T.x_InvalidOrder.q T.x_InvalidOrder.g T.x_InvalidOrder.k (by rfl)) (pa_cons (pe_exc0 F.excBase_ValueError T.x_InvalidLog.q T.x_InvalidLog.g T.x_InvalidLog.k (by rfl)) (pa_cons (pe_exc0 F.excBase_ValueError T.x_InvalidLimits.q T.x_InvalidLimits.g T.x_InvalidLimits.k (by rfl)) pa_nil))))))))
      (pss_cons (ps_set (i := 0) sc__law_made.nd rfl (Or.inl rfl) (pe_op op_cat (pv 0) (pe_lst (pa_cons (pe_exc0 F.excBase_ValueError T.x_NotQuiet.q T.x_NotQuiet.g T.x_NotQuiet.k (by rfl)) (pa_cons (pe_exc0 F.excBase_ValueError T.x_NothingToUndo.q T.x_NothingToUndo.g T.x_NothingToUndo.k (by rfl)) (pa_cons (pe_exc0 F.excBase_ValueError T.x_NothingToRedo.q T.x_NothingToRedo.g T.x_NothingToRedo.k (by rfl)) (pa_cons (pe_exc0 F.excBase_ValueError T.x_UnknownDeed.q T.x_UnknownDeed.g T.x_UnknownDeed.k (by rfl)) (pa_cons (pe_exc0 F.excBase_ValueError T.x_InvalidKind.q T.x_InvalidKind.g T.x_InvalidKind.k (by rfl)) pa_nil))))))))
      (pss_cons (ps_set (i := 0) sc__law_made.nd rfl (Or.inl rfl) (pe_op op_cat (pv 0) (pe_lst (pa_cons (pe_exc0 F.excBase_ValueError T.x_InvalidSeen.q T.x_InvalidSeen.g T.x_InvalidSeen.k (by rfl)) pa_nil))))
      (pss_one (ps_ret (pv 0))))))), ?_⟩
  refine q_asgX (lx_lst (ax_cons ex_exc0 (ax_cons ex_exc0 (ax_cons ex_exc0 (ax_cons ex_exc0 (ax_cons ex_exc0 ax_nil))))) (by simp)) fun p us H1 n1 e1 h1 z1 => ?_
  refine q_asgX (lx_cat (Evl.ev_var rfl) h1 z1 (lx_lst (ax_cons ex_exc0 (ax_cons ex_exc0 (ax_cons ex_exc0 (ax_cons ex_exc0 (ax_cons ex_exc0 ax_nil))))) (by simp)) (by simp)) fun p us H2 n2 e2 h2 z2 => ?_
  refine q_asgX (lx_cat (Evl.ev_var rfl) h2 z2 (lx_lst (ax_cons ex_exc0 (ax_cons ex_exc0 (ax_cons ex_exc0 (ax_cons ex_exc0 (ax_cons ex_exc0 ax_nil))))) (by simp)) (by simp)) fun p us H3 n3 e3 h3 z3 => ?_
  refine q_asgX (lx_cat (Evl.ev_var rfl) h3 z3 (lx_lst (ax_cons ex_exc0 ax_nil) (by simp)) (by simp)) fun p us H4 n4 e4 h4 z4 => ?_
  refine Evl.s_ret (Evl.ev_var rfl) fun H' e' => ?_
  exact q p us H' (Evl.fresh_back ((e1.trans e2).trans e3) n4) (((((e1).trans e2).trans e3).trans e4).trans e') (e' _ _ h4) (z4.ex e')
theorem ok__law_made_with (T : Top K mg) : FnOk P w K mg base CX0 1 T._law_made_with.f T._law_made_with.fd ["word"] (spMade T.L 1) := by
  refine T._law_made_with.F.ok sc__law_made_with (fun vs H Q E h => ?_) (fun cdv A outer s H vs Q E hr h => ?_)
  · obtain ⟨⟨_, h, _⟩, _⟩ := h
    exact h
  obtain ⟨⟨v, _, h⟩, q⟩ := h
  obtain rfl := h rfl
  refine ⟨_, (pss_cons (ps_set (i := 1) sc__law_made_with.nd rfl (Or.inl rfl) (pe_lst (pa_cons (pe_exc1 F.excBase_ValueError T.x_InvalidTerm.q T.x_InvalidTerm.g T.x_InvalidTerm.k (by rfl) (pv 0)) (pa_cons (pe_exc1 F.excBase_ValueError T.x_InvalidRules.q T.x_InvalidRules.g T.x_InvalidRules.k (by rfl) (pv 0)) (pa_cons (pe_exc1 F.excBase_ValueError T.x_InvalidPrices.q T.x_InvalidPrices.g T.x_InvalidPrices.k (by rfl) (pv 0)) (pa_cons (pe_exc1 F.excBase_ValueError T.x_InvalidPrice.q T.x_InvalidPrice.g T.x_InvalidPrice.k (by rfl) (pv 0)) pa_nil))))))
      (pss_cons (ps_set (i := 1) sc__law_made_with.nd rfl (Or.inl rfl) (pe_op op_cat (pv 1) (pe_lst (pa_cons (pe_exc1 F.excBase_ValueError T.x_InvalidNumber.q T.x_InvalidNumber.g T.x_InvalidNumber.k (by rfl) (pv 0)) (pa_cons (pe_exc1 F.excBase_ValueError T.x_InvalidShop.q T.x_InvalidShop.g T.x_InvalidShop.k (by rfl) (pv 0)) (pa_cons (pe_exc1 F.excBase_ValueError T.x_TooMany.q T.x_TooMany.g T.x_TooMany.k (by rfl) (pv 0)) (pa_cons (pe_exc1 F.excBase_ValueError T.x_InvalidOrder.q T.x_InvalidOrder.g T.x_InvalidOrder.k (by rfl) (pv 0)) pa_nil)))))))
      (pss_cons (ps_set (i := 1) sc__law_made_with.nd rfl (Or.inl rfl) (pe_op op_cat (pv 1) (pe_lst (pa_cons (pe_exc1 F.excBase_ValueError T.x_InvalidLog.q T.x_InvalidLog.g T.x_InvalidLog.k (by rfl) (pv 0)) (pa_cons (pe_exc1 F.excBase_ValueError T.x_InvalidLimits.q T.x_InvalidLimits.g T.x_InvalidLimits.k (by rfl) (pv 0)) (pa_cons (pe_exc1 F.excBase_ValueError T.x_NotQuiet.q T.x_NotQuiet.g T.x_NotQuiet.k (by rfl) (pv 0)) (pa_cons (pe_exc1 F.excBase_ValueError T.x_NothingToUndo.q T.x_NothingToUndo.g T.x_NothingToUndo.k (by rfl) (pv 0)) pa_nil)))))))
      (pss_cons (ps_set (i := 1) sc__law_made_with.nd rfl (Or.inl rfl) (pe_op op_cat (pv 1) (pe_lst (pa_cons (pe_exc1 F.excBase_ValueError T.x_NothingToRedo.q T.x_NothingToRedo.g T.x_NothingToRedo.k (by rfl) (pv 0)) (pa_cons (pe_exc1 F.excBase_ValueError T.x_UnknownDeed.q T.x_UnknownDeed.g T.x_UnknownDeed.k (by rfl) (pv 0)) (pa_cons (pe_exc1 F.excBase_ValueError T.x_InvalidKind.q T.x_InvalidKind.g T.x_InvalidKind.k (by rfl) (pv 0)) (pa_cons (pe_exc1 F.excBase_ValueError T.x_InvalidSeen.q T.x_InvalidSeen.g T.x_InvalidSeen.k (by rfl) (pv 0)) pa_nil)))))))
      (pss_one (ps_ret (pv 1))))))), ?_⟩
  refine q_asgX (lx_lst (ax_cons (ex_exc1 (Evl.ev_var rfl)) (ax_cons (ex_exc1 (Evl.ev_var rfl)) (ax_cons (ex_exc1 (Evl.ev_var rfl)) (ax_cons (ex_exc1 (Evl.ev_var rfl)) ax_nil)))) (by simp)) fun p us H1 n1 e1 h1 z1 => ?_
  refine q_asgX (lx_cat (Evl.ev_var rfl) h1 z1 (lx_lst (ax_cons (ex_exc1 (Evl.ev_var rfl)) (ax_cons (ex_exc1 (Evl.ev_var rfl)) (ax_cons (ex_exc1 (Evl.ev_var rfl)) (ax_cons (ex_exc1 (Evl.ev_var rfl)) ax_nil)))) (by simp)) (by simp)) fun p us H2 n2 e2 h2 z2 => ?_
  refine q_asgX (lx_cat (Evl.ev_var rfl) h2 z2 (lx_lst (ax_cons (ex_exc1 (Evl.ev_var rfl)) (ax_cons (ex_exc1 (Evl.ev_var rfl)) (ax_cons (ex_exc1 (Evl.ev_var rfl)) (ax_cons (ex_exc1 (Evl.ev_var rfl)) ax_nil)))) (by simp)) (by simp)) fun p us H3 n3 e3 h3 z3 => ?_
  refine q_asgX (lx_cat (Evl.ev_var rfl) h3 z3 (lx_lst (ax_cons (ex_exc1 (Evl.ev_var rfl)) (ax_cons (ex_exc1 (Evl.ev_var rfl)) (ax_cons (ex_exc1 (Evl.ev_var rfl)) (ax_cons (ex_exc1 (Evl.ev_var rfl)) ax_nil)))) (by simp)) (by simp)) fun p us H4 n4 e4 h4 z4 => ?_
  refine Evl.s_ret (Evl.ev_var rfl) fun H' e' => ?_
  exact q p us H' (Evl.fresh_back ((e1.trans e2).trans e3) n4) (((((e1).trans e2).trans e3).trans e4).trans e') (e' _ _ h4) (z4.ex e')
theorem ok_InvalidText (T : Top K mg) : FnOk P w K mg base CX0 1 T.o_InvalidText.fI T.o_InvalidText.fd ["self", "at"] (spInit T.o_InvalidText.C 1 fText) := by
  refine T.o_InvalidText.F.ok sc_InvalidText_init (fun vs H Q E h => ?_) (fun cdv A outer s H vs Q E hr h => ?_)
  · obtain ⟨a, xs, rfl, h, _⟩ := h
    simp [h]
  obtain ⟨a, xs, rfl, hl, ha, q⟩ := h
  match xs, hl with
  | [x], _ =>
    refine ⟨_, (pss_one (ps_ost (pv 0) (pv 1))), ?_⟩
    refine ⟨_, rfl, _, rfl, a, _, rfl, T.o_InvalidText.T, T.nof1, .inl ⟨ha, fun d hd hda => ?_⟩⟩
    exact q d _ hd hda (fun b n1 n2 => by rw [upd_ne n1, upd_ne n2]) upd_same (by rw [upd_ne hda, upd_same] <;> rfl)
theorem ok_InvalidLine (T : Top K mg) : FnOk P w K mg base CX0 1 T.o_InvalidLine.fI T.o_InvalidLine.fd ["self", "line", "reason"] (spInit T.o_InvalidLine.C 2 fLine) := by
  refine T.o_InvalidLine.F.ok sc_InvalidLine_init (fun vs H Q E h => ?_) (fun cdv A outer s H vs Q E hr h => ?_)
  · obtain ⟨a, xs, rfl, h, _⟩ := h
    simp [h]
  obtain ⟨a, xs, rfl, hl, ha, q⟩ := h
  match xs, hl with
  | [x, y], _ =>
    refine ⟨_, (pss_cons (ps_ost (pv 0) (pv 1))
      (pss_one (ps_ost (pv 0) (pv 2)))), ?_⟩
    refine ⟨_, rfl, _, rfl, a, _, rfl, T.o_InvalidLine.T, T.nof2, .inl ⟨ha, fun d hd hda => ?_⟩⟩
    refine ⟨_, rfl, _, rfl, a, _, rfl, T.o_InvalidLine.T, T.nof3, .inr ⟨d, _, upd_same, by rw [upd_ne hda, upd_same], by simp, ?_⟩⟩
    refine q d _ hd hda (fun b n1 n2 => by rw [upd_ne n2, upd_ne n1, upd_ne n2]) (by rw [upd_ne (Ne.symm hda), upd_same]) (by rw [upd_same] <;> rfl)
end
end K38

set_option Elab.async false
set_option linter.all false
set_option maxRecDepth 100000
set_option maxHeartbeats 8000000
namespace K38
open PySem PySem.Spec PyProof.Rows L2 DK XV
/-- what isinstance says of the classes: L the kinds, S the error above them all -/
structure Kit (K : PySem.W.Frag) (L : List Addr) (S : Addr) : Prop where
  ll : ∀ (i j : Nat) (C D : Addr), L[i]? = some C → L[j]? = some D → PySem.W.kitOne K (.ref C) (.ref D) = some (decide (i = j))
  sl : ∀ (j : Nat) (D : Addr), L[j]? = some D → PySem.W.kitOne K (.ref S) (.ref D) = some false
  ls : ∀ (i : Nat) (C : Addr), L[i]? = some C → PySem.W.kitOne K (.ref C) (.ref S) = some true
  lv : ∀ (i : Nat) (C : Addr), L[i]? = some C → PySem.W.kitOne K (.ref C) (.type "ValueError") = some true
  xc : ∀ (i : Nat) (C : Addr), L[i]? = some C → XC K C
section
variable {P : Program} {w : World} {K : PySem.W.Frag} {mg : Str → Option Value} {base : Heap}
theorem el_kinds {L : List Addr} {te : TE} {σ : L2.St} {H : Hp} {E : XK} {C : Addr} {fs : List (Str × V)} {b : Nat → Bool} (h : EX te σ H (C, fs)) (xc : XC K C) (hk : ∀ (j : Nat) (D : Addr), L[j]? = some D → PySem.W.kitOne K (.ref C) (.ref D) = some (b j)) :
    Evl.EvL (tCall (spKinds K L) [] E (tCons te tNil)) σ H ((List.range 18).map fun j => V.bl (b j)) := fun H1 e Q q =>
  h H1 e _ fun a H2 e2 x => ⟨a, C, fs, b, rfl, x, xc, hk, fun p H3 hp e3 h3 => q p H3 (Evl.fresh_back e2 hp) (e2.trans e3) h3⟩
theorem lx_made {L : List Addr} {σ : L2.St} {H : Hp} {E : XK} : LX (tCall (spMade L 0) [] E tNil) σ H ((L.take 16).map fun C => (C, [])) := fun H1 e Q q =>
  ⟨⟨.non, rfl, fun h => absurd h (by decide)⟩, fun p us H2 n2 e2 h2 x2 => q p us H2 n2 e2 h2 x2⟩
theorem lx_made1 {L : List Addr} {σ : L2.St} {H : Hp} {E : XK} {te : TE} {v : V} (h : Evl.Ev te σ H v) : LX (tCall (spMade L 1) [] E (tCons te tNil)) σ H ((L.take 16).map fun C => (C, [])) := fun H1 e Q q =>
  h H1 e _ fun H2 e2 => ⟨⟨v, rfl, fun _ => rfl⟩, fun p us H3 n3 e3 h3 x3 => q p us H3 (Evl.fresh_back e2 n3) (e2.trans e3) h3 x3⟩
/-- for made in [A, B]: .., A and B new lists of exception values -/
theorem s_for2 {D : Ends} {σ : L2.St} {H : Hp} {tA tB : TE} {tu : TS} {j : Nat} {cs ds : List XD} (hA : LX tA σ H cs) (hB : LX tB σ H ds) (W : L2.St → Prop) (h0 : W σ)
    (hs : ∀ (p : Addr) (us : List V) (cs' : List XD) σ' H', (cs' = cs ∨ cs' = ds) → W σ' → Evl.Ex H H' → H' p = some (.lst us) → XAll H' us cs' →
      ∀ N : L2.St → Hp → Prop, (∀ σ2 H2, W σ2 → Evl.Ex H' H2 → N σ2 H2) → tu { D with nx := N, ct := N, bk := D.nx } (σ'.set j (some (.ref p))) H') (hd : ∀ σ' H', W σ' → Evl.Ex H H' → D.nx σ' H') :
    tFor (iList K (tLst (tCons tA (tCons tB tNil)))) (gName j) tu D σ H := by
  refine hA H (Evl.Ex.refl H) _ fun p1 u1 H1 n1 e1 h1 x1 => ?_
  refine hB H1 e1 _ fun p2 u2 H2 n2 e2 h2 x2 => ?_
  refine ⟨(show 2 ≤ sizeLine by decide), fun r hr => ⟨r, rfl, ⟨_, Evl.sq_of upd_same⟩, ?_⟩⟩
  have e3 : Evl.Ex H2 (upd H2 r (.lst [.ref p1, .ref p2])) := Evl.Ex.new hr
  have hR : upd H2 r (.lst [.ref p1, .ref p2]) r = some (.lst [.ref p1, .ref p2]) := upd_same
  generalize upd H2 r (.lst [.ref p1, .ref p2]) = H3 at e3 hR
  refine for_list (xs := [.ref p1, .ref p2]) (fun _ σ' H' => W σ' ∧ Evl.Ex H3 H') ⟨h0, Evl.Ex.refl _⟩ (fun i σ' H' _ hp => Evl.sq_of (hp.2 _ _ hR)) (fun i x σ' H' hx hp => ?_) (fun σ' H' hp => hd σ' H' hp.1 (((e1.trans e2).trans e3).trans hp.2))
  have go : ∀ p us cs', (cs' = cs ∨ cs' = ds) → H3 p = some (.lst us) → XAll H3 us cs' → tu { D with nx := fun σ2 H2 => W σ2 ∧ Evl.Ex H3 H2, ct := fun σ2 H2 => W σ2 ∧ Evl.Ex H3 H2, bk := D.nx } (σ'.set j (some (.ref p))) H' := fun p us cs' hc hp1 hx1 => by
    exact hs p us cs' σ' H' hc hp.1 (((e1.trans e2).trans e3).trans hp.2) (hp.2 _ _ hp1) (hx1.ex hp.2) _ fun σ2 H2 w2 e => ⟨w2, hp.2.trans e⟩
  match i, hx with
  | 0, hx =>
    obtain rfl : V.ref p1 = x := Option.some.inj hx
    exact go p1 u1 cs (.inl rfl) ((e2.trans e3) _ _ h1) (x1.ex (e2.trans e3))
  | 1, hx =>
    obtain rfl : V.ref p2 = x := Option.some.inj hx
    exact go p2 u2 ds (.inr rfl) (e3 _ _ h2) (x2.ex e3)
  | _ + 2, hx => simp at hx
theorem lk_line (x y : V) : List.lookup (Str.ofString "line") (fLine [x, y]) = some x := by
  have z : (Str.ofString "line" == Str.ofString "reason") = false := by decide +kernel
  simp [fLine, List.lookup, z]
theorem int_any {Q : VK} {g : Int → Int → V} {H : Hp} {i j : Int} (h : ∀ l, Q (.int l) H) (hg : g i j = .int (i + j)) : Q (g i j) H := by
  rw [hg]
  exact h _
theorem q_for2 {D : Ends} {tz : TS} {σ : L2.St} {H : Hp} {tA tB : TE} {tu : TS} {j : Nat} {cs ds : List XD} (hA : LX tA σ H cs) (hB : LX tB σ H ds) (W : L2.St → Prop) (h0 : W σ)
    (hs : ∀ (p : Addr) (us : List V) (cs' : List XD) σ' H', (cs' = cs ∨ cs' = ds) → W σ' → Evl.Ex H H' → H' p = some (.lst us) → XAll H' us cs' →
      ∀ N : L2.St → Hp → Prop, (∀ σ2 H2, W σ2 → Evl.Ex H' H2 → N σ2 H2) → tu { D with nx := N, ct := N, bk := tz D } (σ'.set j (some (.ref p))) H') (hd : ∀ σ' H', W σ' → Evl.Ex H H' → tz D σ' H') :
    tSeq (tFor (iList K (tLst (tCons tA (tCons tB tNil)))) (gName j) tu) tz D σ H := s_for2 (D := { D with nx := tz D }) hA hB W h0 hs hd
theorem given_all {n : Nat} {v : Nat → V} : Evl.given n (fun _ => true) v = (List.range n).map v := by
  unfold Evl.given
  rw [List.filter_eq_self.mpr (fun _ _ => rfl)]
/-- law(script) -/
def spLaw (K : PySem.W.Frag) : Sp := fun vs H Q _ => ∃ (a : Addr) (ns : List Int), vs = [.ref a] ∧ SqL K H a (ns.map V.int) ∧ ns.length ≤ 63 ∧ ∀ H', Q (.bl true) H'
def okS (z : Str) : Prop := PyData.canLay0 (.str z) = true
theorem ok_law (T : Top K mg) (Y : Kit K T.L T.x_SpinError.C) : FnOk P w K mg base CX0 3 T.law.f T.law.fd ["script"] (spLaw K) := by
  refine T.law.F.ok sc_law (fun vs H Q E h => ?_) (fun cdv A outer s H vs Q E hr h => ?_)
  · obtain ⟨a, ns, rfl, _⟩ := h
    rfl
  obtain ⟨a, ns, rfl, hS, h63, q⟩ := h
  refine ⟨_, (pss_cons (ps_set (i := 1) sc_law.nd rfl (Or.inl rfl) (pe_call (ok__law_source T) (hr.mono (by omega)) (by rfl) T._law_source.g T._law_source.F.kp T._law_source.b .nil pass0 (pa_cons (pv 0) pa_nil)))
      (pss_cons (ps_set (i := 2) sc_law.nd rfl (Or.inl rfl) (pe_call (ok__law_pick T) (hr.mono (by omega)) (by rfl) T._law_pick.g T._law_pick.F.kp T._law_pick.b .nil pass0 (pa_cons (pv 1) (pa_cons (pe_lst (pa_cons pe_str (pa_cons pe_str (pa_cons pe_str (pa_cons (pe_op op_mulS pe_str pe_int) pa_nil))))) pa_nil))))
      (pss_cons (ps_set (i := 3) sc_law.nd rfl (Or.inl rfl) (pe_op op_add (pe_call (ok__law_pick T) (hr.mono (by omega)) (by rfl) T._law_pick.g T._law_pick.F.kp T._law_pick.b .nil pass0 (pa_cons (pv 1) (pa_cons (pe_lst (pa_cons pe_int (pa_cons (pe_un un_neg pe_int) (pa_cons (pe_un un_neg pe_int) (pa_cons pe_int (pa_cons (pe_op op_powW pe_int pe_int) (pa_cons (pe_op op_sub pe_int (pe_op op_powW pe_int pe_int)) pa_nil))))))) pa_nil))) (pe_call (ok__law_draw T) (hr.mono (by omega)) (by rfl) T._law_draw.g T._law_draw.F.kp T._law_draw.b .nil pass0 (pa_cons (pv 1) (pa_cons pe_int pa_nil)))))
      (pss_cons (ps_set (i := 4) sc_law.nd rfl (Or.inl rfl) (pe_call (ok__law_pick T) (hr.mono (by omega)) (by rfl) T._law_pick.g T._law_pick.F.kp T._law_pick.b .nil pass0 (pa_cons (pv 1) (pa_cons (pe_lst (pa_cons pe_str (pa_cons pe_str (pa_cons pe_str (pa_cons pe_str (pa_cons pe_str (pa_cons pe_str (pa_cons pe_str (pa_cons pe_str (pa_cons pe_str pa_nil)))))))))) pa_nil))))
      (pss_cons (ps_set (i := 5) sc_law.nd rfl (Or.inl rfl) (pe_ifExp (pt_cmpR op_ne (pv 4) pe_str (nomark _)) pe_str pe_str))
      (pss_cons (ps_set (i := 6) sc_law.nd rfl (Or.inl rfl) (pe_lst (pa_cons (pe_oexV T.o_InvalidText.T T.o_InvalidText.iC T.o_InvalidText.tI (ok_InvalidText T) (hr.mono (by omega)) T.o_InvalidText.b pass0 (by rfl) T.o_InvalidText.g (pa_cons (pv 3) pa_nil)) (pa_cons (pe_oexV T.o_InvalidLine.T T.o_InvalidLine.iC T.o_InvalidLine.tI (ok_InvalidLine T) (hr.mono (by omega)) T.o_InvalidLine.b pass0 (by rfl) T.o_InvalidLine.g (pa_cons (pv 3) (pa_cons (pv 4) pa_nil))) pa_nil))))
      (pss_cons (ps_set (i := 7) sc_law.nd rfl (Or.inl rfl) (pe_lst (pa_cons (pe_oexV T.o_InvalidText.T T.o_InvalidText.iC T.o_InvalidText.tI (ok_InvalidText T) (hr.mono (by omega)) T.o_InvalidText.b pass0 (by rfl) T.o_InvalidText.g (pa_cons (pe_op op_add (pv 3) pe_int) pa_nil)) (pa_cons (pe_oexV T.o_InvalidLine.T T.o_InvalidLine.iC T.o_InvalidLine.tI (ok_InvalidLine T) (hr.mono (by omega)) T.o_InvalidLine.b pass0 (by rfl) T.o_InvalidLine.g (pa_cons (pe_op op_add (pv 3) pe_int) (pa_cons (pv 5) pa_nil))) pa_nil))))
      (pss_cons (ps_if (pt_cmpR (op_neD (hu64 hr)) (pe_lst (pa_cons (pe_xv (pe_ix ix_list (pv 6) pe_int (fun _ _ => rfl))) (pa_cons (pe_xv (pe_ix ix_list (pv 6) pe_int (fun _ _ => rfl))) (pa_cons (pe_xv (pe_ix ix_list (pv 6) pe_int (fun _ _ => rfl))) pa_nil)))) (pe_lst (pa_cons (pv 3) (pa_cons (pv 3) (pa_cons (pv 4) pa_nil)))) (nomark _)) (pss_one (ps_ret pe_bl)) pss_nil)
      (pss_cons (ps_if (pt_cmpR (op_neD (hu64 hr)) (pe_lst (pa_cons (pe_xv (pe_ix ix_list (pv 7) pe_int (fun _ _ => rfl))) (pa_cons (pe_xv (pe_ix ix_list (pv 7) pe_int (fun _ _ => rfl))) (pa_cons (pe_xv (pe_ix ix_list (pv 7) pe_int (fun _ _ => rfl))) pa_nil)))) (pe_lst (pa_cons (pe_op op_add (pv 3) pe_int) (pa_cons (pe_op op_add (pv 3) pe_int) (pa_cons (pv 5) pa_nil)))) (nomark _)) (pss_one (ps_ret pe_bl)) pss_nil)
      (pss_cons (ps_if (PW.pt (pw_or (pt_cmpR op_in_seq pe_bl (pe_call (ok__law_kinds T) (hr.mono (by omega)) (by rfl) T._law_kinds.g T._law_kinds.F.kp T._law_kinds.b .nil pass0 (pa_cons (pe_exc0 F.excBase_ValueError T.x_SpinError.q T.x_SpinError.g T.x_SpinError.k (by rfl)) pa_nil)) (by with_unfolding_all rfl)) (pw_or1 (pt_cmpR op_in_seq pe_bl (pe_call (ok__law_kinds T) (hr.mono (by omega)) (by rfl) T._law_kinds.g T._law_kinds.F.kp T._law_kinds.b .nil pass0 (pa_cons (pe_exc1 F.excBase_ValueError T.x_SpinError.q T.x_SpinError.g T.x_SpinError.k (by rfl) (pv 2)) pa_nil)) (by with_unfolding_all rfl))))) (pss_one (ps_ret pe_bl)) pss_nil)
      (pss_cons (ps_for PassesOwn.never rfl (pi_list (pe_lst (pa_cons (pe_op op_cat (pe_call0 (ok__law_made T) (hr.mono (by omega)) (by rfl) T._law_made.g T._law_made.F.kp T._law_made.b .nil pass0) (pv 6)) (pa_cons (pe_op op_cat (pe_call (ok__law_made_with T) (hr.mono (by omega)) (by rfl) T._law_made_with.g T._law_made_with.F.kp T._law_made_with.b .nil pass0 (pa_cons (pv 2) pa_nil)) (pv 7)) pa_nil)))) (pg_name (i := 8) sc_law.nd rfl (Or.inl rfl)) (pss_one (ps_for PassesOwn.never rfl (pi_range1 (by rfl) T.n_range (pa_cons (pe_callB (r := Evl.rLenS K) call_len_seq (by rfl) T.n_len PySem.boot_len (pa_cons (pv 8) pa_nil)) pa_nil)) (pg_name (i := 9) sc_law.nd rfl (Or.inr rfl)) (pss_cons (ps_if (pt_cmpR (op_neD (hu64 hr)) (pe_call (ok__law_kinds T) (hr.mono (by omega)) (by rfl) T._law_kinds.g T._law_kinds.F.kp T._law_kinds.b .nil pass0 (pa_cons (pe_ix ix_list (pv 8) (pv 9) (fun _ _ => rfl)) pa_nil)) (pe_lc (own := [("k", 10)]) (g := gName 10) (tt := tYes) rfl sc_law.nd (pi_range1 (by rfl) T.n_range (pa_cons (pe_callB (r := Evl.rLenS K) call_len_seq (by rfl) T.n_len PySem.boot_len (pa_cons (pv 8) pa_nil)) pa_nil)) (blkOk_by (N := N_law) (sc := defScope s_law) (by decide +kernel)) (fun _ _ _ _ _ => (pg_name (i := 10) sc_law.nd rfl (Or.inl rfl))) (fun _ _ _ _ _ => pts_nil) (fun _ _ _ _ _ => (pe_cmpR op_eq (pv 10) (pv 9) (nomark _)))) (nomark _)) (pss_one (ps_ret pe_bl)) pss_nil)
      (pss_one (ps_if (PW.pt (pw_or (pt_not (pt_val (pe_callB call_isX (by rfl) T.n_isinstance (by decide +kernel) (pa_cons (pe_ix ix_list (pv 8) (pv 9) (fun _ _ => rfl)) (pa_cons (pe_glob (v := .ref T.x_SpinError.C) rfl T.x_SpinError.g rfl) pa_nil))))) (pw_or1 (pt_not (pt_val (pe_callB call_isX (by rfl) T.n_isinstance (by decide +kernel) (pa_cons (pe_ix ix_list (pv 8) (pv 9) (fun _ _ => rfl)) (pa_cons (pe_bltn (v := .ty "ValueError") rfl T.n_ValueError (by decide +kernel) rfl) pa_nil)))))))) (pss_one (ps_ret pe_bl)) pss_nil))))))
      (pss_one (ps_ret pe_bl))))))))))))), ?_⟩
  -- source
  refine ⟨_, rfl, a, ns, rfl, hS, h63, fun s c H1 e1 _ _ S1 => ?_⟩
  -- word
  refine ⟨_, rfl, _, 9, rfl, rfl, ⟨by decide, fun _ _ => by decide, fun _ _ => by decide⟩, by simp; decide, fun p hp => ⟨s, c, p, 0, _, rfl, S1.new hp, by decide, .inl (.inl upd_same), (S1.nes hp).1, (S1.nes hp).2, by simp, by simp, fun v H2 hv _ S2 => ?_⟩⟩
  obtain ⟨wd, rfl⟩ : ∃ z, v = .str z := by
    simp only [List.mem_cons, List.not_mem_nil, or_false] at hv
    rcases hv with rfl | rfl | rfl | rfl <;> exact ⟨_, rfl⟩
  clear hv
  -- line
  refine ⟨_, rfl, _, rfl, _, rfl, 10, 30, rfl, rfl, ⟨by decide, by decide +kernel⟩, 10, 30, rfl, rfl, ⟨by decide, by decide +kernel⟩, _, _, rfl, rfl, by simp; decide, fun p hp => ⟨s, c, p, _, _, rfl, S2.new hp, by decide, .inl (.inl upd_same), (S2.nes hp).1, (S2.nes hp).2, by simp, by simp, fun v H3 hv _ S3 => ?_⟩⟩
  obtain ⟨l0, rfl⟩ : ∃ z, v = .int z := by
    simp only [List.mem_cons, List.not_mem_nil, or_false] at hv
    rcases hv with rfl | rfl | rfl | rfl | rfl | rfl <;> exact ⟨_, rfl⟩
  clear hv
  refine ⟨_, rfl, s, c, _, 9, rfl, S3, by decide, by decide, by decide, fun d0 H4 _ _ _ S4 => ⟨_, _, rfl, rfl, ?_⟩⟩
  -- reason
  refine ⟨_, rfl, by simp; decide, fun p hp => ⟨s, c, p, _, _, rfl, S4.new hp, by decide, .inl (.inl upd_same), (S4.nes hp).1, (S4.nes hp).2, by simp, by simp, fun v H5 hv _ _ => ?_⟩⟩
  obtain ⟨rs, rfl, hrs⟩ : ∃ z, v = .str z ∧ okS z := by
    simp only [List.mem_cons, List.not_mem_nil, or_false] at hv
    rcases hv with rfl | rfl | rfl | rfl | rfl | rfl | rfl | rfl | rfl <;> exact ⟨_, rfl, by unfold okS; decide +kernel⟩
  clear hv
  -- another
  refine Evl.q_asg (v := .str (if (!decide (V.str rs = V.str "shop")) = true then "shop" else "")) (Evl.ev_if (Evl.et_test (Evl.ev_op (Evl.ev_var rfl) Evl.ev_c (Evl.rv_ne rfl))) (fun hb => Evl.ev_is Evl.ev_c (by rw [if_pos hb])) (fun hb => Evl.ev_is Evl.ev_c (by rw [hb, if_neg Bool.false_ne_true]))) fun H6 e6 => ?_
  have han : okS (if (!decide (V.str rs = V.str "shop")) = true then "shop" else "") := by
    split <;> (unfold okS; decide +kernel)
  generalize (if (!decide (V.str rs = V.str "shop")) = true then ("shop" : Str) else "") = an at han
  -- last, more
  refine q_asgX (cs := [(T.o_InvalidText.C, fText [.int (l0 + d0)]), (T.o_InvalidLine.C, fLine [.int (l0 + d0), .str rs])]) (lx_lst (ax_cons (ex_oexV (Evl.ea_cons (Evl.ev_var rfl) Evl.ea_nil) rfl (by decide)) (ax_cons (ex_oexV (Evl.ea_cons (Evl.ev_var rfl) (Evl.ea_cons (Evl.ev_var rfl) Evl.ea_nil)) rfl (by decide)) ax_nil)) (by simp)) fun p1 us1 H7 n7 e7 h7 z7 => ?_
  refine q_asgX (cs := [(T.o_InvalidText.C, fText [.int (l0 + d0 + 1)]), (T.o_InvalidLine.C, fLine [.int (l0 + d0 + 2), .str an])]) (lx_lst (ax_cons (ex_oexV (Evl.ea_cons (Evl.ev_op (Evl.ev_var rfl) Evl.ev_c Evl.rv_I0) Evl.ea_nil) rfl (by decide)) (ax_cons (ex_oexV (Evl.ea_cons (Evl.ev_op (Evl.ev_var rfl) Evl.ev_c Evl.rv_I0) (Evl.ea_cons (Evl.ev_var rfl) Evl.ea_nil)) rfl (by decide)) ax_nil)) (by simp)) fun p2 us2 H8 n8 e8 h8 z8 => ?_
  have h7' := e8 _ _ h7
  have z7' := z7.ex e8
  obtain ⟨a1, g1, x1⟩ := z7'.get (i := 0) rfl
  obtain ⟨a2, g2, x2⟩ := z7'.get (i := 1) rfl
  obtain ⟨a3, g3, x3⟩ := z8.get (i := 0) rfl
  obtain ⟨a4, g4, x4⟩ := z8.get (i := 1) rfl
  have sh : ∀ (i j : Int) (z : Str), okS z → SeqAt.shaped (.list [.int i, .int j, .str z]) = true := fun i j z hz => by
    have hz' : PyData.canLay0 (.str z) = true := hz
    simp [SeqAt.shaped, PyData.canLay0, PyData.canLayAll0, PyData.depth, PyData.depthAll] at hz' ⊢
    exact hz'
  -- the fields
  refine Evl.q_when (b := false) (Evl.et_test (Evl.ev_opLL
    (Evl.el_lst (Evl.ea_cons (ev_xv (Evl.ev_op (Evl.ev_var rfl) Evl.ev_c (Evl.rv_ixL (Evl.sq_of h7') (atI_nat (j := 0) g1))) x1 T.o_InvalidText.xc T.nof1 (v := .int (l0 + d0)) (by simp [fText, List.lookup]))
      (Evl.ea_cons (ev_xv (Evl.ev_op (Evl.ev_var rfl) Evl.ev_c (Evl.rv_ixL (Evl.sq_of h7') (atI_nat (j := 1) g2))) x2 T.o_InvalidLine.xc T.nof2 (v := .int (l0 + d0)) (lk_line _ _))
      (Evl.ea_cons (ev_xv (Evl.ev_op (Evl.ev_var rfl) Evl.ev_c (Evl.rv_ixL (Evl.sq_of h7') (atI_nat (j := 1) g2))) x2 T.o_InvalidLine.xc T.nof3 (v := .str rs) (by simp [fLine, List.lookup])) Evl.ea_nil))) (by simp))
    (Evl.el_lst (Evl.ea_cons (Evl.ev_var rfl) (Evl.ea_cons (Evl.ev_var rfl) (Evl.ea_cons (Evl.ev_var rfl) Evl.ea_nil))) (by simp))
    (fun p q H1 hp hq e => rv_neS (.lst (Evl.sq_of hp) (.cons (.int (l0 + d0)) (.cons (.int (l0 + d0)) (.cons (.str rs) .nil)))) (.lst (Evl.sq_of hq) (.cons (.int (l0 + d0)) (.cons (.int (l0 + d0)) (.cons (.str rs) .nil)))) (sh (l0 + d0) (l0 + d0) rs hrs)))) (fun hb => nomatch hb) fun _ H9 e9 => ?_
  refine Evl.q_when (b := false) (Evl.et_test (Evl.ev_opLL
    (Evl.el_lst (Evl.ea_cons (ev_xv (Evl.ev_op (Evl.ev_var rfl) Evl.ev_c (Evl.rv_ixL (Evl.sq_of (e9 _ _ h8)) (atI_nat (j := 0) g3))) (x3.ex e9) T.o_InvalidText.xc T.nof1 (v := .int (l0 + d0 + 1)) (by simp [fText, List.lookup]))
      (Evl.ea_cons (ev_xv (Evl.ev_op (Evl.ev_var rfl) Evl.ev_c (Evl.rv_ixL (Evl.sq_of (e9 _ _ h8)) (atI_nat (j := 1) g4))) (x4.ex e9) T.o_InvalidLine.xc T.nof2 (v := .int (l0 + d0 + 2)) (lk_line _ _))
      (Evl.ea_cons (ev_xv (Evl.ev_op (Evl.ev_var rfl) Evl.ev_c (Evl.rv_ixL (Evl.sq_of (e9 _ _ h8)) (atI_nat (j := 1) g4))) (x4.ex e9) T.o_InvalidLine.xc T.nof3 (v := .str an) (by simp [fLine, List.lookup])) Evl.ea_nil))) (by simp))
    (Evl.el_lst (Evl.ea_cons (Evl.ev_op (Evl.ev_var rfl) Evl.ev_c Evl.rv_I0) (Evl.ea_cons (Evl.ev_op (Evl.ev_var rfl) Evl.ev_c Evl.rv_I0) (Evl.ea_cons (Evl.ev_var rfl) Evl.ea_nil))) (by simp))
    (fun p q H1 hp hq e => rv_neS (.lst (Evl.sq_of hp) (.cons (.int (l0 + d0 + 1)) (.cons (.int (l0 + d0 + 2)) (.cons (.str an) .nil)))) (.lst (Evl.sq_of hq) (.cons (.int (l0 + d0 + 1)) (.cons (.int (l0 + d0 + 2)) (.cons (.str an) .nil)))) (sh (l0 + d0 + 1) (l0 + d0 + 2) an han)))) (fun hb => nomatch hb) fun _ H10 e10 => ?_
  -- SpinError is of no kind
  refine Evl.q_when (b := false) (Evl.et_is (Evl.et_or
      (Evl.et_test (Evl.ev_is (v := .bl (inV (.bl true) ((List.range 18).map fun _ => V.bl false))) (Evl.ev_opL Evl.ev_c (el_kinds (b := fun _ => false) ex_exc0 T.x_SpinError.xc Y.sl) fun p H1 hp _ => Evl.rv_isL (Evl.sq_of hp) rfl rfl) rfl))
      (fun _ => Evl.et_test (Evl.ev_is (v := .bl (inV (.bl true) ((List.range 18).map fun _ => V.bl false))) (Evl.ev_opL Evl.ev_c (el_kinds (b := fun _ => false) (ex_exc1 (Evl.ev_var rfl)) T.x_SpinError.xc Y.sl) fun p H1 hp _ => Evl.rv_isL (Evl.sq_of hp) rfl rfl) rfl))) rfl) (fun hb => nomatch hb) fun _ H11 e11 => ?_
  have st : ∀ x : L2.St, x = x := fun _ => rfl
  refine q_for2 (lx_cat2 lx_made (Evl.ev_var rfl) (((e9.trans e10).trans e11) _ _ h7') (z7'.ex ((e9.trans e10).trans e11)) (show 16 + 2 ≤ 1000 by decide)) (lx_cat2 (lx_made1 (Evl.ev_var rfl)) (Evl.ev_var rfl) (((e9.trans e10).trans e11) _ _ h8) (z8.ex ((e9.trans e10).trans e11)) (show 16 + 2 ≤ 1000 by decide))
    (fun σ2 => ∃ y8 y9 y10, σ2 = [some (.ref a), some (.ref s), some (.str wd), some (.int (l0 + d0)), some (.str rs), some (.str an), some (.ref p1), some (.ref p2), y8, y9, y10]) ⟨_, _, _, rfl⟩
    (fun r us cs' σ' H' hc hW hE hR hx N hN => ?_) (fun σ' H' _ _ => Evl.s_ret Evl.ev_c fun H2 _ => q H2)
  obtain ⟨y8, y9, y10, rfl⟩ := hW
  have hcs : cs'.map (·.1) = T.L := by
    rcases hc with rfl | rfl <;> rfl
  have hl18 : cs'.length = 18 := by
    rw [← List.length_map (f := (·.1)), hcs]
    rfl
  have hu18 : us.length = 18 := hx.len.trans hl18
  have elen : ∀ (σ2 : L2.St) (H2 : Hp), σ2[8]? = some (some (.ref r)) → Evl.Ex H' H2 → Evl.EvA (tCons (tCB (Evl.rLenS K) (tCons (tVar 8) tNil)) tNil) σ2 H2 [.int 18] := fun σ2 H2 hv e =>
    Evl.ea_cons (Evl.ev_is (Evl.ev_len (Evl.ev_var hv) (Evl.sq_of (e _ _ hR))) (by rw [hu18] <;> rfl)) Evl.ea_nil
  refine Evl.s_forR1 (n := 18) (elen _ _ rfl (Evl.Ex.refl _)) ⟨by decide, by decide⟩
    (fun _ σ2 H2 => (∃ y9 y10, σ2 = [some (.ref a), some (.ref s), some (.str wd), some (.int (l0 + d0)), some (.str rs), some (.str an), some (.ref p1), some (.ref p2), some (.ref r), y9, y10]) ∧ Evl.Ex H' H2)
    (fun H2 e => ⟨⟨_, _, rfl⟩, e⟩) (fun i σ2 H2 hi hP => ?_) (fun σ2 H2 hP => by
      obtain ⟨⟨y9, y10, rfl⟩, e⟩ := hP
      exact hN _ H2 ⟨_, _, _, rfl⟩ e)
  obtain ⟨⟨y9, y10, rfl⟩, eP⟩ := hP
  have hi18 : i < cs'.length := by omega
  have hci : T.L[i]? = some cs'[i].1 := by
    rw [← hcs, List.getElem?_map, List.getElem?_eq_getElem hi18]
    rfl
  obtain ⟨b, gb, xb⟩ := hx.get (List.getElem?_eq_getElem hi18)
  have xb2 := xb.ex eP
  have hR2 := eP _ _ hR
  -- its kinds
  refine Evl.q_when (b := false) (Evl.et_test (Evl.ev_opLL (el_kinds (b := fun j => decide (i = j)) (ex_of (Evl.ev_op (Evl.ev_var rfl) (Evl.ev_var rfl) (Evl.rv_ixL (Evl.sq_of hR2) (atI_nat gb))) xb2) (Y.xc i _ hci) (fun j D hD => Y.ll i j _ D hci hD))
    (Evl.el_lcR1 (fun _ => true) (fun k => .bl (decide (V.int (k : Int) = V.int (i : Int)))) (elen _ _ rfl eP) ⟨by decide, by decide⟩ (fun _ => rfl) (fun _ H1 _ _ => fun H3 _ _ q3 => q3 H3 (Evl.Ex.refl H3)) (fun k H1 _ _ _ => Evl.ev_op (Evl.ev_var rfl) (Evl.ev_var rfl) (Evl.rv_eq rfl)))
    (fun p q H1 hp hq e => ?_))) (fun hb => nomatch hb) fun _ H3 e3 => ?_
  · have h1 : ((List.range 18).map fun j => V.bl (decide (i = j))) = ((List.range 18).map fun j => decide (i = j)).map V.bl := by
      rw [List.map_map]
      rfl
    have h2 : Evl.given (18 : Int).toNat (fun _ => true) (fun k => V.bl (decide (V.int (k : Int) = V.int (i : Int)))) = ((List.range 18).map fun j => decide (i = j)).map V.bl := by
      rw [given_all, List.map_map]
      refine List.map_congr_left fun k _ => congrArg V.bl ?_
      show decide (V.int (k : Int) = V.int (i : Int)) = decide (i = k)
      by_cases hk : i = k
      · subst hk
        simp
      · rw [decide_eq_false hk, decide_eq_false fun z => hk (by have z2 := V.int.inj z; omega)]
    rw [h1] at hp
    rw [h2] at hq
    exact rv_neS (.lst (Evl.sq_of hp) (dp_bools _)) (.lst (Evl.sq_of hq) (dp_bools _)) (shaped_bools _)
  -- its errors above
  have xb3 := xb2.ex e3
  have hR3 := e3 _ _ hR2
  refine Evl.s_when (b := false) (Evl.et_is (Evl.et_or
    (Evl.et_not (Evl.et_B (ev_isX (Evl.ev_op (Evl.ev_var rfl) (Evl.ev_var rfl) (Evl.rv_ixL (Evl.sq_of hR3) (atI_nat gb))) xb3 (Y.xc i _ hci) (.own _) (Y.ls i _ hci))))
    (fun _ => Evl.et_not (Evl.et_B (ev_isX (Evl.ev_op (Evl.ev_var rfl) (Evl.ev_var rfl) (Evl.rv_ixL (Evl.sq_of hR3) (atI_nat gb))) xb3 (Y.xc i _ hci) (.ty _) (Y.lv i _ hci))))) rfl) (fun hb => nomatch hb) fun _ H4 e4 => ?_
  exact ⟨⟨_, _, rfl⟩, (eP.trans e3).trans e4⟩
end
end K38

set_option Elab.async false
set_option linter.all false
set_option maxRecDepth 100000
set_option maxHeartbeats 8000000
namespace K38
open PySem PySem.Spec PyProof.Rows L2 DK XV
def kitTab (K : PySem.W.Frag) (L : List Addr) (S : Addr) : Bool := xcB K S && (List.range L.length).all fun i => match L[i]? with
  | none => true
  | some C => xcB K C && (decide (PySem.W.kitOne K (.ref S) (.ref C) = some false) && (decide (PySem.W.kitOne K (.ref C) (.ref S) = some true) && (decide (PySem.W.kitOne K (.ref C) (.type "ValueError") = some true) &&
    (List.range L.length).all fun j => match L[j]? with
      | none => true
      | some D => decide (PySem.W.kitOne K (.ref C) (.ref D) = some (decide (i = j))))))
theorem kit_of_tab {K : PySem.W.Frag} {L : List Addr} {S : Addr} (h : kitTab K L S = true) : Kit K L S ∧ XC K S := by
  unfold kitTab at h
  obtain ⟨h0, h⟩ := Bool.and_eq_true_iff.mp h
  have hL : ∀ (i : Nat) (C : Addr), L[i]? = some C → i ∈ List.range L.length := fun i C e => List.mem_range.mpr (List.getElem?_eq_some_iff.mp e).1
  have row : ∀ (i : Nat) (C : Addr), L[i]? = some C → xcB K C = true ∧ PySem.W.kitOne K (.ref S) (.ref C) = some false ∧ PySem.W.kitOne K (.ref C) (.ref S) = some true ∧ PySem.W.kitOne K (.ref C) (.type "ValueError") = some true ∧
      ∀ (j : Nat) (D : Addr), L[j]? = some D → PySem.W.kitOne K (.ref C) (.ref D) = some (decide (i = j)) := fun i C e => by
    have z := List.all_eq_true.mp h i (hL i C e)
    simp only [e, Bool.and_eq_true, decide_eq_true_eq] at z
    obtain ⟨z1, z2, z3, z4, z5⟩ := z
    refine ⟨z1, z2, z3, z4, fun j D e2 => ?_⟩
    have y := List.all_eq_true.mp z5 j (hL j D e2)
    simp only [e2, decide_eq_true_eq] at y
    exact y
  exact ⟨⟨fun i j C D e1 e2 => (row i C e1).2.2.2.2 j D e2, fun j D e => (row j D e).2.1, fun i C e => (row i C e).2.2.1, fun i C e => (row i C e).2.2.2.1, fun i C e => xcB_ok (row i C e).1⟩, xcB_ok h0⟩
theorem all_mk {l : PySem.W.OpenLaw} {w : World} {K : PySem.W.Frag} {h : Heap} {mg : Str → Option Value} {fa : Addr} (X : K.In h) (G : h.Ns mainGlobals mg) (hfa : mg "law" = some (.ref fa))
    {f__law_source : Addr} {od__law_source an__law_source : Option Addr} {sl__law_source : Array (Option Value)} {oc__law_source kV__law_source dc__law_source pm__law_source cd__law_source ct__law_source : Value}
    (a__law_source : PySem.W.nsIn K mainGlobals "_law_source" = some (some (.ref f__law_source))) (l__law_source : K.lookup f__law_source = some ⟨oc__law_source, od__law_source, .func (PySem.W.fnOf "_law_source" "_law_source" (defArgs s__law_source) (defBody s__law_source) (defScope s__law_source) .none kV__law_source dc__law_source pm__law_source an__law_source cd__law_source ct__law_source), sl__law_source⟩) (c__law_source : PySem.W.codeIn K cd__law_source "_law_source" = true) (k__law_source : PySem.W.keepIn K (.ref f__law_source) = true)
    {f__law_draw : Addr} {od__law_draw an__law_draw : Option Addr} {sl__law_draw : Array (Option Value)} {oc__law_draw kV__law_draw dc__law_draw pm__law_draw cd__law_draw ct__law_draw : Value}
    (a__law_draw : PySem.W.nsIn K mainGlobals "_law_draw" = some (some (.ref f__law_draw))) (l__law_draw : K.lookup f__law_draw = some ⟨oc__law_draw, od__law_draw, .func (PySem.W.fnOf "_law_draw" "_law_draw" (defArgs s__law_draw) (defBody s__law_draw) (defScope s__law_draw) .none kV__law_draw dc__law_draw pm__law_draw an__law_draw cd__law_draw ct__law_draw), sl__law_draw⟩) (c__law_draw : PySem.W.codeIn K cd__law_draw "_law_draw" = true) (k__law_draw : PySem.W.keepIn K (.ref f__law_draw) = true)
    {f__law_pick : Addr} {od__law_pick an__law_pick : Option Addr} {sl__law_pick : Array (Option Value)} {oc__law_pick kV__law_pick dc__law_pick pm__law_pick cd__law_pick ct__law_pick : Value}
    (a__law_pick : PySem.W.nsIn K mainGlobals "_law_pick" = some (some (.ref f__law_pick))) (l__law_pick : K.lookup f__law_pick = some ⟨oc__law_pick, od__law_pick, .func (PySem.W.fnOf "_law_pick" "_law_pick" (defArgs s__law_pick) (defBody s__law_pick) (defScope s__law_pick) .none kV__law_pick dc__law_pick pm__law_pick an__law_pick cd__law_pick ct__law_pick), sl__law_pick⟩) (c__law_pick : PySem.W.codeIn K cd__law_pick "_law_pick" = true) (k__law_pick : PySem.W.keepIn K (.ref f__law_pick) = true)
    {f__law_kinds : Addr} {od__law_kinds an__law_kinds : Option Addr} {sl__law_kinds : Array (Option Value)} {oc__law_kinds kV__law_kinds dc__law_kinds pm__law_kinds cd__law_kinds ct__law_kinds : Value}
    (a__law_kinds : PySem.W.nsIn K mainGlobals "_law_kinds" = some (some (.ref f__law_kinds))) (l__law_kinds : K.lookup f__law_kinds = some ⟨oc__law_kinds, od__law_kinds, .func (PySem.W.fnOf "_law_kinds" "_law_kinds" (defArgs s__law_kinds) (defBody s__law_kinds) (defScope s__law_kinds) .none kV__law_kinds dc__law_kinds pm__law_kinds an__law_kinds cd__law_kinds ct__law_kinds), sl__law_kinds⟩) (c__law_kinds : PySem.W.codeIn K cd__law_kinds "_law_kinds" = true) (k__law_kinds : PySem.W.keepIn K (.ref f__law_kinds) = true)
    {f__law_made : Addr} {od__law_made an__law_made : Option Addr} {sl__law_made : Array (Option Value)} {oc__law_made kV__law_made dc__law_made pm__law_made cd__law_made ct__law_made : Value}
    (a__law_made : PySem.W.nsIn K mainGlobals "_law_made" = some (some (.ref f__law_made))) (l__law_made : K.lookup f__law_made = some ⟨oc__law_made, od__law_made, .func (PySem.W.fnOf "_law_made" "_law_made" (defArgs s__law_made) (defBody s__law_made) (defScope s__law_made) .none kV__law_made dc__law_made pm__law_made an__law_made cd__law_made ct__law_made), sl__law_made⟩) (c__law_made : PySem.W.codeIn K cd__law_made "_law_made" = true) (k__law_made : PySem.W.keepIn K (.ref f__law_made) = true)
    {f__law_made_with : Addr} {od__law_made_with an__law_made_with : Option Addr} {sl__law_made_with : Array (Option Value)} {oc__law_made_with kV__law_made_with dc__law_made_with pm__law_made_with cd__law_made_with ct__law_made_with : Value}
    (a__law_made_with : PySem.W.nsIn K mainGlobals "_law_made_with" = some (some (.ref f__law_made_with))) (l__law_made_with : K.lookup f__law_made_with = some ⟨oc__law_made_with, od__law_made_with, .func (PySem.W.fnOf "_law_made_with" "_law_made_with" (defArgs s__law_made_with) (defBody s__law_made_with) (defScope s__law_made_with) .none kV__law_made_with dc__law_made_with pm__law_made_with an__law_made_with cd__law_made_with ct__law_made_with), sl__law_made_with⟩) (c__law_made_with : PySem.W.codeIn K cd__law_made_with "_law_made_with" = true) (k__law_made_with : PySem.W.keepIn K (.ref f__law_made_with) = true)
    {f_law : Addr} {od_law an_law : Option Addr} {sl_law : Array (Option Value)} {oc_law kV_law dc_law pm_law cd_law ct_law : Value}
    (a_law : PySem.W.nsIn K mainGlobals "law" = some (some (.ref f_law))) (l_law : K.lookup f_law = some ⟨oc_law, od_law, .func (PySem.W.fnOf "law" "law" (defArgs s_law) (defBody s_law) (defScope s_law) .none kV_law dc_law pm_law an_law cd_law ct_law), sl_law⟩) (c_law : PySem.W.codeIn K cd_law "law" = true) (k_law : PySem.W.keepIn K (.ref f_law) = true)
    {C_SpinError : Addr} (g_SpinError : PySem.W.nsIn K mainGlobals "SpinError" = some (some (.ref C_SpinError))) (kC_SpinError : PySem.W.keepIn K (.ref C_SpinError) = true) (q_SpinError : PySem.W.excIn K C_SpinError [.type "ValueError", .type "Exception", .type "BaseException", .type "object"] "ValueError.__new__" = true)
    {C_InvalidTerm : Addr} (g_InvalidTerm : PySem.W.nsIn K mainGlobals "InvalidTerm" = some (some (.ref C_InvalidTerm))) (kC_InvalidTerm : PySem.W.keepIn K (.ref C_InvalidTerm) = true) (q_InvalidTerm : PySem.W.excIn K C_InvalidTerm [.type "ValueError", .type "Exception", .type "BaseException", .type "object"] "ValueError.__new__" = true)
    {C_InvalidRules : Addr} (g_InvalidRules : PySem.W.nsIn K mainGlobals "InvalidRules" = some (some (.ref C_InvalidRules))) (kC_InvalidRules : PySem.W.keepIn K (.ref C_InvalidRules) = true) (q_InvalidRules : PySem.W.excIn K C_InvalidRules [.type "ValueError", .type "Exception", .type "BaseException", .type "object"] "ValueError.__new__" = true)
    {C_InvalidPrices : Addr} (g_InvalidPrices : PySem.W.nsIn K mainGlobals "InvalidPrices" = some (some (.ref C_InvalidPrices))) (kC_InvalidPrices : PySem.W.keepIn K (.ref C_InvalidPrices) = true) (q_InvalidPrices : PySem.W.excIn K C_InvalidPrices [.type "ValueError", .type "Exception", .type "BaseException", .type "object"] "ValueError.__new__" = true)
    {C_InvalidPrice : Addr} (g_InvalidPrice : PySem.W.nsIn K mainGlobals "InvalidPrice" = some (some (.ref C_InvalidPrice))) (kC_InvalidPrice : PySem.W.keepIn K (.ref C_InvalidPrice) = true) (q_InvalidPrice : PySem.W.excIn K C_InvalidPrice [.type "ValueError", .type "Exception", .type "BaseException", .type "object"] "ValueError.__new__" = true)
    {C_InvalidNumber : Addr} (g_InvalidNumber : PySem.W.nsIn K mainGlobals "InvalidNumber" = some (some (.ref C_InvalidNumber))) (kC_InvalidNumber : PySem.W.keepIn K (.ref C_InvalidNumber) = true) (q_InvalidNumber : PySem.W.excIn K C_InvalidNumber [.type "ValueError", .type "Exception", .type "BaseException", .type "object"] "ValueError.__new__" = true)
    {C_InvalidShop : Addr} (g_InvalidShop : PySem.W.nsIn K mainGlobals "InvalidShop" = some (some (.ref C_InvalidShop))) (kC_InvalidShop : PySem.W.keepIn K (.ref C_InvalidShop) = true) (q_InvalidShop : PySem.W.excIn K C_InvalidShop [.type "ValueError", .type "Exception", .type "BaseException", .type "object"] "ValueError.__new__" = true)
    {C_TooMany : Addr} (g_TooMany : PySem.W.nsIn K mainGlobals "TooMany" = some (some (.ref C_TooMany))) (kC_TooMany : PySem.W.keepIn K (.ref C_TooMany) = true) (q_TooMany : PySem.W.excIn K C_TooMany [.type "ValueError", .type "Exception", .type "BaseException", .type "object"] "ValueError.__new__" = true)
    {C_InvalidOrder : Addr} (g_InvalidOrder : PySem.W.nsIn K mainGlobals "InvalidOrder" = some (some (.ref C_InvalidOrder))) (kC_InvalidOrder : PySem.W.keepIn K (.ref C_InvalidOrder) = true) (q_InvalidOrder : PySem.W.excIn K C_InvalidOrder [.type "ValueError", .type "Exception", .type "BaseException", .type "object"] "ValueError.__new__" = true)
    {C_InvalidLog : Addr} (g_InvalidLog : PySem.W.nsIn K mainGlobals "InvalidLog" = some (some (.ref C_InvalidLog))) (kC_InvalidLog : PySem.W.keepIn K (.ref C_InvalidLog) = true) (q_InvalidLog : PySem.W.excIn K C_InvalidLog [.type "ValueError", .type "Exception", .type "BaseException", .type "object"] "ValueError.__new__" = true)
    {C_InvalidLimits : Addr} (g_InvalidLimits : PySem.W.nsIn K mainGlobals "InvalidLimits" = some (some (.ref C_InvalidLimits))) (kC_InvalidLimits : PySem.W.keepIn K (.ref C_InvalidLimits) = true) (q_InvalidLimits : PySem.W.excIn K C_InvalidLimits [.type "ValueError", .type "Exception", .type "BaseException", .type "object"] "ValueError.__new__" = true)
    {C_NotQuiet : Addr} (g_NotQuiet : PySem.W.nsIn K mainGlobals "NotQuiet" = some (some (.ref C_NotQuiet))) (kC_NotQuiet : PySem.W.keepIn K (.ref C_NotQuiet) = true) (q_NotQuiet : PySem.W.excIn K C_NotQuiet [.type "ValueError", .type "Exception", .type "BaseException", .type "object"] "ValueError.__new__" = true)
    {C_NothingToUndo : Addr} (g_NothingToUndo : PySem.W.nsIn K mainGlobals "NothingToUndo" = some (some (.ref C_NothingToUndo))) (kC_NothingToUndo : PySem.W.keepIn K (.ref C_NothingToUndo) = true) (q_NothingToUndo : PySem.W.excIn K C_NothingToUndo [.type "ValueError", .type "Exception", .type "BaseException", .type "object"] "ValueError.__new__" = true)
    {C_NothingToRedo : Addr} (g_NothingToRedo : PySem.W.nsIn K mainGlobals "NothingToRedo" = some (some (.ref C_NothingToRedo))) (kC_NothingToRedo : PySem.W.keepIn K (.ref C_NothingToRedo) = true) (q_NothingToRedo : PySem.W.excIn K C_NothingToRedo [.type "ValueError", .type "Exception", .type "BaseException", .type "object"] "ValueError.__new__" = true)
    {C_UnknownDeed : Addr} (g_UnknownDeed : PySem.W.nsIn K mainGlobals "UnknownDeed" = some (some (.ref C_UnknownDeed))) (kC_UnknownDeed : PySem.W.keepIn K (.ref C_UnknownDeed) = true) (q_UnknownDeed : PySem.W.excIn K C_UnknownDeed [.type "ValueError", .type "Exception", .type "BaseException", .type "object"] "ValueError.__new__" = true)
    {C_InvalidKind : Addr} (g_InvalidKind : PySem.W.nsIn K mainGlobals "InvalidKind" = some (some (.ref C_InvalidKind))) (kC_InvalidKind : PySem.W.keepIn K (.ref C_InvalidKind) = true) (q_InvalidKind : PySem.W.excIn K C_InvalidKind [.type "ValueError", .type "Exception", .type "BaseException", .type "object"] "ValueError.__new__" = true)
    {C_InvalidSeen : Addr} (g_InvalidSeen : PySem.W.nsIn K mainGlobals "InvalidSeen" = some (some (.ref C_InvalidSeen))) (kC_InvalidSeen : PySem.W.keepIn K (.ref C_InvalidSeen) = true) (q_InvalidSeen : PySem.W.excIn K C_InvalidSeen [.type "ValueError", .type "Exception", .type "BaseException", .type "object"] "ValueError.__new__" = true)
    {C_InvalidText : Addr} (g_InvalidText : PySem.W.nsIn K mainGlobals "InvalidText" = some (some (.ref C_InvalidText))) (cls_InvalidText : ∃ nm q N bs bm sn sub ab col dd k0 k1 k2 k3 k5, K.lookup C_InvalidText = some (excClassObj nm q C_InvalidText N bs bm true sn sub ab col dd k0 k1 k2 k3 k5 "ValueError.__new__") ∧ PySem.HandSPX.refsVE bm = true)
    (sa_InvalidText : PySem.W.findIn K (.ref C_InvalidText) "__setattr__" = some (some (.builtin "object.__setattr__"))) (ex_InvalidText : PySem.W.subIn K (.ref C_InvalidText) (.type "BaseException") = some true) (ty_InvalidText : PySem.W.typeIn K (.ref C_InvalidText) = some (.type "type")) (kC_InvalidText : PySem.W.keepIn K (.ref C_InvalidText) = true)
    {f_InvalidText : Addr} {od_InvalidText an_InvalidText : Option Addr} {sl_InvalidText : Array (Option Value)} {oc_InvalidText kV_InvalidText dc_InvalidText pm_InvalidText cd_InvalidText ct_InvalidText : Value}
    (l_InvalidText : K.lookup f_InvalidText = some ⟨oc_InvalidText, od_InvalidText, .func (PySem.W.fnOf "__init__" "InvalidText.__init__" (defArgs s_InvalidText_init) (defBody s_InvalidText_init) (defScope s_InvalidText_init) .none kV_InvalidText dc_InvalidText pm_InvalidText an_InvalidText cd_InvalidText ct_InvalidText), sl_InvalidText⟩) (c_InvalidText : PySem.W.codeIn K cd_InvalidText "InvalidText.__init__" = true) (k_InvalidText : PySem.W.keepIn K (.ref f_InvalidText) = true)
    (iC_InvalidText : PySem.W.findIn K (.ref C_InvalidText) "__init__" = some (some (.ref f_InvalidText))) (tI_InvalidText : PySem.W.typeIn K (.ref f_InvalidText) = some (.type "function"))
    {C_InvalidLine : Addr} (g_InvalidLine : PySem.W.nsIn K mainGlobals "InvalidLine" = some (some (.ref C_InvalidLine))) (cls_InvalidLine : ∃ nm q N bs bm sn sub ab col dd k0 k1 k2 k3 k5, K.lookup C_InvalidLine = some (excClassObj nm q C_InvalidLine N bs bm true sn sub ab col dd k0 k1 k2 k3 k5 "ValueError.__new__") ∧ PySem.HandSPX.refsVE bm = true)
    (sa_InvalidLine : PySem.W.findIn K (.ref C_InvalidLine) "__setattr__" = some (some (.builtin "object.__setattr__"))) (ex_InvalidLine : PySem.W.subIn K (.ref C_InvalidLine) (.type "BaseException") = some true) (ty_InvalidLine : PySem.W.typeIn K (.ref C_InvalidLine) = some (.type "type")) (kC_InvalidLine : PySem.W.keepIn K (.ref C_InvalidLine) = true)
    {f_InvalidLine : Addr} {od_InvalidLine an_InvalidLine : Option Addr} {sl_InvalidLine : Array (Option Value)} {oc_InvalidLine kV_InvalidLine dc_InvalidLine pm_InvalidLine cd_InvalidLine ct_InvalidLine : Value}
    (l_InvalidLine : K.lookup f_InvalidLine = some ⟨oc_InvalidLine, od_InvalidLine, .func (PySem.W.fnOf "__init__" "InvalidLine.__init__" (defArgs s_InvalidLine_init) (defBody s_InvalidLine_init) (defScope s_InvalidLine_init) .none kV_InvalidLine dc_InvalidLine pm_InvalidLine an_InvalidLine cd_InvalidLine ct_InvalidLine), sl_InvalidLine⟩) (c_InvalidLine : PySem.W.codeIn K cd_InvalidLine "InvalidLine.__init__" = true) (k_InvalidLine : PySem.W.keepIn K (.ref f_InvalidLine) = true)
    (iC_InvalidLine : PySem.W.findIn K (.ref C_InvalidLine) "__init__" = some (some (.ref f_InvalidLine))) (tI_InvalidLine : PySem.W.typeIn K (.ref f_InvalidLine) = some (.type "function"))
    (z_len : PySem.W.nsIn K mainGlobals "len" = some none)
    (z_abs : PySem.W.nsIn K mainGlobals "abs" = some none)
    (z_int : PySem.W.nsIn K mainGlobals "int" = some none)
    (z_range : PySem.W.nsIn K mainGlobals "range" = some none)
    (z_isinstance : PySem.W.nsIn K mainGlobals "isinstance" = some none)
    (z_ValueError : PySem.W.nsIn K mainGlobals "ValueError" = some none)
    (nof1 : PySem.W.findIn K (.ref C_InvalidText) "at" = some none)
    (nof2 : PySem.W.findIn K (.ref C_InvalidLine) "line" = some none)
    (nof3 : PySem.W.findIn K (.ref C_InvalidLine) "reason" = some none)
    (kt : kitTab K [C_InvalidTerm, C_InvalidRules, C_InvalidPrices, C_InvalidPrice, C_InvalidNumber, C_InvalidShop, C_TooMany, C_InvalidOrder, C_InvalidLog, C_InvalidLimits, C_NotQuiet, C_NothingToUndo, C_NothingToRedo, C_UnknownDeed, C_InvalidKind, C_InvalidSeen, C_InvalidText, C_InvalidLine] C_SpinError = true) :
    ∃ fd : FuncData, (∀ (s : Shared) (v : Value), BindsTo s fd ⟨[v], []⟩ [("script", v)]) ∧ ∀ base : Heap, K.In base → base.Ns mainGlobals mg → FnOk l.prog w K mg base CX0 3 fa fd ["script"] (spLaw K) := by
  obtain ⟨Y, xS⟩ := kit_of_tab kt
  have e := hfa.symm.trans (PySem.W.mg_of X G a_law)
  cases e
  let T : Top K mg := {
    _law_source := { f := _, fd := _, F := fun_mk l__law_source c__law_source k__law_source, g := PySem.W.mg_of X G a__law_source, b := (fun_mk l__law_source c__law_source k__law_source).binds (ps := ["script"]) fun _ _ _ _ _ _ us hl => match us, hl with | [_], _ => rfl },
    _law_draw := { f := _, fd := _, F := fun_mk l__law_draw c__law_draw k__law_draw, g := PySem.W.mg_of X G a__law_draw, b := (fun_mk l__law_draw c__law_draw k__law_draw).binds (ps := ["source", "limit"]) fun _ _ _ _ _ _ us hl => match us, hl with | [_, _], _ => rfl },
    _law_pick := { f := _, fd := _, F := fun_mk l__law_pick c__law_pick k__law_pick, g := PySem.W.mg_of X G a__law_pick, b := (fun_mk l__law_pick c__law_pick k__law_pick).binds (ps := ["source", "values"]) fun _ _ _ _ _ _ us hl => match us, hl with | [_, _], _ => rfl },
    _law_kinds := { f := _, fd := _, F := fun_mk l__law_kinds c__law_kinds k__law_kinds, g := PySem.W.mg_of X G a__law_kinds, b := (fun_mk l__law_kinds c__law_kinds k__law_kinds).binds (ps := ["e"]) fun _ _ _ _ _ _ us hl => match us, hl with | [_], _ => rfl },
    _law_made := { f := _, fd := _, F := fun_mk l__law_made c__law_made k__law_made, g := PySem.W.mg_of X G a__law_made, b := (fun_mk l__law_made c__law_made k__law_made).binds (ps := []) fun _ _ _ _ _ _ us hl => match us, hl with | [], _ => rfl },
    _law_made_with := { f := _, fd := _, F := fun_mk l__law_made_with c__law_made_with k__law_made_with, g := PySem.W.mg_of X G a__law_made_with, b := (fun_mk l__law_made_with c__law_made_with k__law_made_with).binds (ps := ["word"]) fun _ _ _ _ _ _ us hl => match us, hl with | [_], _ => rfl },
    law := { f := _, fd := _, F := fun_mk l_law c_law k_law, g := PySem.W.mg_of X G a_law, b := (fun_mk l_law c_law k_law).binds (ps := ["script"]) fun _ _ _ _ _ _ us hl => match us, hl with | [_], _ => rfl },
    x_SpinError := { C := C_SpinError, g := PySem.W.mg_of X G g_SpinError, k := kC_SpinError, q := q_SpinError, xc := xS },
    x_InvalidTerm := { C := C_InvalidTerm, g := PySem.W.mg_of X G g_InvalidTerm, k := kC_InvalidTerm, q := q_InvalidTerm, xc := Y.xc 0 _ rfl },
    x_InvalidRules := { C := C_InvalidRules, g := PySem.W.mg_of X G g_InvalidRules, k := kC_InvalidRules, q := q_InvalidRules, xc := Y.xc 1 _ rfl },
    x_InvalidPrices := { C := C_InvalidPrices, g := PySem.W.mg_of X G g_InvalidPrices, k := kC_InvalidPrices, q := q_InvalidPrices, xc := Y.xc 2 _ rfl },
    x_InvalidPrice := { C := C_InvalidPrice, g := PySem.W.mg_of X G g_InvalidPrice, k := kC_InvalidPrice, q := q_InvalidPrice, xc := Y.xc 3 _ rfl },
    x_InvalidNumber := { C := C_InvalidNumber, g := PySem.W.mg_of X G g_InvalidNumber, k := kC_InvalidNumber, q := q_InvalidNumber, xc := Y.xc 4 _ rfl },
    x_InvalidShop := { C := C_InvalidShop, g := PySem.W.mg_of X G g_InvalidShop, k := kC_InvalidShop, q := q_InvalidShop, xc := Y.xc 5 _ rfl },
    x_TooMany := { C := C_TooMany, g := PySem.W.mg_of X G g_TooMany, k := kC_TooMany, q := q_TooMany, xc := Y.xc 6 _ rfl },
    x_InvalidOrder := { C := C_InvalidOrder, g := PySem.W.mg_of X G g_InvalidOrder, k := kC_InvalidOrder, q := q_InvalidOrder, xc := Y.xc 7 _ rfl },
    x_InvalidLog := { C := C_InvalidLog, g := PySem.W.mg_of X G g_InvalidLog, k := kC_InvalidLog, q := q_InvalidLog, xc := Y.xc 8 _ rfl },
    x_InvalidLimits := { C := C_InvalidLimits, g := PySem.W.mg_of X G g_InvalidLimits, k := kC_InvalidLimits, q := q_InvalidLimits, xc := Y.xc 9 _ rfl },
    x_NotQuiet := { C := C_NotQuiet, g := PySem.W.mg_of X G g_NotQuiet, k := kC_NotQuiet, q := q_NotQuiet, xc := Y.xc 10 _ rfl },
    x_NothingToUndo := { C := C_NothingToUndo, g := PySem.W.mg_of X G g_NothingToUndo, k := kC_NothingToUndo, q := q_NothingToUndo, xc := Y.xc 11 _ rfl },
    x_NothingToRedo := { C := C_NothingToRedo, g := PySem.W.mg_of X G g_NothingToRedo, k := kC_NothingToRedo, q := q_NothingToRedo, xc := Y.xc 12 _ rfl },
    x_UnknownDeed := { C := C_UnknownDeed, g := PySem.W.mg_of X G g_UnknownDeed, k := kC_UnknownDeed, q := q_UnknownDeed, xc := Y.xc 13 _ rfl },
    x_InvalidKind := { C := C_InvalidKind, g := PySem.W.mg_of X G g_InvalidKind, k := kC_InvalidKind, q := q_InvalidKind, xc := Y.xc 14 _ rfl },
    x_InvalidSeen := { C := C_InvalidSeen, g := PySem.W.mg_of X G g_InvalidSeen, k := kC_InvalidSeen, q := q_InvalidSeen, xc := Y.xc 15 _ rfl },
    o_InvalidText := { C := C_InvalidText, g := PySem.W.mg_of X G g_InvalidText, T := ⟨cls_InvalidText, sa_InvalidText, ex_InvalidText, ty_InvalidText, kC_InvalidText⟩, fI := f_InvalidText, iC := iC_InvalidText, tI := tI_InvalidText, fd := _, F := fun_mk l_InvalidText c_InvalidText k_InvalidText, b := (fun_mk l_InvalidText c_InvalidText k_InvalidText).binds (ps := ["self", "at"]) fun _ _ _ _ _ _ us hl => match us, hl with | [_, _], _ => rfl, xc := Y.xc 16 _ rfl },
    o_InvalidLine := { C := C_InvalidLine, g := PySem.W.mg_of X G g_InvalidLine, T := ⟨cls_InvalidLine, sa_InvalidLine, ex_InvalidLine, ty_InvalidLine, kC_InvalidLine⟩, fI := f_InvalidLine, iC := iC_InvalidLine, tI := tI_InvalidLine, fd := _, F := fun_mk l_InvalidLine c_InvalidLine k_InvalidLine, b := (fun_mk l_InvalidLine c_InvalidLine k_InvalidLine).binds (ps := ["self", "line", "reason"]) fun _ _ _ _ _ _ us hl => match us, hl with | [_, _, _], _ => rfl, xc := Y.xc 17 _ rfl },
    n_len := PySem.W.mg_none_of X G z_len,
    n_abs := PySem.W.mg_none_of X G z_abs,
    n_int := PySem.W.mg_none_of X G z_int,
    n_range := PySem.W.mg_none_of X G z_range,
    n_isinstance := PySem.W.mg_none_of X G z_isinstance,
    n_ValueError := PySem.W.mg_none_of X G z_ValueError,
    nof1 := nof1,
    nof2 := nof2,
    nof3 := nof3 }
  exact ⟨_, fun s v => .of_eq rfl, fun base _ _ => ok_law T Y⟩
end K38
open PySem PySem.W PyProof.Rows
set_option maxHeartbeats 0 in
theorem PySem.Challenge.cw_pricespin_k38_errors_holds : PySem.Challenge.rw_pricespin_k38_errors.Holds := by
  w_on; o_law; k_head; (case hw => w_witness2)
  k_fill
  refine L2.walk_of (l := PySem.Challenge.rw_pricespin_k38_errors) (n := 63) (k := 3) (x := "script") (CX := fun _ => L2.CX0) (sp := fun w => K38.spLaw _) rfl (by decide) rfl ⟨rfl, by decide, by decide⟩ (fun w h Y => PySem.W.kIn_of Y) ?F (fun _ _ a ns hl _ hS => ⟨a, ns, rfl, hS, hl, fun _ => rfl⟩) (fun _ _ _ _ _ h => h)
  case F =>
    intro w mg fa h KX G hmg
    refine' K38.all_mk KX G hmg ?a__law_source ?l__law_source ?c__law_source ?k__law_source ?a__law_draw ?l__law_draw ?c__law_draw ?k__law_draw ?a__law_pick ?l__law_pick ?c__law_pick ?k__law_pick ?a__law_kinds ?l__law_kinds ?c__law_kinds ?k__law_kinds ?a__law_made ?l__law_made ?c__law_made ?k__law_made ?a__law_made_with ?l__law_made_with ?c__law_made_with ?k__law_made_with ?a_law ?l_law ?c_law ?k_law ?g_SpinError ?kC_SpinError ?q_SpinError ?g_InvalidTerm ?kC_InvalidTerm ?q_InvalidTerm ?g_InvalidRules ?kC_InvalidRules ?q_InvalidRules ?g_InvalidPrices ?kC_InvalidPrices ?q_InvalidPrices ?g_InvalidPrice ?kC_InvalidPrice ?q_InvalidPrice ?g_InvalidNumber ?kC_InvalidNumber ?q_InvalidNumber ?g_InvalidShop ?kC_InvalidShop ?q_InvalidShop ?g_TooMany ?kC_TooMany ?q_TooMany ?g_InvalidOrder ?kC_InvalidOrder ?q_InvalidOrder ?g_InvalidLog ?kC_InvalidLog ?q_InvalidLog ?g_InvalidLimits ?kC_InvalidLimits ?q_InvalidLimits ?g_NotQuiet ?kC_NotQuiet ?q_NotQuiet ?g_NothingToUndo ?kC_NothingToUndo ?q_NothingToUndo ?g_NothingToRedo ?kC_NothingToRedo ?q_NothingToRedo ?g_UnknownDeed ?kC_UnknownDeed ?q_UnknownDeed ?g_InvalidKind ?kC_InvalidKind ?q_InvalidKind ?g_InvalidSeen ?kC_InvalidSeen ?q_InvalidSeen ?g_InvalidText ?cls_InvalidText ?sa_InvalidText ?ex_InvalidText ?ty_InvalidText ?kC_InvalidText ?l_InvalidText ?c_InvalidText ?k_InvalidText ?iC_InvalidText ?tI_InvalidText ?g_InvalidLine ?cls_InvalidLine ?sa_InvalidLine ?ex_InvalidLine ?ty_InvalidLine ?kC_InvalidLine ?l_InvalidLine ?c_InvalidLine ?k_InvalidLine ?iC_InvalidLine ?tI_InvalidLine ?z_len ?z_abs ?z_int ?z_range ?z_isinstance ?z_ValueError ?nof1 ?nof2 ?nof3 ?kt
    (case g_InvalidTerm => k_is)
    (case g_InvalidRules => k_is)
    (case g_InvalidPrices => k_is)
    (case g_InvalidPrice => k_is)
    (case g_InvalidNumber => k_is)
    (case g_InvalidShop => k_is)
    (case g_InvalidOrder => k_is)
    (case g_InvalidLog => k_is)
    (case g_InvalidLimits => k_is)
    (case g_InvalidKind => k_is)
    (case g_InvalidSeen => k_is)
    (case g_InvalidText => k_is)
    (case iC_InvalidText => k_is)
    (case g_InvalidLine => k_is)
    (case iC_InvalidLine => k_is)
    (case a__law_source => k_is)
    (case l__law_source => k_is)
    (case c__law_source => k_is)
    (case k__law_source => k_is)
    (case a__law_draw => k_is)
    (case l__law_draw => k_is)
    (case c__law_draw => k_is)
    (case k__law_draw => k_is)
    (case a__law_pick => k_is)
    (case l__law_pick => k_is)
    (case c__law_pick => k_is)
    (case k__law_pick => k_is)
    (case a__law_kinds => k_is)
    (case l__law_kinds => k_is)
    (case c__law_kinds => k_is)
    (case k__law_kinds => k_is)
    (case a__law_made => k_is)
    (case l__law_made => k_is)
    (case c__law_made => k_is)
    (case k__law_made => k_is)
    (case a__law_made_with => k_is)
    (case l__law_made_with => k_is)
    (case c__law_made_with => k_is)
    (case k__law_made_with => k_is)
    (case a_law => k_is)
    (case l_law => k_is)
    (case c_law => k_is)
    (case k_law => k_is)
    (case g_SpinError => k_is)
    (case kC_SpinError => k_is)
    (case q_SpinError => k_exc)
    (case kC_InvalidTerm => k_is)
    (case q_InvalidTerm => k_exc)
    (case kC_InvalidRules => k_is)
    (case q_InvalidRules => k_exc)
    (case kC_InvalidPrices => k_is)
    (case q_InvalidPrices => k_exc)
    (case kC_InvalidPrice => k_is)
    (case q_InvalidPrice => k_exc)
    (case kC_InvalidNumber => k_is)
    (case q_InvalidNumber => k_exc)
    (case kC_InvalidShop => k_is)
    (case q_InvalidShop => k_exc)
    (case g_TooMany => k_is)
    (case kC_TooMany => k_is)
    (case q_TooMany => k_exc)
    (case kC_InvalidOrder => k_is)
    (case q_InvalidOrder => k_exc)
    (case kC_InvalidLog => k_is)
    (case q_InvalidLog => k_exc)
    (case kC_InvalidLimits => k_is)
    (case q_InvalidLimits => k_exc)
    (case g_NotQuiet => k_is)
    (case kC_NotQuiet => k_is)
    (case q_NotQuiet => k_exc)
    (case g_NothingToUndo => k_is)
    (case kC_NothingToUndo => k_is)
    (case q_NothingToUndo => k_exc)
    (case g_NothingToRedo => k_is)
    (case kC_NothingToRedo => k_is)
    (case q_NothingToRedo => k_exc)
    (case g_UnknownDeed => k_is)
    (case kC_UnknownDeed => k_is)
    (case q_UnknownDeed => k_exc)
    (case kC_InvalidKind => k_is)
    (case q_InvalidKind => k_exc)
    (case kC_InvalidSeen => k_is)
    (case q_InvalidSeen => k_exc)
    (case cls_InvalidText => exact ⟨_, _, _, _, _, _, _, _, _, _, _, _, _, _, _, by k_is, by first | rfl | decide +kernel⟩)
    (case sa_InvalidText => k_is)
    (case ex_InvalidText => k_is)
    (case ty_InvalidText => k_is)
    (case kC_InvalidText => k_is)
    (case l_InvalidText => k_is)
    (case c_InvalidText => k_is)
    (case k_InvalidText => k_is)
    (case tI_InvalidText => k_is)
    (case cls_InvalidLine => exact ⟨_, _, _, _, _, _, _, _, _, _, _, _, _, _, _, by k_is, by first | rfl | decide +kernel⟩)
    (case sa_InvalidLine => k_is)
    (case ex_InvalidLine => k_is)
    (case ty_InvalidLine => k_is)
    (case kC_InvalidLine => k_is)
    (case l_InvalidLine => k_is)
    (case c_InvalidLine => k_is)
    (case k_InvalidLine => k_is)
    (case tI_InvalidLine => k_is)
    (case z_len => k_is)
    (case z_abs => k_is)
    (case z_int => k_is)
    (case z_range => k_is)
    (case z_isinstance => k_is)
    (case z_ValueError => k_is)
    (case nof1 => k_is)
    (case nof2 => k_is)
    (case nof3 => k_is)
    (case kt => kernel_rfl)

