import PyProof.Rows.All
import Wide.All
import OpenK.AllK
import Wide.FinOn
import HandS.ForMost
import HandS.ForExc
import HandS.NoneIn
import HandS.Evl
import KE.KEqSeq
import PyProof.StrBlock2
import HandS.IsInst
import HandS.FStr
import HandS.Codes
import KE.KIntText
import PyProof.Rows.StrIntSpec
import HandS.TupAny
import HandS.ExcInit
import HandS.ExcValue
import KE.KExcIs
import HandS.Replace
import PyProof.ListStr
import PySem.Challenge.RW_pricespin_k04_wrong_texts
set_option Elab.async false
set_option linter.all false
set_option maxRecDepth 100000
namespace DK
open PySem PySem.Spec PyProof.Rows L2
theorem hu64 {k : Nat} {A : Around} (hr : Room k A) : A.units + 64 < cLine := by
  have := hr.un
  omega
def CPowW (i j : Int) : Prop := 0 ≤ j ∧ (Builtin.Int.intBits i : Int) * j ≤ 2 ^ 27
theorem op_powW {X : Cx} : OpR X (binaryOp .Pow) (rI CPowW fun i j => .int (i ^ j.toNat)) := opI fun _ _ _ _ _ _ _ hc q => pow_int hc.1 hc.2 q
/-- a text times a number -/
theorem op_mulS {X : Cx} : OpR X (binaryOp .Mult) (fun x y H Q => ∃ z n, x = .str z ∧ y = .int n ∧ PySem.MulOk z n ∧ Q (.str (PySem.Txt.mul z n)) H) := by
  intro pins s σ H x y v u Q I rx ry h
  obtain ⟨z, n, rfl, rfl, hc, q⟩ := h
  obtain ⟨t, rfl⟩ := rx
  obtain ⟨t', rfl⟩ := ry
  exact PySem.SB.mul hc fun t2 k => ⟨.str _, H, I.tok _, ⟨_, rfl⟩, q⟩
/-- where a def of the top stands -/
structure At (K : PySem.W.Frag) (mg : Str → Option Value) (x : Str) (st : Stmt) (ps : List Str) where
  f : Addr
  fd : FuncData
  F : Fun K x x st f fd
  g : mg x = some (.ref f)
  b : Binds K fd ps []
/-- all but the addresses of M stay -/
def ExM (M : List Addr) (H H' : Hp) : Prop := ∀ a o, a ∉ M → H a = some o → H' a = some o
theorem ExM.refl (M : List Addr) (H : Hp) : ExM M H H := fun _ _ _ h => h
theorem ExM.trans {M : List Addr} {H H1 H2 : Hp} (a : ExM M H H1) (b : ExM M H1 H2) : ExM M H H2 := fun x o n h => b x o n (a x o n h)
theorem ExM.new {M : List Addr} {H : Hp} {p : Addr} {o : HO} (h : H p = none) : ExM M H (upd H p o) := fun a u _ e => by
  rw [upd_ne (ne_of_none e h)]
  exact e
theorem ExM.mut {M : List Addr} {H : Hp} {p : Addr} {o : HO} (h : p ∈ M) : ExM M H (upd H p o) := fun a u n e => by
  rw [upd_ne (show a ≠ p from fun z => n (by rw [z]; exact h))]
  exact e
theorem ExM.of {M : List Addr} {H H' : Hp} (e : Evl.Ex H H') : ExM M H H' := fun a o _ h => e a o h
/-- the source of a law's draws: at s the list of the cells' list (at c) and of the turn, at most n -/
def big : Int := 10 ^ 1200
structure Src (H : Hp) (s c : Addr) (n : Nat) : Prop where
  ne : c ≠ s
  ex : ∃ (ks : List Int) (t : Nat), H s = some (.lst [.ref c, .int (t : Int)]) ∧ H c = some (.lst (ks.map V.int)) ∧ 1 ≤ ks.length ∧ ks.length ≤ 63 ∧ t ≤ n
theorem Src.mono {H : Hp} {s c : Addr} {n m : Nat} (h : Src H s c n) (l : n ≤ m) : Src H s c m := by
  obtain ⟨a, ks, t, e1, e2, e3, e4, e5⟩ := h
  exact ⟨a, ks, t, e1, e2, e3, e4, Nat.le_trans e5 l⟩
theorem Src.ex1 {H H' : Hp} {s c : Addr} {n : Nat} (h : Src H s c n) (e : Evl.Ex H H') : Src H' s c n := by
  obtain ⟨a, ks, t, e1, e2, e3, e4, e5⟩ := h
  exact ⟨a, ks, t, e _ _ e1, e _ _ e2, e3, e4, e5⟩
theorem Src.new {H : Hp} {s c p : Addr} {o : HO} {n : Nat} (h : Src H s c n) (hp : H p = none) : Src (upd H p o) s c n := h.ex1 (Evl.Ex.new hp)
/-- _law_source(script) -/
def spSource (K : PySem.W.Frag) : Sp := fun vs H Q _ => ∃ (a : Addr) (ns : List Int), vs = [.ref a] ∧ SqL K H a (ns.map V.int) ∧ ns.length ≤ 63 ∧
  ∀ s c H', Evl.Ex H H' → H s = none → H c = none → Src H' s c 0 → Q (.ref s) H'
/-- _law_draw(source, limit) -/
def spDraw : Sp := fun vs H Q _ => ∃ (s c : Addr) (n : Nat) (l : Int), vs = [.ref s, .int l] ∧ Src H s c n ∧ n < 2 ^ 60 ∧ 0 < l ∧ l < 2 ^ 30 ∧
  ∀ (d : Int) H', 0 ≤ d → d < l → ExM [s, c] H H' → Src H' s c (n + 1) → Q (.int d) H'
/-- _law_pick(source, values) -/
def spPick (K : PySem.W.Frag) : Sp := fun vs H Q _ => ∃ (s c p : Addr) (n : Nat) (xs : List V), vs = [.ref s, .ref p] ∧ Src H s c n ∧ n < 2 ^ 60 ∧ SqL K H p xs ∧ p ≠ s ∧ p ≠ c ∧ 1 ≤ xs.length ∧ xs.length ≤ 1000 ∧
  ∀ v H', v ∈ xs → ExM [s, c] H H' → Src H' s c (n + 1) → Q v H'
theorem sqm {K : PySem.W.Frag} {M : List Addr} {H H' : Hp} {a : Addr} {xs : List V} (e : ExM M H H') (n : a ∉ M) (h : SqL K H a xs) : SqL K H' a xs := by
  rcases h with (h | ⟨o, h⟩) | h
  · exact .inl (.inl (e a _ n h))
  · exact .inl (.inr ⟨o, e a _ n h⟩)
  · exact .inr h
end DK

set_option Elab.async false
set_option linter.all false
set_option maxRecDepth 100000
set_option maxHeartbeats 2000000
/-! Data over the layer: a value that bears a datum (Dp), away from the addresses M that may be written; what an expression gives, as a datum. -/
namespace DD
open PySem PySem.Spec PyProof.Rows L2 Evl DK
def mi (H : Hp) (M : List Addr) : Hp := fun a => if a ∈ M then none else H a
theorem mi_some {H : Hp} {M : List Addr} {a : Addr} {o : HO} (h : mi H M a = some o) : a ∉ M ∧ H a = some o := by
  unfold mi at h
  split at h
  · cases h
  · rename_i n
    exact ⟨n, h⟩
theorem mi_of {H : Hp} {M : List Addr} {a : Addr} {o : HO} (n : a ∉ M) (h : H a = some o) : mi H M a = some o := by
  unfold mi
  rw [if_neg n]
  exact h
def Dom (M : List Addr) (H : Hp) : Prop := ∀ m ∈ M, H m ≠ none
theorem Dom.ex {M : List Addr} {H H' : Hp} (d : Dom M H) (e : Ex H H') : Dom M H' := fun m hm => by
  cases q : H m with
  | none => exact absurd q (d m hm)
  | some o =>
    rw [e m o q]
    exact fun z => nomatch z
theorem Dom.nin {M : List Addr} {H : Hp} {p : Addr} (d : Dom M H) (h : H p = none) : p ∉ M := fun z => d p z h
theorem Dom.cons {M : List Addr} {H : Hp} {p : Addr} (d : Dom M H) (h : H p ≠ none) : Dom (p :: M) H := fun m hm => by
  rcases List.mem_cons.mp hm with rfl | hm
  · exact h
  · exact d m hm
theorem Dom.exM {M : List Addr} {H H' : Hp} {s c : Addr} {n : Nat} (d : Dom M H) (e : ExM [s, c] H H') (S : Src H' s c n) : Dom M H' := fun m hm => by
  obtain ⟨_, ks, t, e1, e2, _⟩ := S
  by_cases h1 : m = s
  · rw [h1, e1]
    exact fun z => nomatch z
  by_cases h2 : m = c
  · rw [h2, e2]
    exact fun z => nomatch z
  cases q : H m with
  | none => exact absurd q (d m hm)
  | some o =>
    rw [e m o (by simp [h1, h2]) q]
    exact fun z => nomatch z
theorem _root_.DK.ExM.sub {M M' : List Addr} {H H' : Hp} (e : ExM M H H') (s : ∀ m, m ∈ M → m ∈ M') : ExM M' H H' := fun a o n h => e a o (fun z => n (s a z)) h
theorem _root_.DK.ExM.mut0 {M : List Addr} {H H' : Hp} {p : Addr} {o : HO} (e : ExM M H H') (n : H p = none) : ExM M H (upd H' p o) := fun a u na h => by
  rw [upd_ne (ne_of_none h n)]
  exact e a u na h
theorem _root_.DK.Src.upd {H : Hp} {s c p : Addr} {n : Nat} {o : HO} (S : Src H s c n) (h1 : p ≠ s) (h2 : p ≠ c) : Src (L2.upd H p o) s c n := by
  obtain ⟨ne, ks, t, e1, e2, e3⟩ := S
  exact ⟨ne, ks, t, by rw [upd_ne (Ne.symm h1)]; exact e1, by rw [upd_ne (Ne.symm h2)]; exact e2, e3⟩
theorem _root_.DK.Src.nes' {H : Hp} {s c p : Addr} {n : Nat} (S : Src H s c n) (h : H p = none) : p ≠ s ∧ p ≠ c := by
  obtain ⟨_, ks, t, e1, e2, _⟩ := S
  exact ⟨(ne_of_none e1 h).symm, (ne_of_none e2 h).symm⟩
theorem ex_full (H : Hp) (M : List Addr) : Ex (mi H M) H := fun a o h => (mi_some h).2
theorem ex_mi {H H' : Hp} {M : List Addr} (e : Ex H H') : Ex (mi H M) (mi H' M) := fun a o h => mi_of (mi_some h).1 (e a o (mi_some h).2)
theorem exM_mi {H H' : Hp} {M : List Addr} (e : ExM M H H') : Ex (mi H M) (mi H' M) := fun a o h => mi_of (mi_some h).1 (e a o (mi_some h).1 (mi_some h).2)
theorem ex_less {H : Hp} {M M' : List Addr} (s : ∀ m, m ∈ M → m ∈ M') : Ex (mi H M') (mi H M) := fun a o h => mi_of (fun z => (mi_some h).1 (s a z)) (mi_some h).2
theorem ex_add {H : Hp} {M : List Addr} {p : Addr} (n : H p = none) : Ex (mi H M) (mi H (p :: M)) := fun a o h => by
  obtain ⟨h1, h2⟩ := mi_some h
  refine mi_of (fun z => ?_) h2
  rcases List.mem_cons.mp z with rfl | z
  · rw [n] at h2
    cases h2
  · exact h1 z
section
variable {K : PySem.W.Frag} {H H' : Hp} {M : List Addr}
mutual
theorem dpx (e : Ex H H') : ∀ (d : PyData) (v : V), Dp K H v d → Dp K H' v d
  | .none, _, h => by cases h; exact .non
  | .bool _, _, h => by cases h; exact .bl _
  | .int _, _, h => by cases h; exact .int _
  | .str _, _, h => by cases h; exact .str _
  | .list ds, _, h => by
    cases h with
    | lst h1 h2 => exact .lst (ex_l e h1) (dpxs e ds _ h2)
  | .tuple ds, _, h => by
    cases h with
    | tup h1 h2 => exact .tup (ex_t e h1) (dpxs e ds _ h2)
  | .dict _, _, h => by cases h
theorem dpxs (e : Ex H H') : ∀ (ds : List PyData) (vs : List V), DpAll K H vs ds → DpAll K H' vs ds
  | [], _, h => by cases h; exact .nil
  | d :: ds, _, h => by
    cases h with
    | cons h1 h2 => exact .cons (dpx e d _ h1) (dpxs e ds _ h2)
end
end
abbrev Dm (K : PySem.W.Frag) (M : List Addr) (H : Hp) (v : V) (d : PyData) : Prop := Dp K (mi H M) v d
abbrev Dms (K : PySem.W.Frag) (M : List Addr) (H : Hp) (vs : List V) (ds : List PyData) : Prop := DpAll K (mi H M) vs ds
section
variable {K : PySem.W.Frag} {H H' : Hp} {M M' : List Addr} {v : V} {d : PyData} {vs : List V} {ds : List PyData}
theorem dm_ex (e : Ex H H') (h : Dm K M H v d) : Dm K M H' v d := dpx (ex_mi e) d v h
theorem dms_ex (e : Ex H H') (h : Dms K M H vs ds) : Dms K M H' vs ds := dpxs (ex_mi e) ds vs h
theorem dm_exM (e : ExM M H H') (h : Dm K M H v d) : Dm K M H' v d := dpx (exM_mi e) d v h
theorem dms_exM (e : ExM M H H') (h : Dms K M H vs ds) : Dms K M H' vs ds := dpxs (exM_mi e) ds vs h
theorem dm_add {p : Addr} (n : H p = none) (h : Dm K M H v d) : Dm K (p :: M) H v d := dpx (ex_add n) d v h
theorem dms_add {p : Addr} (n : H p = none) (h : Dms K M H vs ds) : Dms K (p :: M) H vs ds := dpxs (ex_add n) ds vs h
theorem dm_less {p : Addr} (h : Dm K (p :: M) H v d) : Dm K M H v d := dpx (ex_less fun m hm => List.mem_cons_of_mem p hm) d v h
theorem dms_less {p : Addr} (h : Dms K (p :: M) H vs ds) : Dms K M H vs ds := dpxs (ex_less fun m hm => List.mem_cons_of_mem p hm) ds vs h
theorem dm_full (h : Dm K M H v d) : Dp K H v d := dpx (ex_full H M) d v h
theorem dms_full (h : Dms K M H vs ds) : DpAll K H vs ds := dpxs (ex_full H M) ds vs h
theorem dm_none (h : Dp K H v d) : Dm K [] H v d := dpx (fun a o q => mi_of (by simp) q) d v h
theorem dpa_len : ∀ {vs : List V} {ds : List PyData}, DpAll K H vs ds → vs.length = ds.length
  | _, _, .nil => rfl
  | _, _, .cons _ t => congrArg (· + 1) (dpa_len t)
theorem dpa_get : ∀ {vs : List V} {ds : List PyData} {i : Nat} {d : PyData}, DpAll K H vs ds → ds[i]? = some d → ∃ v, vs[i]? = some v ∧ Dp K H v d
  | _, _, _, _, .nil, e => by simp at e
  | _, _, 0, _, .cons r _, e => by
    simp at e
    subst e
    exact ⟨_, rfl, r⟩
  | _, _, i + 1, d, .cons _ t, e => by
    obtain ⟨v, h1, h2⟩ := dpa_get (i := i) (d := d) t (by simpa using e)
    exact ⟨v, by simpa using h1, h2⟩
theorem dpa_get' : ∀ {vs : List V} {ds : List PyData} {i : Nat} {v : V}, DpAll K H vs ds → vs[i]? = some v → ∃ d, ds[i]? = some d ∧ Dp K H v d
  | _, _, _, _, .nil, e => by simp at e
  | _, _, 0, _, .cons r _, e => by
    simp at e
    subst e
    exact ⟨_, rfl, r⟩
  | _, _, i + 1, d, .cons _ t, e => by
    obtain ⟨v, h1, h2⟩ := dpa_get' (i := i) t (by simpa using e)
    exact ⟨v, by simpa using h1, h2⟩
theorem dpa_at {i : Int} (h : DpAll K H vs ds) (e : atI ds i = some d) : ∃ v, atI vs i = some v ∧ Dp K H v d := by
  unfold atI at e ⊢
  rw [dpa_len h]
  cases q : ixN ds.length i with
  | none => rw [q] at e; cases e
  | some j =>
    rw [q] at e
    exact dpa_get h e
theorem dpa_app : ∀ {vs us : List V} {ds es : List PyData}, DpAll K H vs ds → DpAll K H us es → DpAll K H (vs ++ us) (ds ++ es)
  | _, _, _, _, .nil, s => s
  | _, _, _, _, .cons r t, s => .cons r (dpa_app t s)
theorem dpa1 {d : PyData} (h : DpAll K H vs [d]) : ∃ v, vs = [v] ∧ Dp K H v d := by
  cases h with | cons h1 h2 => cases h2; exact ⟨_, rfl, h1⟩
theorem dpa2 {d e : PyData} (h : DpAll K H vs [d, e]) : ∃ v u, vs = [v, u] ∧ Dp K H v d ∧ Dp K H u e := by
  cases h with | cons h1 h2 => obtain ⟨u, rfl, h3⟩ := dpa1 h2; exact ⟨_, u, rfl, h1, h3⟩
theorem dpa3 {d e f : PyData} (h : DpAll K H vs [d, e, f]) : ∃ v u t, vs = [v, u, t] ∧ Dp K H v d ∧ Dp K H u e ∧ Dp K H t f := by
  cases h with | cons h1 h2 => obtain ⟨u, t, rfl, h4, h3⟩ := dpa2 h2; exact ⟨_, u, t, rfl, h1, h4, h3⟩
theorem dpInt {v : V} {i : Int} (h : Dp K H v (.int i)) : v = .int i := by cases h; rfl
theorem dpStr {v : V} {x : Str} (h : Dp K H v (.str x)) : v = .str x := by cases h; rfl
/-- the value of a scalar datum -/
def scV : PyData → Option V
  | .none => some .non
  | .bool b => some (.bl b)
  | .int i => some (.int i)
  | .str x => some (.str x)
  | _ => none
theorem sc_val (h : Dp K H v d) {u : V} (e : scV d = some u) : v = u := by
  cases h <;> first | (cases e; rfl) | cases e
theorem sc_dp {u : V} (e : scV d = some u) : Dp K H u d := by
  cases d <;> first | (cases e; constructor) | cases e
end
def DE (K : PySem.W.Frag) (M : List Addr) (te : TE) (σ : L2.St) (H : Hp) (d : PyData) : Prop := ∀ H1, Ex H H1 → ∀ Q : VK, (∀ v H2, Ex H1 H2 → Dm K M H2 v d → Q v H2) → te σ H1 Q
def DA (K : PySem.W.Frag) (M : List Addr) (ta : TA) (σ : L2.St) (H : Hp) (ds : List PyData) : Prop := ∀ H1, Ex H H1 → ∀ Q : List V → Hp → Prop, (∀ vs H2, Ex H1 H2 → Dms K M H2 vs ds → Q vs H2) → ta σ H1 Q
/-- a new list -/
def DL (K : PySem.W.Frag) (M : List Addr) (te : TE) (σ : L2.St) (H : Hp) (ds : List PyData) : Prop := ∀ H1, Ex H H1 → ∀ Q : VK, (∀ p vs H2, H1 p = none → Ex H1 H2 → H2 p = some (.lst vs) → Dms K (p :: M) H2 vs ds → Q (.ref p) H2) → te σ H1 Q
section
variable {K : PySem.W.Frag} {M : List Addr} {σ : L2.St} {H H' : Hp} {te ta tb : TE} {t : TA} {d e : PyData} {ds es : List PyData} {v : V}
theorem DE.mono (x : Ex H H') (h : DE K M te σ H d) : DE K M te σ H' d := fun H1 a Q q => h H1 (x.trans a) Q q
theorem DA.mono (x : Ex H H') (h : DA K M t σ H ds) : DA K M t σ H' ds := fun H1 a Q q => h H1 (x.trans a) Q q
theorem de_ev (h : Ev te σ H v) (hd : Dm K M H v d) : DE K M te σ H d := fun H1 x Q q => h H1 x Q fun H2 x2 => q v H2 x2 (dm_ex (x.trans x2) hd)
theorem de_v {i : Nat} (hd : Dm K M H v d) (h : σ[i]? = some (some v)) : DE K M (tVar i) σ H d := de_ev (ev_var h) hd
theorem de_sc {u : V} (h : Ev te σ H u) (e : scV d = some u) : DE K M te σ H d := fun H1 x Q q => h H1 x Q fun H2 x2 => q u H2 x2 (sc_dp e)
theorem ev_sc {u : V} (h : DE K M te σ H d) (e : scV d = some u) : Ev te σ H u := fun H1 x Q q => h H1 x Q fun v H2 x2 hd => by
  rw [sc_val hd e]
  exact q H2 x2
theorem da_nil : DA K M tNil σ H [] := fun H1 _ _ q => q [] H1 (Ex.refl H1) .nil
theorem da_cons (h : DE K M te σ H d) (hr : DA K M t σ H ds) : DA K M (tCons te t) σ H (d :: ds) := fun H1 x _ q =>
  h H1 x _ fun v H2 x2 hd => hr H2 (x.trans x2) _ fun vs H3 x3 hs => q _ H3 (x2.trans x3) (.cons (dm_ex x3 hd) hs)
theorem da_dl (h : DL K M te σ H es) (hM : Dom M H) (hr : DA K M t σ H ds) : DA K M (tCons te t) σ H (.list es :: ds) := fun H1 x _ q =>
  h H1 x _ fun p vs H2 n x2 hp hd => hr H2 (x.trans x2) _ fun us H3 x3 hs => q _ H3 (x2.trans x3)
    (.cons (.lst (sq_of (mi_of ((hM.ex x).nin n) (x3 _ _ hp))) (dms_ex x3 (dms_less hd))) hs)
theorem de_tup (hM : Dom M H) (h : DA K M t σ H ds) (hl : ds.length ≤ 1000) : DE K M (tTup t) σ H (.tuple ds) := fun H1 x _ q =>
  h H1 x _ fun vs H2 x2 hd => ⟨sz_of (by rw [dpa_len hd]; omega), fun p hp => q _ _ (x2.trans (Ex.new hp)) (.tup (st_of (mi_of ((hM.ex (x.trans x2)).nin hp) upd_same)) (dms_ex (Ex.new hp) hd))⟩
theorem dl_lst (h : DA K M t σ H ds) (hl : ds.length ≤ 1000) : DL K M (tLst t) σ H ds := fun H1 x _ q =>
  h H1 x _ fun vs H2 x2 hd => ⟨sz_of (by rw [dpa_len hd]; omega), fun p hp => q p vs _ (fresh_back x2 hp) (x2.trans (Ex.new hp)) upd_same (dms_ex (Ex.new hp) (dms_add hp hd))⟩
theorem de_dl (hM : Dom M H) (h : DL K M te σ H ds) : DE K M te σ H (.list ds) := fun H1 x Q q =>
  h H1 x Q fun p vs H2 n x2 hp hd => q _ H2 x2 (.lst (sq_of (mi_of ((hM.ex x).nin n) hp)) (dms_less hd))
/-- t[i], xs[i] -/
theorem de_ixT {i : Int} (ha : DE K M ta σ H (.tuple ds)) (hb : Ev tb σ H (.int i)) (e : atI ds i = some d) : DE K M (tOp (rIxT K) ta tb) σ H d := fun H1 x Q q =>
  ha H1 x _ fun v H2 x2 hd => hb H2 (x.trans x2) _ fun H3 x3 => by
    have hd3 := dm_ex x3 hd
    cases hd3 with
    | tup hs hv =>
      rename_i p xs
      obtain ⟨u, hu, du⟩ := dpa_at hv e
      exact ⟨p, xs, i, u, rfl, rfl, ex_t (ex_full _ _) hs, hu, q u H3 (x2.trans x3) du⟩
theorem de_ixL {i : Int} (ha : DE K M ta σ H (.list ds)) (hb : Ev tb σ H (.int i)) (e : atI ds i = some d) : DE K M (tOp (rIxL K) ta tb) σ H d := fun H1 x Q q =>
  ha H1 x _ fun v H2 x2 hd => hb H2 (x.trans x2) _ fun H3 x3 => by
    have hd3 := dm_ex x3 hd
    cases hd3 with
    | lst hs hv =>
      rename_i p xs
      obtain ⟨u, hu, du⟩ := dpa_at hv e
      exact ⟨p, xs, i, u, rfl, rfl, ex_l (ex_full _ _) hs, hu, q u H3 (x2.trans x3) du⟩
/-- len -/
theorem ev_lenD {ys : List PyData} (ha : DE K M ta σ H d) (e : d = .tuple ys ∨ d = .list ys) : Ev (tCB (rLenS K) (tCons ta tNil)) σ H (.int (ys.length : Int)) := fun H1 x Q q =>
  ha H1 x _ fun v H2 x2 hd => by
    have hf := dm_full hd
    rcases e with rfl | rfl
    · cases hf with
      | tup hs hv =>
        refine ⟨_, _, rfl, .inr hs, ?_⟩
        rw [dpa_len hv]
        exact q H2 x2
    · cases hf with
      | lst hs hv =>
        refine ⟨_, _, rfl, .inl hs, ?_⟩
        rw [dpa_len hv]
        exact q H2 x2
/-- a call of a def that gives a datum -/
def SpD (K : PySem.W.Frag) (M : List Addr) (sp : Sp) (ds : List PyData) (H : Hp) (r : PyData) : Prop := ∀ H1, Ex H H1 → ∀ vs, Dms K M H1 vs ds → ∀ Q : VK, (∀ v H2, Ex H1 H2 → Dm K M H2 v r → Q v H2) → ∀ E : XK, sp vs H1 Q E
theorem de_call {sp : Sp} {E : XK} {r : PyData} (h : DA K M t σ H ds) (hs : SpD K M sp ds H r) : DE K M (tCall sp [] E t) σ H r := fun H1 x Q q =>
  h H1 x _ fun vs H2 x2 hd => by
    rw [List.append_nil]
    exact hs H2 (x.trans x2) vs hd Q (fun v H3 x3 h3 => q v H3 (x2.trans x3) h3) E
/-- the promise of a def upon data: R ds r -/
def spR (K : PySem.W.Frag) (R : List PyData → PyData → Prop) : Sp := fun vs H Q _ => ∃ M ds r, Dom M H ∧ Dms K M H vs ds ∧ R ds r ∧ ∀ v H', Ex H H' → Dm K M H' v r → Q v H'
theorem spD_R {R : List PyData → PyData → Prop} {r : PyData} (hM : Dom M H) (h : R ds r) : SpD K M (spR K R) ds H r := fun H1 x vs hv Q q E => ⟨M, ds, r, hM.ex x, hv, h, q⟩
theorem de_callR {R : List PyData → PyData → Prop} {E : XK} {r : PyData} (hM : Dom M H) (h : DA K M t σ H ds) (hR : R ds r) : DE K M (tCall (spR K R) [] E t) σ H r := de_call h (spD_R hM hR)
/-- .. a new list of data -/
def spRL (K : PySem.W.Frag) (R : List PyData → List PyData → Prop) : Sp := fun vs H Q _ => ∃ M ds rs, Dom M H ∧ Dms K M H vs ds ∧ R ds rs ∧ ∀ p us H', H p = none → Ex H H' → H' p = some (.lst us) → Dms K (p :: M) H' us rs → Q (.ref p) H'
theorem dl_callR {R : List PyData → List PyData → Prop} {E : XK} {rs : List PyData} (hM : Dom M H) (h : DA K M t σ H ds) (hR : R ds rs) : DL K M (tCall (spRL K R) [] E t) σ H rs := fun H1 x Q q =>
  h H1 x _ fun vs H2 x2 hd => by
    rw [List.append_nil]
    exact ⟨M, ds, rs, hM.ex (x.trans x2), hd, hR, fun p us H3 n x3 hp h3 => q p us H3 (fresh_back x2 n) (x2.trans x3) hp h3⟩
/-- isinstance -/
def tyN : PyData → String
  | .none => "NoneType" | .bool _ => "bool" | .int _ => "int" | .str _ => "str" | .list _ => "list" | .tuple _ => "tuple" | .dict _ => "dict"
theorem tyx_of (h : Dp K H v d) : TyX K H v (.type (tyN d)) := by
  cases h with
  | non => exact .base .non
  | bl b => exact .base (.bl b)
  | int i => exact .base (.int i)
  | str x => exact .base (.str x)
  | lst hs _ =>
    rcases hs with (h | ⟨o, h⟩) | ⟨o, its, n, h, c, _⟩
    · exact .base (.lst h)
    · exact .base (.frz h)
    · exact .kList h c
  | tup hs _ =>
    rcases hs with (h | ⟨o, h⟩) | ⟨o, its, n, h, c, _⟩
    · exact .base (.tup h)
    · exact .fTuple h
    · exact .kTuple h c
theorem ev_isi {T : String} {b : Bool} (h : DE K M ta σ H d) (hb : kitB (tyN d) T = some b) : Ev (tCB (rIsi K) (tCons ta (tCons (tC (.ty T)) tNil))) σ H (.bl b) := fun H1 x Q q =>
  h H1 x _ fun v H2 x2 hd => ⟨v, .ty T, .type (tyN d), .type T, b, rfl, .ty T, tyx_of (dm_full hd), kit_ty hb, q H2 x2⟩
/-! ### statements -/
variable {D : Ends} {tz : TS} {i : Nat}
theorem q_asgD (h : DE K M te σ H d) (k : ∀ v H1, Ex H H1 → Dm K M H1 v d → tz D (σ.set i (some v)) H1) : tSeq (tAsg te (gName i)) tz D σ H := h H (Ex.refl H) _ fun v H1 x hd => k v H1 x hd
theorem q_asgDL (h : DL K M te σ H ds) (k : ∀ p vs H1, H p = none → Ex H H1 → H1 p = some (.lst vs) → Dms K (p :: M) H1 vs ds → tz D (σ.set i (some (.ref p))) H1) : tSeq (tAsg te (gName i)) tz D σ H := h H (Ex.refl H) _ fun p vs H1 n x hp hd => k p vs H1 n x hp hd
theorem s_retD (h : DE K M te σ H d) (k : ∀ v H1, Ex H H1 → Dm K M H1 v d → D.rt v H1) : tRet te D σ H := h H (Ex.refl H) _ fun v H1 x hd => k v H1 x hd
theorem s_retDL (h : DL K M te σ H ds) (k : ∀ p vs H1, H p = none → Ex H H1 → H1 p = some (.lst vs) → Dms K (p :: M) H1 vs ds → D.rt (.ref p) H1) : tRet te D σ H := h H (Ex.refl H) _ fun p vs H1 n x hp hd => k p vs H1 n x hp hd
/-! ### comprehensions -/
/-- [e for x in t], t a tuple of (l.map enc) -/
theorem dl_lcT {α : Type} {l : List α} {enc f : α → PyData} {tl : TE} {j : Nat} {ws : List Nat} (hM : Dom M H) (h : DE K M tl σ H (.tuple (l.map enc))) (hl : l.length ≤ 1000) (hw : ∀ x, wipe ((wipe σ ws).set j (some x)) ws = wipe σ ws)
    (he : ∀ a ∈ l, ∀ x H1 D, H D = none → Ex H H1 → Dom (D :: M) H1 → Dm K (D :: M) H1 x (enc a) → DE K (D :: M) te ((wipe σ ws).set j (some x)) H1 (f a)) : DL K M (tLc (iTup K tl) (gName j) tYes te ws) σ H (l.map f) := fun H0 x0 Q q => h H0 x0 _ fun v H1 x1 hd => by
  have hd' := hd
  cases hd' with
  | tup hs hv =>
  rename_i a xs
  refine ⟨a, rfl, ⟨xs, ex_t (ex_full _ _) hs⟩, fun Dl hD => ?_⟩
  have hD0 : H0 Dl = none := fresh_back x1 hD
  have hDH : H Dl = none := fresh_back x0 hD0
  have lenx : xs.length = l.length := by rw [dpa_len hv, List.length_map]
  refine lc_tup (xs := xs) (fun i H' => Ex H1 H' ∧ ∃ acc, H' Dl = some (.lst acc) ∧ Dms K (Dl :: M) H' acc ((l.take i).map f)) ⟨Ex.new hD, [], upd_same, .nil⟩ (fun i H' _ p => ex_t p.1 (ex_t (ex_full _ _) hs)) (fun i y H' hy p => ⟨hw y, ?_⟩) (fun H' p => ?_)
  · obtain ⟨p1, acc, p2, p3⟩ := p
    show te ((wipe σ ws).set j (some y)) H' _
    obtain ⟨ey, hey, dy⟩ := dpa_get' hv hy
    rw [List.getElem?_map] at hey
    cases hla : l[i]? with
    | none => rw [hla] at hey; cases hey
    | some la =>
      rw [hla] at hey
      obtain rfl : enc la = ey := Option.some.inj hey
      have hdom : Dom (Dl :: M) H' := ((hM.ex (x0.trans x1)).ex p1).cons (by rw [p2]; exact fun z => nomatch z)
      refine he la (List.mem_of_getElem? hla) y H' Dl hDH ((x0.trans x1).trans p1) hdom (dm_ex p1 (dm_add hD dy)) H' (Ex.refl _) _ fun w H2 x2 hw2 => ?_
      have eM : ExM (Dl :: M) H2 (upd H2 Dl (.lst (acc ++ [w]))) := ExM.mut (by simp)
      refine ⟨acc, x2 _ _ p2, sz_lt (by have := dpa_len p3; rw [List.length_map, List.length_take] at this; omega), (p1.trans x2).mut hD, acc ++ [w], upd_same, ?_⟩
      have e1 : (l.take (i + 1)).map f = (l.take i).map f ++ [f la] := by
        rw [List.take_add_one, hla, List.map_append]
        rfl
      rw [e1]
      exact dpa_app (dms_exM eM (dms_ex x2 p3)) (.cons (dm_exM eM hw2) .nil)
  · obtain ⟨p1, acc, p2, p3⟩ := p
    rw [lenx, List.take_length] at p3
    exact q Dl acc H' hD0 (x1.trans p1) p2 p3
end
/-! ### further words -/
section
variable {K : PySem.W.Frag} {M : List Addr} {σ : L2.St} {H : Hp} {ta tb tc : TE} {X : Cx}
theorem pe_globI {x : Str} {i : Int} {pos : Pos} (hg : Gl X x) (hm : ∃ t, X.mg x = some (.int i t)) (hd : (x == ("__debug__" : Str)) = false := by decide) : PE X (.Name x pos) (tC (.int i)) := by
  obtain ⟨t, hm⟩ := hm
  exact pe_glob hg hm ⟨t, rfl⟩ hd
theorem pe_globS {x : Str} {z : Str} {pos : Pos} (hg : Gl X x) (hm : ∃ t, X.mg x = some (.str z t)) (hd : (x == ("__debug__" : Str)) = false := by decide) : PE X (.Name x pos) (tC (.str z)) := by
  obtain ⟨t, hm⟩ := hm
  exact pe_glob hg hm ⟨t, rfl⟩ hd
/-- a statement that is not come to -/
theorem ps_never {st : Stmt} : PS X st (fun _ _ _ => False) := ⟨fun _ _ _ _ _ _ h => h.elim⟩
theorem ev_chain {f g : Int → Int → Bool} {x y z : Int} (ha : Ev ta σ H (.int x)) (hb : Ev tb σ H (.int y)) (hc : f x y = true → Ev tc σ H (.int z)) :
    Ev (tChain (rI0 fun i j => .bl (f i j)) (rI0 fun i j => .bl (g i j)) ta tb tc) σ H (.bl (f x y && g y z)) := fun H1 e Q q =>
  ha H1 e _ fun H2 e2 => hb H2 (e.trans e2) _ fun H3 e3 => ⟨x, y, rfl, rfl, f x y, rfl, by
    cases hf : f x y with
    | true =>
      rw [if_pos rfl]
      exact hc hf H3 ((e.trans e2).trans e3) _ fun H4 e4 => ⟨y, z, rfl, rfl, by
        have q' := q H4 ((e2.trans e3).trans e4)
        rw [hf] at q'
        exact q'⟩
    | false =>
      rw [if_neg Bool.false_ne_true]
      have q' := q H3 (e2.trans e3)
      rw [hf] at q'
      exact q'⟩
def isI : PyData → Bool
  | .int _ => true
  | _ => false
def isB : PyData → Bool
  | .bool _ => true
  | _ => false
def isTup : PyData → Bool
  | .tuple _ => true
  | _ => false
theorem kit_int (d : PyData) : kitB (tyN d) "int" = some (isI d || isB d) := by cases d <;> (simp only [tyN, isI, isB, isTup]; decide +kernel)
theorem kit_bool (d : PyData) : kitB (tyN d) "bool" = some (isB d) := by cases d <;> (simp only [tyN, isI, isB, isTup]; decide +kernel)
theorem kit_tuple (d : PyData) : kitB (tyN d) "tuple" = some (isTup d) := by cases d <;> (simp only [tyN, isI, isB, isTup]; decide +kernel)
theorem isI_eq (d : PyData) : ((isI d || isB d) && !isB d) = isI d := by cases d <;> rfl
theorem et_truL {p : Addr} {xs : List V} (ha : Ev ta σ H (.ref p)) (h : SqL K H p xs) : EvT (fun σ H Q => ta σ H fun x H' => ∃ k, TruV K x H' k ∧ Q k H') σ H (!xs.isEmpty) := fun H1 e Q q =>
  ha H1 e _ fun H2 e2 => ⟨!xs.isEmpty, .inl ⟨xs, ex_l (e.trans e2) h, rfl⟩, q H2 e2⟩
theorem dpa_snoc {d : PyData} : ∀ {ds : List PyData} {vs : List V}, DpAll K H vs (ds ++ [d]) → ∃ us y, vs = us ++ [y] ∧ DpAll K H us ds ∧ Dp K H y d
  | [], vs, h => by
    obtain ⟨v, rfl, hv⟩ := dpa1 h
    exact ⟨[], v, rfl, .nil, hv⟩
  | e :: ds, vs, h => by
    cases h with
    | cons h1 h2 =>
      obtain ⟨us, y, rfl, h3, h4⟩ := dpa_snoc h2
      exact ⟨_ :: us, y, rfl, .cons h1 h3, h4⟩
/-- f-strings -/
theorem ev_fmtS {y : Str} (h : Ev ta σ H (.str y)) (hl : y.length ≤ 100000) : Ev (tFmt ta) σ H (.str y) := fun H1 e Q q => h H1 e _ fun H2 e2 => .inl ⟨y, rfl, sz_of hl, q H2 e2⟩
theorem ev_fmtI {i : Int} (h : Ev ta σ H (.int i)) (hl : i.natAbs.log2 < 1920) : Ev (tFmt ta) σ H (.str (toString i)) := fun H1 e Q q => h H1 e _ fun H2 e2 => .inr ⟨i, rfl, hl, q H2 e2⟩
theorem js_all : ∀ {ts : List TE} {ys : List (List Nat)} {acc : List Nat}, Paired (fun (t : TE) (y : List Nat) => Ev t σ H (.str (SX.S y))) ts ys → (acc ++ ys.flatten).length ≤ 100000 →
    ∀ H1, Ex H H1 → ∀ Q : Str → Hp → Prop, (∀ H2, Ex H1 H2 → Q (SX.S (acc ++ ys.flatten)) H2) → tJs ts (SX.S acc) σ H1 Q
  | _, _, acc, .nil, _, H1, e, Q, q => by
    have q' := q H1 (Ex.refl _)
    simp only [List.flatten_nil, List.append_nil] at q'
    exact q'
  | _, _, acc, .cons (b := y) (l₂ := ys) r t, hl, H1, e, Q, q => by
    refine r H1 e _ fun H2 e2 => ⟨SX.S y, rfl, ?_, ?_⟩
    · rw [SX.S_cat, SX.S_len]
      refine sz_of ?_
      simp only [List.flatten_cons, List.length_append] at hl ⊢
      omega
    · rw [SX.S_cat]
      refine js_all (acc := acc ++ y) t ?_ H2 (e.trans e2) Q fun H3 e3 => ?_
      · rw [List.append_assoc, ← List.flatten_cons]
        exact hl
      · rw [List.append_assoc, ← List.flatten_cons]
        exact q H3 (e2.trans e3)
theorem ev_joined {ts : List TE} {ys : List (List Nat)} (h : Paired (fun (t : TE) (y : List Nat) => Ev t σ H (.str (SX.S y))) ts ys) (hl : ys.flatten.length ≤ 100000) :
    Ev (fun σ H Q => tJs ts Str.empty σ H fun out H1 => Q (.str out) H1) σ H (.str (SX.S ys.flatten)) := fun H1 e Q q =>
  js_all (acc := []) h hl H1 e _ fun H2 e2 => q H2 e2
/-- a text's item -/
theorem ev_ixS {z : List Nat} {i : Int} {c : Nat} (ha : Ev ta σ H (.str (SX.S z))) (hb : Ev tb σ H (.int i)) (hl : z.length ≤ 100000) (h : atI z i = some c) : Ev (tOp rIxS ta tb) σ H (.str (SX.S [c])) :=
  ev_op ha hb (rv_ixS (by rw [SX.S_len]; exact hl) h)
theorem dpa_strs {α : Type} {g : α → Str} : ∀ {l : List α} {vs : List V}, DpAll K H vs (l.map fun a => PyData.str (g a)) → vs = l.map fun a => V.str (g a)
  | [], _, h => by cases h; rfl
  | a :: l, _, h => by
    cases h with
    | cons h1 h2 =>
      obtain rfl := dpStr h1
      rw [dpa_strs h2]
      rfl
/-- sep.join([..]), the list new -/
theorem ev_join {sep : List Nat} {cs : List (List Nat)} (ho : Ev ta σ H (.str (SX.S sep))) (he : EvL tb σ H (cs.map fun y => V.str (SX.S y))) (hl : (cs.map List.length).sum + cs.length * sep.length ≤ 1000000) :
    Ev (tM1 (fun x xs H Q => ∃ a p, ∃ ys : List Str, x = .str a ∧ xs = [.ref p] ∧ (SqL K H p (ys.map V.str) ∨ SqT K H p (ys.map V.str)) ∧ (ys.map (·.length)).sum + ys.length * a.length ≤ 16777216 ∧ Q (.str (PySem.Txt.join a ys)) H) ta tb) σ H (.str (SX.S (TL.joinL sep cs))) := fun H1 e Q q =>
  ho H1 e _ fun H2 e2 => ⟨⟨_, rfl⟩, he H2 (e.trans e2) _ fun p H3 _ e3 hp => ⟨SX.S sep, p, cs.map SX.S, rfl, rfl, .inl (sq_of (by rw [hp, List.map_map]; rfl)), by rw [SX.lens, List.length_map, SX.S_len]; have e0 : (cs.map fun x => x.length).sum = (cs.map List.length).sum := rfl; omega, by
    rw [SX.join_S]
    exact q H3 (e2.trans e3)⟩⟩
end
end DD

set_option Elab.async false
set_option linter.all false
set_option maxRecDepth 100000
set_option maxHeartbeats 2000000
namespace DK
open PySem PySem.Spec PyProof.Rows L2 Evl
section
variable {K : PySem.W.Frag} {H H' : Hp}
mutual
theorem dp_ex (e : Ex H H') : ∀ (d : PyData) (v : V), Dp K H v d → Dp K H' v d
  | .none, _, h => by cases h; exact .non
  | .bool _, _, h => by cases h; exact .bl _
  | .int _, _, h => by cases h; exact .int _
  | .str _, _, h => by cases h; exact .str _
  | .list ds, _, h => by
    cases h with
    | lst h1 h2 => exact .lst (ex_l e h1) (dp_exAll e ds _ h2)
  | .tuple ds, _, h => by
    cases h with
    | tup h1 h2 => exact .tup (ex_t e h1) (dp_exAll e ds _ h2)
  | .dict _, _, h => by cases h
theorem dp_exAll (e : Ex H H') : ∀ (ds : List PyData) (vs : List V), DpAll K H vs ds → DpAll K H' vs ds
  | [], _, h => by cases h; exact .nil
  | d :: ds, _, h => by
    cases h with
    | cons h1 h2 => exact .cons (dp_ex e d _ h1) (dp_exAll e ds _ h2)
end
mutual
theorem eqv_same : ∀ d : PyData, d.canLay0 = true → PyData.eqv d d = true
  | .none, _ => rfl
  | .bool b, _ => by simp [PyData.eqv]
  | .int i, _ => by simp [PyData.eqv]
  | .str x, _ => by simp [PyData.eqv]
  | .list xs, h => by
    simp only [PyData.eqv]
    exact eqv_sameAll xs (by simpa [PyData.canLay0] using h)
  | .tuple xs, h => by
    simp only [PyData.eqv]
    exact eqv_sameAll xs (by simpa [PyData.canLay0] using h)
  | .dict _, h => by simp [PyData.canLay0] at h
theorem eqv_sameAll : ∀ ds : List PyData, PyData.canLayAll0 ds = true → PyData.eqvAll ds ds = true
  | [], _ => rfl
  | d :: ds, h => by
    have h' : d.canLay0 = true ∧ PyData.canLayAll0 ds = true := by simpa [PyData.canLayAll0] using h
    simp only [PyData.eqvAll]
    rw [eqv_same d h'.1, eqv_sameAll ds h'.2] <;> rfl
end
theorem rv_neD {x y : V} {d e : PyData} (hd : Dp K H x d) (he : Dp K H y e) (sd : SeqAt.shaped d = true) (se : SeqAt.shaped e = true) : RV (rNeD K) x y H (.bl (!PyData.eqv d e)) :=
  fun H1 e1 _ q => ⟨d, e, dp_ex e1 d _ hd, dp_ex e1 e _ he, sd, se, q H1 (Ex.refl H1)⟩
theorem rv_eqD {x y : V} {d e : PyData} (hd : Dp K H x d) (he : Dp K H y e) (sd : SeqAt.shaped d = true) (se : SeqAt.shaped e = true) : RV (rEqD K) x y H (.bl (PyData.eqv d e)) :=
  fun H1 e1 _ q => ⟨d, e, dp_ex e1 d _ hd, dp_ex e1 e _ he, sd, se, q H1 (Ex.refl H1)⟩
theorem rv_neS {x y : V} {d : PyData} (hd : Dp K H x d) (he : Dp K H y d) (sd : SeqAt.shaped d = true) : RV (rNeD K) x y H (.bl false) := by
  have h := rv_neD hd he sd sd
  rw [eqv_same d (SeqAt.canLay_of_shaped sd)] at h
  exact h
theorem dp_bools : ∀ bs : List Bool, DpAll K H (bs.map V.bl) (bs.map PyData.bool)
  | [] => .nil
  | b :: bs => .cons (.bl b) (dp_bools bs)
theorem shaped_bools (bs : List Bool) : SeqAt.shaped (.list (bs.map PyData.bool)) = true := by
  have h1 : ∀ bs : List Bool, PyData.canLayAll0 (bs.map PyData.bool) = true ∧ PyData.depthAll (bs.map PyData.bool) = 0 := fun bs => by
    induction bs with
    | nil => exact ⟨rfl, rfl⟩
    | cons b bs ih => simp [PyData.canLayAll0, PyData.canLay0, PyData.depthAll, PyData.depth, ih.1, ih.2]
  simp [SeqAt.shaped, PyData.canLay0, PyData.depth, (h1 bs).1, (h1 bs).2]
end
end DK

set_option Elab.async false
set_option linter.all false
set_option maxRecDepth 100000
set_option maxHeartbeats 1000000
/-! Terms as data. -/
namespace TM
open PySem PySem.Spec PyProof.Rows L2 Evl DK DD
inductive Hd where | least | most | rank (k : Nat)
inductive Trm where | price (s : Nat) (a : Int) | plain (n : Int) | node (h : Hd) (ps : List Trm)
mutual
def enc : Trm → PyData
  | .price s a => .tuple [.str "price", .int s, .int a]
  | .plain n => .tuple [.str "plain", .int n]
  | .node .least ps => .tuple [.str "least", .tuple (encs ps)]
  | .node .most ps => .tuple [.str "most", .tuple (encs ps)]
  | .node (.rank k) ps => .tuple [.str "rank", .int k, .tuple (encs ps)]
def encs : List Trm → List PyData
  | [] => []
  | t :: ts => enc t :: encs ts
end
theorem encs_map : ∀ ts : List Trm, encs ts = ts.map enc
  | [] => by simp [encs]
  | t :: ts => by simp [encs, encs_map ts]
mutual
def cnt : Trm → Nat
  | .price _ _ => 1
  | .plain _ => 1
  | .node _ ps => cnts ps + 1
def cnts : List Trm → Nat
  | [] => 0
  | t :: ts => cnt t + cnts ts
end
mutual
def dep : Trm → Nat
  | .price _ _ => 1
  | .plain _ => 1
  | .node _ ps => deps ps + 1
def deps : List Trm → Nat
  | [] => 0
  | t :: ts => max (dep t) (deps ts)
end
def big30 (n : Int) : Prop := -(10 ^ 30) ≤ n ∧ n ≤ 10 ^ 30
def hdOk (h : Hd) (m : Nat) : Prop := match h with
  | .rank k => 1 ≤ k ∧ k ≤ m
  | _ => True
mutual
/-- by the numbers of the document, but for the bounds of levels and terms -/
def wf : Trm → Prop
  | .price s a => s ≤ 5 ∧ big30 a
  | .plain n => big30 n
  | .node h ps => 1 ≤ ps.length ∧ ps.length ≤ 6 ∧ hdOk h ps.length ∧ wfs ps
def wfs : List Trm → Prop
  | [] => True
  | t :: ts => wf t ∧ wfs ts
end
theorem wfs_mem : ∀ {ts : List Trm} {t : Trm}, wfs ts → t ∈ ts → wf t
  | a :: ts, t, h, m => by
    simp only [wfs] at h
    rcases List.mem_cons.mp m with rfl | m
    · exact h.1
    · exact wfs_mem h.2 m
theorem wfs_all : ∀ {ts : List Trm}, (∀ t ∈ ts, wf t) → wfs ts
  | [], _ => by simp [wfs]
  | a :: ts, h => by
    simp only [wfs]
    exact ⟨h a (by simp), wfs_all fun t ht => h t (List.mem_cons_of_mem _ ht)⟩
theorem cnt_pos : ∀ t : Trm, 1 ≤ cnt t
  | .price _ _ => by simp [cnt]
  | .plain _ => by simp [cnt]
  | .node _ ps => by simp [cnt]
theorem dep_pos : ∀ t : Trm, 1 ≤ dep t
  | .price _ _ => by simp [dep]
  | .plain _ => by simp [dep]
  | .node _ ps => by simp [dep]
theorem deps_mem : ∀ {ts : List Trm} {t : Trm}, t ∈ ts → dep t ≤ deps ts
  | a :: ts, t, m => by
    simp only [deps]
    rcases List.mem_cons.mp m with rfl | m
    · omega
    · have := deps_mem m
      omega
theorem cnts_app : ∀ (xs ys : List Trm), cnts (xs ++ ys) = cnts xs + cnts ys
  | [], ys => by simp [cnts]
  | x :: xs, ys => by
    rw [List.cons_append]
    simp only [cnts, cnts_app xs ys]
    omega
def kids : Trm → List Trm
  | .node _ ps => ps
  | _ => []
def leaf : Trm → Bool
  | .node _ _ => false
  | _ => true
theorem cnt_kids (t : Trm) : cnt t = cnts (kids t) + 1 := by
  cases t <;> simp [cnt, kids, cnts]
theorem dep_kids {t u : Trm} (h : u ∈ kids t) : dep u + 1 ≤ dep t := by
  cases t with
  | node h' ps =>
    have := deps_mem (show u ∈ ps from h)
    simp only [dep]
    omega
  | price _ _ => cases h
  | plain _ => cases h
theorem wf_kids {t u : Trm} (w : wf t) (h : u ∈ kids t) : wf u := by
  cases t with
  | node h' ps =>
    simp only [wf] at w
    exact wfs_mem w.2.2.2 h
  | price _ _ => cases h
  | plain _ => cases h
/-- the word a term begins with -/
def word : Trm → Str
  | .price _ _ => "price"
  | .plain _ => "plain"
  | .node .least _ => "least"
  | .node .most _ => "most"
  | .node (.rank _) _ => "rank"
/-- the data of a term's tuple -/
def encL : Trm → List PyData
  | .price s a => [.str "price", .int s, .int a]
  | .plain n => [.str "plain", .int n]
  | .node .least ps => [.str "least", .tuple (ps.map enc)]
  | .node .most ps => [.str "most", .tuple (ps.map enc)]
  | .node (.rank k) ps => [.str "rank", .int k, .tuple (ps.map enc)]
theorem enc_eq (t : Trm) : enc t = .tuple (encL t) := by
  match t with
  | .price s a => simp only [enc, encL]
  | .plain n => simp only [enc, encL]
  | .node .least ps => simp only [enc, encL, encs_map]
  | .node .most ps => simp only [enc, encL, encs_map]
  | .node (.rank k) ps => simp only [enc, encL, encs_map]
theorem encL_word (t : Trm) : atI (encL t) 0 = some (.str (word t)) := by
  match t with
  | .price s a => rfl
  | .plain n => rfl
  | .node .least ps => rfl
  | .node .most ps => rfl
  | .node (.rank k) ps => rfl
theorem encL_kids {t : Trm} (h : leaf t = false) : atI (encL t) (-1) = some (.tuple ((kids t).map enc)) := by
  match t, h with
  | .node .least ps, _ => rfl
  | .node .most ps, _ => rfl
  | .node (.rank k) ps, _ => rfl
theorem leaf_word (t : Trm) : leaf t = (decide (V.str (word t) = V.str "price") || decide (V.str (word t) = V.str "plain")) := by
  match t with
  | .price s a => rfl
  | .plain n => rfl
  | .node .least ps => rfl
  | .node .most ps => rfl
  | .node (.rank k) ps => rfl
theorem leaf_kids {t : Trm} (h : leaf t = true) : kids t = [] := by
  cases t with
  | node h' ps => cases h
  | price _ _ => rfl
  | plain _ => rfl
def num (n : Int) : Bool := decide (-(10 ^ 30) ≤ n) && decide (n ≤ 10 ^ 30)
/-- is it of the form of a term, if its parts are terms -/
def form : Trm → Bool
  | .price s a => (decide ((0 : Int) ≤ (s : Int)) && decide ((s : Int) ≤ 5)) && num a
  | .plain n => num n
  | .node (.rank k) ps => (decide ((1 : Int) ≤ (ps.length : Int)) && decide ((ps.length : Int) ≤ 6)) && (decide ((1 : Int) ≤ (k : Int)) && decide ((k : Int) ≤ (ps.length : Int)))
  | .node _ ps => decide ((1 : Int) ≤ (ps.length : Int)) && decide ((ps.length : Int) ≤ 6)
theorem encL_len (t : Trm) : (encL t).length ≤ 3 ∧ 2 ≤ (encL t).length := by
  match t with
  | .price s a => exact ⟨by simp [encL], by simp [encL]⟩
  | .plain n => exact ⟨by simp [encL], by simp [encL]⟩
  | .node .least ps => exact ⟨by simp [encL], by simp [encL]⟩
  | .node .most ps => exact ⟨by simp [encL], by simp [encL]⟩
  | .node (.rank k) ps => exact ⟨by simp [encL], by simp [encL]⟩
mutual
/-- each term in it has the form -/
def fr : Trm → Bool
  | .price s a => form (.price s a)
  | .plain n => form (.plain n)
  | .node h ps => form (.node h ps) && frs ps
def frs : List Trm → Bool
  | [] => true
  | t :: ts => fr t && frs ts
end
theorem frs_iff : ∀ {ts : List Trm}, frs ts = true ↔ ∀ t ∈ ts, fr t = true
  | [] => by simp [frs]
  | a :: ts => by
    simp only [frs, Bool.and_eq_true, List.mem_cons, forall_eq_or_imp]
    exact and_congr Iff.rfl frs_iff
theorem fr_iff (t : Trm) : fr t = true ↔ form t = true ∧ ∀ u ∈ kids t, fr u = true := by
  cases t with
  | price s a => simp [fr, kids]
  | plain n => simp [fr, kids]
  | node h ps =>
    simp only [fr, Bool.and_eq_true, kids]
    exact and_congr Iff.rfl frs_iff
theorem deps_le {n : Nat} : ∀ {ts : List Trm}, deps ts ≤ n ↔ ∀ t ∈ ts, dep t ≤ n
  | [] => by simp [deps]
  | a :: ts => by
    simp only [deps, List.mem_cons, forall_eq_or_imp]
    have := deps_le (n := n) (ts := ts)
    constructor
    · intro h
      exact ⟨by omega, this.mp (by omega)⟩
    · intro h
      have := this.mpr h.2
      omega
theorem dep_iff (t : Trm) (n : Nat) : dep t ≤ n + 1 ↔ ∀ u ∈ kids t, dep u ≤ n := by
  cases t with
  | price s a => simp [dep, kids]
  | plain n => simp [dep, kids]
  | node h ps =>
    simp only [dep, kids]
    rw [← deps_le]
    omega
theorem form_kids {t : Trm} (h : form t = true) : (kids t).length ≤ 6 := by
  match t, h with
  | .price s a, _ => simp [kids]
  | .plain n, _ => simp [kids]
  | .node (.rank k) ps, h => simp [form] at h; simp only [kids]; omega
  | .node .least ps, h => simp [form] at h; simp only [kids]; omega
  | .node .most ps, h => simp [form] at h; simp only [kids]; omega
/-- the document's bounds -/
def okT (t : Trm) : Prop := cnt t ≤ 40 ∧ dep t ≤ 6 ∧ fr t = true
def good (e : Trm × Nat) : Prop := e.2 + dep e.1 ≤ 7 ∧ fr e.1 = true
theorem good_iff (t : Trm) (lv : Nat) : good (t, lv) ↔ lv ≤ 6 ∧ form t = true ∧ ∀ u ∈ kids t, good (u, lv + 1) := by
  unfold good
  have h1 := fr_iff t
  have hd := dep_pos t
  constructor
  · rintro ⟨a, b⟩
    obtain ⟨b1, b2⟩ := h1.mp b
    refine ⟨by simp only at a; omega, b1, fun u hu => ⟨?_, b2 u hu⟩⟩
    have := dep_kids hu
    simp only at a ⊢
    omega
  · rintro ⟨a, b, c⟩
    refine ⟨?_, h1.mpr ⟨b, fun u hu => (c u hu).2⟩⟩
    have : dep t ≤ (6 - lv) + 1 := (dep_iff t (6 - lv)).mpr fun u hu => by
      have := (c u hu).1
      simp only at this
      omega
    simp only
    omega
mutual
/-- its shops are below sh, its numbers within mo -/
def inB (sh mo : Int) : Trm → Prop
  | .price s a => (s : Int) < sh ∧ -mo ≤ a ∧ a ≤ mo
  | .plain n => -mo ≤ n ∧ n ≤ mo
  | .node _ ps => inBs sh mo ps
def inBs (sh mo : Int) : List Trm → Prop
  | [] => True
  | t :: ts => inB sh mo t ∧ inBs sh mo ts
end
theorem inBs_iff {sh mo : Int} : ∀ {ts : List Trm}, inBs sh mo ts ↔ ∀ t ∈ ts, inB sh mo t
  | [] => by simp [inBs]
  | a :: ts => by
    simp only [inBs, List.mem_cons, forall_eq_or_imp]
    exact and_congr Iff.rfl inBs_iff
/-- how many terms a term of so many levels has at most, each with at most three parts -/
def cap : Nat → Nat
  | 0 => 0
  | l + 1 => 1 + 3 * cap l
/-- what a law draws -/
structure Gen (sh mo : Int) (l : Nat) (t : Trm) : Prop where
  fr : fr t = true
  dep : dep t ≤ l
  cnt : cnt t ≤ cap l
  inB : inB sh mo t
theorem cnts_le {m : Nat} : ∀ {ts : List Trm}, (∀ t ∈ ts, cnt t ≤ m) → cnts ts ≤ ts.length * m
  | [], _ => by simp [cnts]
  | a :: ts, h => by
    have h1 := h a (by simp)
    have h2 := cnts_le (ts := ts) (m := m) fun t ht => h t (List.mem_cons_of_mem _ ht)
    simp only [cnts, List.length_cons, Nat.succ_mul]
    omega
theorem num_of {mo a : Int} (h1 : -mo ≤ a) (h2 : a ≤ mo) (hm : mo ≤ 10 ^ 30) : num a = true := by
  unfold num
  rw [decide_eq_true (by omega), decide_eq_true (by omega)] <;> rfl
theorem Gen.plain {sh mo a : Int} {l : Nat} (h1 : -mo ≤ a) (h2 : a ≤ mo) (hm : mo ≤ 10 ^ 30) : Gen sh mo (l + 1) (.plain a) :=
  ⟨by simp only [TM.fr, form]; exact num_of h1 h2 hm, by simp [TM.dep], by simp only [TM.cnt, cap]; omega, by simp only [TM.inB]; exact ⟨h1, h2⟩⟩
theorem Gen.price {sh mo a : Int} {s l : Nat} (h0 : (s : Int) < sh) (h6 : sh ≤ 6) (h1 : -mo ≤ a) (h2 : a ≤ mo) (hm : mo ≤ 10 ^ 30) : Gen sh mo (l + 1) (.price s a) :=
  ⟨by
    simp only [TM.fr, form]
    rw [num_of h1 h2 hm, decide_eq_true (by omega), decide_eq_true (by omega)] <;> rfl, by simp [TM.dep], by simp only [TM.cnt, cap]; omega, by simp only [TM.inB]; exact ⟨h0, h1, h2⟩⟩
theorem Gen.node {sh mo : Int} {l : Nat} {h : Hd} {ps : List Trm} (h1 : 1 ≤ ps.length) (h3 : ps.length ≤ 3) (hh : hdOk h ps.length) (hp : ∀ t ∈ ps, Gen sh mo l t) : Gen sh mo (l + 1) (.node h ps) := by
  refine ⟨?_, ?_, ?_, ?_⟩
  · rw [fr_iff]
    refine ⟨?_, fun u hu => (hp u hu).fr⟩
    cases h with
    | least => simp only [form]; rw [decide_eq_true (by omega), decide_eq_true (by omega)] <;> rfl
    | most => simp only [form]; rw [decide_eq_true (by omega), decide_eq_true (by omega)] <;> rfl
    | rank k =>
      simp only [hdOk] at hh
      simp only [form]
      rw [decide_eq_true (by omega), decide_eq_true (by omega), decide_eq_true (by omega), decide_eq_true (by omega)] <;> rfl
  · rw [dep_iff]
    exact fun u hu => (hp u hu).dep
  · have := cnts_le (m := cap l) fun t ht => (hp t ht).cnt
    simp only [TM.cnt, cap]
    have h4 : ps.length * cap l ≤ 3 * cap l := Nat.mul_le_mul_right _ h3
    omega
  · simp only [TM.inB]
    exact inBs_iff.mpr fun u hu => (hp u hu).inB
theorem Gen.okT {sh mo : Int} {l : Nat} {t : Trm} (h : Gen sh mo l t) (hl : l ≤ 4) : okT t := by
  refine ⟨?_, by have := h.dep; omega, h.fr⟩
  have := h.cnt
  have hc : cap l ≤ 40 := by
    match l, hl with
    | 0, _ => decide
    | 1, _ => decide
    | 2, _ => decide
    | 3, _ => decide
    | 4, _ => decide
  omega
theorem cnts_mem : ∀ {ts : List Trm} {t : Trm}, t ∈ ts → cnt t ≤ cnts ts
  | a :: ts, t, h => by
    simp only [cnts]
    rcases List.mem_cons.mp h with rfl | h
    · omega
    · have := cnts_mem h
      omega
end TM

set_option Elab.async false
set_option linter.all false
set_option maxRecDepth 100000
set_option maxHeartbeats 1000000
/-! Terms as texts: codes of what is written. -/
namespace TX
open PySem PySem.Spec PyProof.Rows L2 Evl DK DD TM SX PySem.W
/-- the digits of a number -/
def dg (n : Nat) : List Nat := (Nat.toDigits 10 n).map Char.toNat
theorem str_nat (n : Nat) : Str.ofString (toString ((n : Nat) : Int)) = S (dg n) := by
  rw [← S_tl (Str.ofString (toString ((n : Nat) : Int))), KIN.signs_num]
  rfl
def intc (n : Int) : List Nat := (if n < 0 then [45] else []) ++ dg n.natAbs
theorem str_int (n : Int) : Str.ofString (toString n) = S (intc n) := by
  cases n with
  | ofNat m =>
    have h := str_nat m
    have e : intc (Int.ofNat m) = dg m := by
      unfold intc
      rw [if_neg (by simp)]
      rfl
    rw [e]
    exact h
  | negSucc m =>
    have e : intc (Int.negSucc m) = 45 :: dg (m + 1) := by
      unfold intc
      rw [if_pos (by omega)]
      rfl
    rw [e, Str.ofString_eq_toList]
    show (⟨(("-" ++ Nat.repr (m + 1)).toList.map Char.toNat).toArray⟩ : Str) = _
    rw [String.toList_append, List.map_append, Nat.toList_repr]
    rfl
def addc (a : Int) : List Nat := if a = 0 then [] else [32, (if a < 0 then 45 else 43), 32] ++ dg a.natAbs
def hdc : Hd → List Nat
  | .least => [108, 101, 97, 115, 116]
  | .most => [109, 111, 115, 116]
  | .rank k => [114, 97, 110, 107, 32] ++ dg k
mutual
/-- the text of a term -/
def wrc : Trm → List Nat
  | .price s a => (97 + s) :: addc a
  | .plain n => intc n
  | .node h ps => hdc h ++ ([40] ++ (TL.joinL [44, 32] (wrcs ps) ++ [41]))
def wrcs : List Trm → List (List Nat)
  | [] => []
  | t :: ts => wrc t :: wrcs ts
end
theorem wrcs_map : ∀ ts : List Trm, wrcs ts = ts.map wrc
  | [] => by simp [wrcs]
  | t :: ts => by simp [wrcs, wrcs_map ts]
theorem dg_len {n : Nat} (h : n ≤ 10 ^ 30) : (dg n).length ≤ 31 := by
  unfold dg
  rw [List.length_map]
  exact PyProof.Rows.digits10_le (by decide) (by omega)
theorem joinL_len (s : List Nat) : ∀ ys : List (List Nat), (TL.joinL s ys).length ≤ (ys.map List.length).sum + ys.length * s.length
  | [] => by simp [TL.joinL]
  | [p] => by simp [TL.joinL]
  | p :: q :: r => by
    have := joinL_len s (q :: r)
    simp only [TL.joinL, List.length_append, List.map_cons, List.sum_cons, List.length_cons, Nat.succ_mul] at this ⊢
    omega
theorem num_abs {a : Int} (h : num a = true) : a.natAbs ≤ 10 ^ 30 := by
  simp only [num, Bool.and_eq_true, decide_eq_true_eq] at h
  omega
mutual
theorem wrc_len : ∀ t : Trm, fr t = true → (wrc t).length ≤ 60 * cnt t
  | .price s a, h => by
    simp only [TM.fr, form, Bool.and_eq_true] at h
    have := dg_len (num_abs h.2)
    simp only [wrc, addc, TM.cnt]
    split
    · simp
    · simp only [List.length_cons, List.length_append, List.length_nil]
      omega
  | .plain n, h => by
    simp only [TM.fr, form] at h
    have := dg_len (num_abs h)
    simp only [wrc, intc, TM.cnt]
    split
    · simp only [List.length_cons, List.length_append, List.length_nil]
      omega
    · simp only [List.length_append, List.length_nil]
      omega
  | .node hd ps, h => by
    have hf := (fr_iff (.node hd ps)).mp h
    have kl := form_kids hf.1
    simp only [kids] at kl
    have h2 := wrcs_len ps (TM.frs_iff.mpr hf.2)
    have hj := joinL_len [44, 32] (wrcs ps)
    have hl : (wrcs ps).length = ps.length := by rw [wrcs_map, List.length_map]
    rw [hl] at hj
    have hh : (hdc hd).length ≤ 36 := by
      cases hd with
      | least => decide
      | most => decide
      | rank k =>
        have hk : k ≤ 6 := by
          have := hf.1
          simp only [form, Bool.and_eq_true, decide_eq_true_eq] at this
          omega
        have := dg_len (n := k) (by omega)
        simp only [hdc, List.length_append, List.length_cons, List.length_nil]
        omega
    simp only [wrc, TM.cnt, List.length_append, List.length_cons, List.length_nil] at hj ⊢
    omega
theorem wrcs_len : ∀ ts : List Trm, TM.frs ts = true → ((wrcs ts).map List.length).sum ≤ 60 * cnts ts
  | [], _ => by simp [wrcs, cnts]
  | t :: ts, h => by
    simp only [TM.frs, Bool.and_eq_true] at h
    have h1 := wrc_len t h.1
    have h2 := wrcs_len ts h.2
    simp only [wrcs, cnts, List.map_cons, List.sum_cons]
    omega
end
/-! ### the law's words -/
mutual
def lw : Trm → List (List Nat)
  | .price s a => if a = 0 then [[97 + s]] else [[97 + s], [32], [if a > 0 then 43 else 45], [32], dg a.natAbs]
  | .plain n => (if n < 0 then [[45]] else []) ++ [dg n.natAbs]
  | .node .least ps => [[108, 101, 97, 115, 116], [40]] ++ (lws ps ++ [[41]])
  | .node .most ps => [[109, 111, 115, 116], [40]] ++ (lws ps ++ [[41]])
  | .node (.rank k) ps => [[114, 97, 110, 107], [32], dg k, [40]] ++ (lws ps ++ [[41]])
def lws : List Trm → List (List Nat)
  | [] => []
  | [t] => lw t
  | t :: u :: ts => lw t ++ ([[44], [32]] ++ lws (u :: ts))
end
mutual
theorem lw_flat : ∀ t : Trm, (lw t).flatten = wrc t
  | .price s a => by
    simp only [lw, wrc, addc]
    split
    · simp
    · rename_i h
      have : (if a > 0 then 43 else 45) = (if a < 0 then 45 else 43) := by
        split <;> split <;> omega
      simp [this]
  | .plain n => by
    simp only [lw, wrc, intc]
    split <;> simp
  | .node .least ps => by simp [lw, wrc, hdc, lws_flat ps]
  | .node .most ps => by simp [lw, wrc, hdc, lws_flat ps]
  | .node (.rank k) ps => by simp [lw, wrc, hdc, lws_flat ps]
theorem lws_flat : ∀ ts : List Trm, (lws ts).flatten = TL.joinL [44, 32] (wrcs ts)
  | [] => by simp [lws, wrcs, TL.joinL]
  | [t] => by simp [lws, wrcs, TL.joinL, lw_flat t]
  | t :: u :: ts => by
    have := lws_flat (u :: ts)
    simp only [wrcs] at this
    simp [lws, wrcs, TL.joinL, lw_flat t, this]
end
theorem joinL_nil : ∀ ys : List (List Nat), TL.joinL [] ys = ys.flatten
  | [] => rfl
  | [p] => by simp [TL.joinL]
  | p :: q :: r => by
    have := joinL_nil (q :: r)
    simp only [TL.joinL, this]
    simp
end TX

set_option Elab.async false
set_option linter.all false
set_option maxRecDepth 100000
set_option maxHeartbeats 1000000
/-! A reader of a text: an object with the text and the place. -/
namespace RD
open PySem PySem.Spec PyProof.Rows L2 Evl DK DD TM TX SX PySem.W
/-- all but r is as it was -/
def But (r : Addr) (H H' : Hp) : Prop := ∀ a, a ≠ r → H' a = H a
theorem But.refl (r : Addr) (H : Hp) : But r H H := fun _ _ => rfl
theorem But.trans {r : Addr} {H H1 H2 : Hp} (a : But r H H1) (b : But r H1 H2) : But r H H2 := fun x n => (b x n).trans (a x n)
theorem But.upd {r : Addr} {H : Hp} {o : HO} : But r H (L2.upd H r o) := fun a n => upd_ne n
def flds (cs : List Nat) (n : Nat) : List (Str × V) := [("text", .str (S cs)), ("at", .int (n : Int))]
def rdr (C dx : Addr) (cs : List Nat) (n : Nat) : HO := .ins C dx (flds cs n)
theorem lk_text (cs : List Nat) (n : Nat) : (flds cs n).lookup (Str.ofString "text") = some (.str (S cs)) := by simp [flds, List.lookup]
theorem lk_at (cs : List Nat) (n : Nat) : (flds cs n).lookup (Str.ofString "at") = some (.int (n : Int)) := by
  have z : (Str.ofString "at" == Str.ofString "text") = false := by decide +kernel
  simp [flds, List.lookup, z]
theorem put_at (cs : List Nat) (n : Nat) (m : Int) (k : Nat) (h : m = (k : Int)) : putF (Str.ofString "at") (.int m) (flds cs n) = flds cs k := by
  have z : ¬ (Str.ofString "text" = Str.ofString "at") := by decide +kernel
  subst h
  simp [flds, putF, z]
theorem cut1 {cs : List Nat} {n : Nat} (h : n ≤ cs.length) : cutS (S cs) (some (n : Int)) (some ((n : Int) + 1)) = S ((cs.drop n).take 1) := by
  have e : ((n : Int) + 1) = ((n + 1 : Nat) : Int) := by omega
  unfold cutS
  rw [e, HT.sIx_nat, HT.sIx_nat, S_len]
  show S _ = _
  rw [Nat.min_eq_left h]
  by_cases h1 : n + 1 ≤ cs.length
  · rw [Nat.min_eq_left h1, show n + 1 - n = 1 by omega]
  · have : n = cs.length := by omega
    rw [Nat.min_eq_right (by omega), this, List.drop_length]
    simp
theorem cutN {cs : List Nat} {n k : Nat} (h : n + k ≤ cs.length) : cutS (S cs) (some (n : Int)) (some ((n + k : Nat) : Int)) = S ((cs.drop n).take k) := by
  unfold cutS
  rw [HT.sIx_nat, HT.sIx_nat, S_len]
  show S _ = _
  rw [Nat.min_eq_left h, Nat.min_eq_left (show n ≤ cs.length by omega), show n + k - n = k by omega]
theorem cut0 {cs : List Nat} {k : Nat} : cutS (S cs) none (some (k : Int)) = S (cs.take k) := by
  unfold cutS
  rw [HT.sIx_none, HT.sIx_nat, S_len]
  show S ((cs.drop 0).take (min k cs.length - 0)) = _
  rw [List.drop_zero, Nat.sub_zero]
  by_cases h : k ≤ cs.length
  · rw [Nat.min_eq_left h]
  · rw [Nat.min_eq_right (by omega), List.take_of_length_le (by omega), List.take_of_length_le (by omega)]
/-- how many blanks stand ahead -/
def skip : List Nat → Nat
  | [] => 0
  | c :: cs => if c = 32 then skip cs + 1 else 0
theorem skip_le : ∀ cs : List Nat, skip cs ≤ cs.length
  | [] => by simp [skip]
  | c :: cs => by
    simp only [skip]
    split
    · have := skip_le cs
      simp only [List.length_cons]
      omega
    · simp
theorem skip_take : ∀ (cs : List Nat) (k : Nat), k ≤ skip cs → (((cs.drop k).take 1 = [32]) ↔ k < skip cs)
  | [], k, h => by simp [skip] at h ⊢
  | c :: cs, 0, h => by
    simp only [skip]
    by_cases hc : c = 32 <;> simp [hc]
  | c :: cs, k + 1, h => by
    simp only [skip] at h ⊢
    by_cases hc : c = 32
    · rw [if_pos hc] at h ⊢
      have := skip_take cs k (by omega)
      simp only [List.drop_succ_cons]
      rw [this]
      omega
    · rw [if_neg hc] at h
      omega
section
variable {K : PySem.W.Frag} {σ : L2.St} {H : Hp} {ta tb : TE} {C dx r : Addr} {cs : List Nat} {n : Nat}
theorem ev_fld {fs : List (Str × V)} {f : Str} {v : V} (ha : Ev ta σ H (.ref r)) (ho : H r = some (.ins C dx fs)) (cl : Cls K C) (hn : NoAttr K C f) (hl : fs.lookup f = some v) : Ev (tFld K ta f) σ H v := fun H1 e Q q =>
  ha H1 e _ fun H2 e2 => ⟨r, C, dx, fs, v, rfl, (e.trans e2) _ _ ho, cl, hn, hl, q H2 e2⟩
theorem ev_slS {tl th : TO} {z : List Nat} {lo hi : Option Int} {y : Str} (h : Ev ta σ H (.str (S z))) (h1 : EvO tl σ H lo) (h2 : EvO th σ H hi) (hl : z.length ≤ 100000) (e : cutS (S z) lo hi = y) : Ev (tSl rSlS ta tl th) σ H (.str y) := fun H1 x Q q =>
  h H1 x _ fun H2 x2 => h1 H2 (x.trans x2) _ fun H3 x3 => h2 H3 ((x.trans x2).trans x3) _ fun H4 x4 => ⟨S z, rfl, sz_of (by rw [S_len]; exact hl), by
    rw [e]
    exact q H4 ((x2.trans x3).trans x4)⟩
theorem ev_lenS {y : List Nat} (h : Ev ta σ H (.str (S y))) (hl : y.length ≤ 100000) : Ev (tCB (fun xs H Q => ∃ z, xs = [.str z] ∧ z.length ≤ sizeLine ∧ Q (.int z.length) H) (tCons ta tNil)) σ H (.int (y.length : Int)) := fun H1 x Q q =>
  h H1 x _ fun H2 x2 => ⟨S y, rfl, sz_of (by rw [S_len]; exact hl), by
    rw [S_len]
    exact q H2 x2⟩
theorem ev_inS {c : Nat} {z : List Nat} (ha : Ev ta σ H (.str (S [c]))) (hb : Ev tb σ H (.str (S z))) : Ev (tOp (fun x y H Q => ∃ (c : Nat) (z : Str), x = .str ⟨#[c]⟩ ∧ y = .str z ∧ Q (.bl (decide (c ∈ z.cps.toList))) H) ta tb) σ H (.bl (decide (c ∈ z))) := fun H1 e Q q =>
  ha H1 e _ fun H2 e2 => hb H2 (e.trans e2) _ fun H3 e3 => ⟨c, S z, rfl, rfl, q H3 (e2.trans e3)⟩
theorem ev_ninS {c : Nat} {z : List Nat} (ha : Ev ta σ H (.str (S [c]))) (hb : Ev tb σ H (.str (S z))) : Ev (tOp (fun x y H Q => ∃ (c : Nat) (z : Str), x = .str ⟨#[c]⟩ ∧ y = .str z ∧ Q (.bl (!decide (c ∈ z.cps.toList))) H) ta tb) σ H (.bl (!decide (c ∈ z))) := fun H1 e Q q =>
  ha H1 e _ fun H2 e2 => hb H2 (e.trans e2) _ fun H3 e3 => ⟨c, S z, rfl, rfl, q H3 (e2.trans e3)⟩
end
/-- the signs of al that stand ahead -/
def runL (al : List Nat) : List Nat → Nat
  | [] => 0
  | c :: cs => if c ∈ al then runL al cs + 1 else 0
theorem runL_le (al : List Nat) : ∀ cs : List Nat, runL al cs ≤ cs.length
  | [] => by simp [runL]
  | c :: cs => by
    simp only [runL]
    split
    · have := runL_le al cs
      simp only [List.length_cons]
      omega
    · simp
theorem runL_at (al : List Nat) : ∀ (cs : List Nat) (k c : Nat), k ≤ runL al cs → cs[k]? = some c → (c ∈ al ↔ k < runL al cs)
  | [], k, c, h, e => by simp at e
  | d :: cs, 0, c, h, e => by
    simp at e
    subst e
    simp only [runL]
    by_cases hc : d ∈ al <;> simp [hc]
  | d :: cs, k + 1, c, h, e => by
    simp only [runL] at h ⊢
    by_cases hc : d ∈ al
    · rw [if_pos hc] at h ⊢
      have := runL_at al cs k c (by omega) (by simpa using e)
      rw [this]
      omega
    · rw [if_neg hc] at h
      omega
theorem runL_end (al : List Nat) : ∀ (cs : List Nat), cs.length ≤ runL al cs → runL al cs = cs.length := fun cs h => Nat.le_antisymm (runL_le al cs) h
theorem lk_no {f : Str} (cs : List Nat) (n : Nat) (h1 : (f == Str.ofString "text") = false) (h2 : (f == Str.ofString "at") = false) : (flds cs n).lookup f = none := by simp [flds, List.lookup, h1, h2]
/-! ### words with blanks between them -/
def Lo : List (List Nat) → List Nat → Prop
  | [], l => skip l = l.length
  | w :: ws, l => ∃ l', l.drop (skip l) = w ++ l' ∧ Lo ws l'
theorem skip_drop : ∀ l : List Nat, skip (l.drop (skip l)) = 0
  | [] => rfl
  | c :: l => by
    simp only [skip]
    by_cases h : c = 32
    · rw [if_pos h]
      exact skip_drop l
    · rw [if_neg h]
      simp [skip, h]
theorem lo_skip : ∀ {ts : List (List Nat)} {l : List Nat}, Lo ts l → Lo ts (l.drop (skip l))
  | [], l, h => by
    have h' : skip l = l.length := h
    show skip (l.drop (skip l)) = (l.drop (skip l)).length
    rw [skip_drop, List.length_drop]
    omega
  | w :: ws, l, ⟨l', h1, h2⟩ => ⟨l', by rw [skip_drop, List.drop_zero]; exact h1, h2⟩
/-- what may stand behind a word of signs of al -/
def nx (al : List Nat) : List (List Nat) → Prop
  | [] => True
  | w :: _ => ∃ c w', w = c :: w' ∧ c ∉ al
theorem lo_head {al : List Nat} (h32 : 32 ∉ al) : ∀ {ws : List (List Nat)} {l : List Nat}, Lo ws l → nx al ws → ∀ c l', l = c :: l' → c ∉ al
  | [], l, h, _, c, l', e => by
    subst e
    have h' : skip (c :: l') = (c :: l').length := h
    simp only [skip] at h'
    by_cases hc : c = 32
    · rw [hc]
      exact h32
    · rw [if_neg hc] at h'
      simp at h'
  | w :: ws, l, ⟨l2, h1, _⟩, hn, c, l', e => by
    subst e
    by_cases hc : c = 32
    · rw [hc]
      exact h32
    · obtain ⟨d, w', rfl, hd⟩ := hn
      simp only [skip, if_neg hc, List.drop_zero, List.cons_append, List.cons.injEq] at h1
      rw [h1.1]
      exact hd
theorem runL_app {al : List Nat} : ∀ {w l : List Nat}, (∀ c ∈ w, c ∈ al) → (∀ c l', l = c :: l' → c ∉ al) → runL al (w ++ l) = w.length
  | [], l, _, h2 => by
    cases l with
    | nil => rfl
    | cons c l' =>
      show runL al (c :: l') = 0
      simp only [runL]
      rw [if_neg (h2 c l' rfl)]
  | a :: w, l, h1, h2 => by
    show runL al (a :: (w ++ l)) = w.length + 1
    simp only [runL]
    rw [if_pos (h1 a (by simp)), runL_app (fun c hc => h1 c (by simp [hc])) h2]
theorem lo_run {al : List Nat} {w : List Nat} {ws : List (List Nat)} {l : List Nat} (h : Lo (w :: ws) l) (hw : ∀ c ∈ w, c ∈ al) (h32 : 32 ∉ al) (hn : nx al ws) :
    (l.drop (skip l)).take (runL al (l.drop (skip l))) = w ∧ Lo ws ((l.drop (skip l)).drop w.length) := by
  obtain ⟨l', h1, h2⟩ := h
  rw [h1, runL_app hw (lo_head h32 h2 hn)]
  exact ⟨by simp, by simpa using h2⟩
theorem lo_run0 {al : List Nat} {ws : List (List Nat)} {l : List Nat} (h : Lo ws l) (h32 : 32 ∉ al) (hn : nx al ws) : runL al (l.drop (skip l)) = 0 := by
  have := runL_app (al := al) (w := []) (l := l.drop (skip l)) (by simp) (lo_head h32 (lo_skip h) hn)
  simpa using this
theorem lo_take {c : Nat} {w : List Nat} {ws : List (List Nat)} {l : List Nat} (h : Lo ((c :: w) :: ws) l) : (l.drop (skip l)).take 1 = [c] ∧ skip l < l.length := by
  obtain ⟨l', h1, _⟩ := h
  refine ⟨by rw [h1]; rfl, ?_⟩
  have h2 : (l.drop (skip l)).length = w.length + 1 + l'.length := by
    rw [h1]
    simp only [List.length_append, List.length_cons]
  rw [List.length_drop] at h2
  omega
def letters : List Nat := (List.range 26).map (97 + ·)
def digs : List Nat := (List.range 10).map (48 + ·)
theorem dg_digs (m : Nat) : ∀ c ∈ dg m, c ∈ digs := fun c hc => by
  unfold dg at hc
  obtain ⟨ch, hch, e⟩ := List.mem_map.mp hc
  have r := PyProof.Rows.digit_range (Nat.isDigit_of_mem_toDigits (by decide) (by decide) hch)
  rw [← e]
  unfold digs
  rw [List.mem_map]
  exact ⟨ch.toNat - 48, by rw [List.mem_range]; omega, by omega⟩
theorem dg_ne (m : Nat) : dg m ≠ [] := fun e => by
  have h := PySem.toDigits_len_ge 10 m
  unfold dg at e
  rw [List.map_eq_nil_iff.mp e] at h
  exact absurd h (by decide)
theorem dg_zero {m : Nat} {r : List Nat} (h : dg m = 48 :: r) : m = 0 := by
  induction m using Nat.strongRecOn generalizing r with
  | _ m ih =>
    by_cases h1 : m < 10
    · unfold dg at h
      rw [Nat.toDigits_of_lt_base h1] at h
      simp only [List.map_cons, List.map_nil, List.cons.injEq] at h
      have : ∀ d : Nat, d < 10 → (Nat.digitChar d).toNat = 48 → d = 0 := by decide
      exact this m h1 h.1
    · have hm : m % 10 < 10 := Nat.mod_lt m (by decide)
      have t : Nat.toDigits 10 (m / 10) ++ Nat.toDigits 10 (m % 10) = Nat.toDigits 10 (10 * (m / 10) + m % 10) := Nat.toDigits_append_toDigits (by decide) (by omega) hm
      rw [Nat.div_add_mod] at t
      have h2 : dg m = dg (m / 10) ++ dg (m % 10) := by
        unfold dg
        rw [← t, List.map_append]
      rw [h2] at h
      cases hq : dg (m / 10) with
      | nil => exact absurd hq (dg_ne _)
      | cons c q =>
        rw [hq] at h
        simp only [List.cons_append, List.cons.injEq] at h
        rw [h.1] at hq
        have := ih (m / 10) (by omega) hq
        omega
theorem dg_read {m : Nat} (h : m ≤ 10 ^ 30) : PySem.intText? (S (dg m)) = some (m : Int) := by
  have hl := dg_len h
  have e := PySem.intText_digits (x := S (dg m)) (by
    intro c hc
    have := dg_digs m c hc
    unfold digs at this
    obtain ⟨k, hk, rfl⟩ := List.mem_map.mp this
    rw [List.mem_range] at hk
    exact ⟨by omega, by omega⟩) (dg_ne m) (by rw [S_len]; omega)
  rw [e]
  show some (((PySem.NumText.digitsVal (dg m) : Nat) : Int)) = _
  unfold dg
  rw [KIN.val_back]
end RD

set_option Elab.async false
set_option linter.all false
set_option maxRecDepth 100000
set_option maxHeartbeats 2000000
/-! An error that a clause caught and a name keeps: behind the clause its object is told of. All that the body raises is caught. -/
namespace XC2
open PySem PySem.Spec PyProof.Rows L2 DK
/-- an error's class, as isinstance and the reading of fields ask it -/
structure XC (K : PySem.W.Frag) (C : Addr) : Prop where
  isCls : (PySem.W.clsIn K C).isSome = true
  getA : PySem.W.findIn K (.ref C) "__getattribute__" = .some (.some (.builtin "BaseException.__getattribute__"))
  getB : PySem.W.findIn K (.ref C) "__getattr__" = .some Option.none
  sub : PySem.W.subIn K (.ref C) (.type "BaseException") = .some true
  dict : PySem.W.hasDictIn K C = true
  clsA : PySem.W.findIn K (.ref C) "__class__" = .some (.some (.builtin "object.__class__"))
  clsG : PySem.W.specialIn K (.builtin "object.__class__") "__get__" = .some (.some (.builtin "getset_descriptor.__get__"))
  clsT : PySem.W.takesIn K (.builtin "object.__class__") = .some true
  obj : PySem.W.mroIn K C (.type "object") = .some true
def xcB (K : PySem.W.Frag) (C : Addr) : Bool :=
  [(PySem.W.clsIn K C).isSome, decide (PySem.W.findIn K (.ref C) "__getattribute__" = .some (.some (.builtin "BaseException.__getattribute__"))), decide (PySem.W.findIn K (.ref C) "__getattr__" = .some Option.none),
   decide (PySem.W.subIn K (.ref C) (.type "BaseException") = .some true), PySem.W.hasDictIn K C, decide (PySem.W.findIn K (.ref C) "__class__" = .some (.some (.builtin "object.__class__"))),
   decide (PySem.W.specialIn K (.builtin "object.__class__") "__get__" = .some (.some (.builtin "getset_descriptor.__get__"))), decide (PySem.W.takesIn K (.builtin "object.__class__") = .some true), decide (PySem.W.mroIn K C (.type "object") = .some true)].all id
theorem xcB_ok {K : PySem.W.Frag} {C : Addr} (h : xcB K C = true) : XC K C := by
  simp only [xcB, List.all_cons, List.all_nil, id, Bool.and_eq_true, decide_eq_true_eq] at h
  exact ⟨h.1, h.2.1, h.2.2.1, h.2.2.2.1, h.2.2.2.2.1, h.2.2.2.2.2.1, h.2.2.2.2.2.2.1, h.2.2.2.2.2.2.2.1, h.2.2.2.2.2.2.2.2.1⟩
/-- at a: a caught error of the class cls, its own dict at d or none -/
def ExC (cls : Value) (d : Option Addr) (a : Addr) : HO := .ext fun h => ∃ (oe : Obj) (vs : Array Value), h.get? a = some oe ∧ Zc cls d oe ∧ oe.data = .fields vs
/-- what is known of a caught error, at a, towards the def's entry and what is pinned -/
structure Own (X : Cx) (pins : List (Addr × Obj)) (a : Addr) : Prop where
  loc : a ≠ X.env.locals
  frm : a ∉ X.fs
  new : X.s_0.heap.get? a = none
  pin : ∀ p ∈ X.pn ++ pins, p.1 ≠ a
section
variable {X : Cx} {pins : List (Addr × Obj)} {σ : L2.St} {H : Hp} {s : Shared}
/-- an object of ours is told of from here on -/
theorem track {a : Addr} {oe : Obj} {vs : Array Value} {cls : Value} {d : Option Addr} (I : Inv X pins σ H s) (O : Own X pins a) (na : H a = none) (there : s.heap.get? a = some oe) (z : Zc cls d oe) (data : oe.data = .fields vs) :
    Inv X pins σ (upd H a (ExC cls d a)) s := by
  have old : ∀ {b : Addr} {o : HO}, H b = some o → upd H a (ExC cls d a) b = some o := fun {b o} q => (upd_ne (ne_of_none q na)).trans q
  have away : ∀ {b : Addr}, b ≠ a → H b = none → upd H a (ExC cls d a) b = none := fun {b} hb q => (upd_ne hb).trans q
  have B := I.base
  exact {
    ok := I.ok
    os := I.os
    bare := I.bare
    base := { B with
      free := fun b o q n hx => away (fun e => by rw [e, O.new] at q; cases q) (B.free b o q n hx)
      tups := fun b xs q => old (B.tups b xs q)
      frzs := fun b o u q => old (B.frzs b o u q)
      tbls := fun b ps q => (B.tbls b ps q).elim fun m r => ⟨m, old r⟩ }
    loc := I.loc
    cell := I.cell
    free := away (Ne.symm O.loc) I.free
    freeC := fun x c q => away (fun e => by
      obtain ⟨v, o, ho, hv⟩ := I.cell x c q
      rw [e, there, Option.some.injEq] at ho
      rw [← ho, data] at hv
      cases hv) (I.freeC x c q)
    pin := fun p hp => ⟨(I.pin p hp).1, away (O.pin p hp) (I.pin p hp).2.1, (I.pin p hp).2.2⟩
    hok := HOk.laidN I.hok (fun _ _ q => q) na ⟨⟨oe, vs, there, z, data⟩, ⟨oe, there⟩, fun _ _ w k => w.elim fun o w => w.elim fun v w => ⟨o, v, k o w.1, w.2⟩⟩
    len := I.len }
/-- an error in the air is no frame of ours, was not there at the entry and is not pinned -/
theorem own_of {a : Addr} {B h : Heap} {Z : Obj → Prop} {sI : Shared} (hs : X.stack = X.env :: X.outer) (hf : X.env.frame = some X.env.locals) (hx : X.ex = []) (J : Inv X pins σ H sI)
    (ground : ∀ b o, sI.heap.get? b = some o → b ∉ frs X.stack → B.get? b = some o) (F : HandSPX.FlyingZ B (X.env :: X.outer) a Z h) : Own X pins a := by
  obtain ⟨_, bare, frames, _⟩ := id F
  obtain ⟨oe, vs, at_a, _, flds⟩ := F.there
  have off : a ∉ frs (X.env :: X.outer) := fun hm => (frames.mem hm).elim fun _ w => w.elim fun o w => w.2 vs (by
    have e : oe = o := Option.some.inj (at_a.symm.trans w.1)
    rw [← e]
    exact flds)
  have frL : ∀ {b : Addr}, b = X.env.locals → b ∈ frs (X.env :: X.outer) := fun {b} e => List.mem_filterMap.mpr ⟨X.env, .head _, by rw [hf, e]⟩
  have frO : ∀ {b : Addr}, b ∈ X.fs → b ∈ frs (X.env :: X.outer) := fun {b} hm => (List.mem_filterMap.mp hm).elim fun e w => List.mem_filterMap.mpr ⟨e, .tail _ w.1, w.2⟩
  have split : ∀ {b : Addr}, b ∈ frs X.stack → b = X.env.locals ∨ b ∈ X.fs := fun {b} hm => by
    rw [hs] at hm
    obtain ⟨e, he, q⟩ := List.mem_filterMap.mp hm
    cases he with
    | head => exact .inl (Option.some.inj (q.symm.trans hf))
    | tail _ he => exact .inr (List.mem_filterMap.mpr ⟨e, he, q⟩)
  have gone : ∀ {o : Obj}, sI.heap.get? a = some o → False := fun {o} q => by
    have := ground a o q (by rw [hs]; exact off)
    rw [bare] at this
    cases this
  refine ⟨fun e => off (frL e), fun hm => off (frO hm), ?_, fun p hp e => ?_⟩
  · rcases hq : X.s_0.heap.get? a with _ | o
    · rfl
    · exact (J.base.there a o hq (by rw [hx]; exact List.not_mem_nil)).elim fun _ q => (gone q).elim
  · have P := J.pin p hp
    rw [← e] at gone
    exact gone P.1
end
/-- a try's body, by what is wished of its errors; a clause's suite -/
def Body (X : Cx) (body : List Stmt) (tb : WX → TS) : Prop := ∀ (W : WX) (pn : List (Addr × Obj)) (xe : Value → Shared → Prop), Takes (X.tr pn xe) W → PassesOwn (model X.prog X.w) X.A X.env xe → PSs (X.tr pn xe) body (tb W)
def Suite (X : Cx) (rows : List Stmt) (ts : Addr → Value → Option Addr → TS) : Prop := ∀ (a : Addr) (oe : Obj) (cls : Value) (d : Option Addr) (pn : List (Addr × Obj)), Zc cls d oe → (∃ vs, oe.data = .fields vs) → PSs (X.suite a ((a, oe) :: pn)) rows (ts a cls d)
/-- the ends of a suite, the error's name in slot i gone behind it, the error told of where it goes on -/
def endsK (i : Nat) (a : Addr) (cls : Value) (d : Option Addr) (D : Ends) : Ends where
  nx := fun σ H => D.nx (σ.set i none) (upd H a (ExC cls d a))
  rt := D.rt
  bk := fun σ H => D.bk (σ.set i none) H
  ct := fun σ H => D.ct (σ.set i none) H
/-- what is wished of an error in the body: the clause's class takes it, and the suite goes well -/
def wKept (K : PySem.W.Frag) (c : Value) (i : Nat) (ts : Addr → Value → Option Addr → TS) (D : Ends) : WX := fun cls d σ H =>
  PySem.W.exmOne K cls c = some true ∧ ∀ a, H a = none → ts a cls d (endsK i a cls d D) (σ.set i (some (.ref a))) H
section
variable {X : Cx} {pins : List (Addr × Obj)}
/-- behind the suite -/
theorem suite_end {a : Addr} {oe : Obj} {vs : Array Value} {cls : Value} {d : Option Addr} {n : Str} {i : Nat} {at_ : Pos} (ok : X.Ok) (hN : X.N.Nodup) (hi : X.N[i]? = some n) (hl : X.env.kindOf n = some .local) (O : Own X pins a) (z : Zc cls d oe) (data : oe.data = .fields vs) {D : Ends} {s6 : Shared} :
    ∀ f : Flow, SP (X.suite a ((a, oe) :: (X.pn ++ pins))) [] (endsK i a cls d D) f s6 → wpAny (model X.prog X.w) X.A (do bindName X.env n .none; unbindBehindTheSuite X.env n at_) (fun _ s7 => SP X pins D f s7) X.xe s6 := fun f hsp => by
  have go : ∀ {σ6 : L2.St} {H6 : Hp} {R : Shared → Prop}, Inv (X.suite a ((a, oe) :: (X.pn ++ pins))) [] σ6 H6 s6 → (∀ s7, Inv X pins (σ6.set i none) H6 s7 → Inv X pins (σ6.set i none) (upd H6 a (ExC cls d a)) s7 → R s7) →
      wpAny (model X.prog X.w) X.A (do bindName X.env n .none; unbindBehindTheSuite X.env n at_) (fun _ s7 => R s7) X.xe s6 := fun I k =>
    gone_ok (X := X.suite a ((a, oe) :: (X.pn ++ pins))) I hN hi hl fun s7 I7 => by
      have P := I7.pin (a, oe) (by simp)
      exact k s7 (I7.unsuite ok) (track (I7.unsuite ok) O P.2.1 P.1 z data)
  match f, hsp with
  | .next, ⟨_, _, I, q⟩ => exact go I fun s7 _ T => ⟨_, _, T, q⟩
  | .brk, ⟨_, _, I, q⟩ => exact go I fun s7 T _ => ⟨_, _, T, q⟩
  | .cont, ⟨_, _, I, q⟩ => exact go I fun s7 T _ => ⟨_, _, T, q⟩
  | .ret _, ⟨_, _, _, I, r, q⟩ => exact go I fun s7 T _ => ⟨_, _, _, T, r, q⟩
/-- the clause takes an error of the body -/
theorem clause {x n : Str} {c : Value} {i : Nat} {b₀ : Stmt} {suite : List Stmt} {np p1 : Pos} {ts : Addr → Value → Option Addr → TS} {D : Ends} (hs : X.stack = X.env :: X.outer) (hf : X.env.frame = some X.env.locals) (hN : X.N.Nodup) (hi : X.N[i]? = some n) (hl : X.env.kindOf n = some .local)
    (hg : Gl X x) (hdb : (x == ("__debug__" : Str)) = false) (hm : X.mg x = some c) (hx : X.ex = []) (ok : X.Ok) (hsu : Suite X (b₀ :: suite) ts) {u : Value} {s1 : Shared} {xe : Value → Shared → Prop} (E : XE (X.tr (X.pn ++ pins) xe) (wKept X.K c i ts D) u s1) :
    wpAny (model X.prog X.w) X.A (noteFrame u X.env) (fun _ s₂ => wpAny (model X.prog X.w) X.A (setFlight u none) (fun _ s₃ => wpAny (model X.prog X.w) X.A (handleBy u X.env [.ExceptHandler (some (.Name x np)) (some n) (b₀ :: suite) p1]) (SP X pins D) X.xe s₃) X.xe s₂) X.xe s1 := by
  obtain ⟨a, B, sI, pins', σ', H', cls, d, rfl, J', ground, slots, sky, na, sameOs, gens, takes, well⟩ := E
  have J := J'.ofTry (X := X) ok
  refine Sky.land Zc.steady (ok.frames.trans (congrArg some hs)) hf (hs ▸ sky) fun h3 F3 up3 => ?_
  have at3 : ∀ {h : Heap}, HandSPX.FlyingZ B (X.env :: X.outer) a (Zc cls d) h → s1.heap.UpToSlots h → ∃ oe vs, h.get? a = some oe ∧ Zc cls d oe ∧ oe.data = .fields vs ∧ Inv (X.suite a ((a, oe) :: (X.pn ++ pins))) [] σ' H' { s1 with heap := h } := fun {h} F up => by
    have O := own_of hs hf hx J ground F
    obtain ⟨oe, vs, h1, h2, h3⟩ := F.there
    have I : Inv X pins σ' H' { s1 with heap := h } := J.landed ground F.1 (slots.trans up) sameOs gens
    exact ⟨oe, vs, h1, h2, h3, I.suite h1 h3 na O.loc O.frm⟩
  obtain ⟨oe, vs, g1, g2, g3, I3⟩ := at3 F3 up3
  refine wpAny_handleBy_cons (codeAny_handlers_test ?_) fun q => nomatch q
  refine ld_glob (X := X.suite a ((a, oe) :: (X.pn ++ pins))) I3 hg hm ?_ hdb
  have look : PySem.W.Looks (model X.prog X.w) h3 (typeOf (.ref a)) cls := fun _ _ _ _ keeps q => wpAny_typeOf_ref (keeps _ _ g1) (g2.1.symm ▸ q)
  refine (PySem.W.exm_one (M := model X.prog X.w) I3.kIn look takes).here (codeAny_handlers_suite_as ?_)
  refine HandSPX.lands_againZ F3 fun h4 F4 up4 => ?_
  obtain ⟨oe4, vs4, k1, k2, k3, I4⟩ := at3 F4 (up3.trans up4)
  refine store_ok (X := X.suite a ((a, oe4) :: (X.pn ++ pins))) (v := .ref a) I4 hN hi (.inl hl) rfl (fun s5 I5 => ?_) (.inr hl)
  exact wpAny_mono ((hsu a oe4 cls d (X.pn ++ pins) k2 ⟨_, k3⟩).run [] s5 _ H' _ I5 (well a na)) (fun f s6 hsp => suite_end ok hN hi hl (own_of hs hf hx J ground F4) k2 k3 f hsp) fun _ _ z => z.elim
theorem ps_kept {x n : Str} {c : Value} {i : Nat} {body suite : List Stmt} {b₀ : Stmt} {np p1 p2 : Pos} {tb : WX → TS} {ts : Addr → Value → Option Addr → TS} (hs : X.stack = X.env :: X.outer) (hf : X.env.frame = some X.env.locals) (hN : X.N.Nodup) (hi : X.N[i]? = some n) (hl : X.env.kindOf n = some .local)
    (hg : Gl X x) (hdb : (x == ("__debug__" : Str)) = false) (hm : X.mg x = some c) (hx : X.ex = []) (hb : Body X body tb) (hsu : Suite X (b₀ :: suite) ts) :
    PS X (.Try body [.ExceptHandler (some (.Name x np)) (some n) (b₀ :: suite) p1] [] [] p2) fun D σ H => tb (wKept X.K c i ts D) D σ H := .mk fun pins s σ H D I well => by
  have ok := I.ok
  refine wpAny_Try_except (wpAny_mono ((hb (wKept X.K c i ts D) (X.pn ++ pins) _ (fun u s1 E => clause (np := np) (p1 := p1) hs hf hN hi hl hg hdb hm hx ok hsu E) PassesOwn.looking).run [] s σ H D (I.toTry _) well) (fun f s1 hsp => ?_) fun _ _ q => q)
  match f, hsp with
  | .next, ⟨_, _, T, q⟩ => exact wpAny_execs_nil ⟨_, _, T.ofTry ok, q⟩
  | .brk, ⟨_, _, T, q⟩ => exact ⟨_, _, T.ofTry ok, q⟩
  | .cont, ⟨_, _, T, q⟩ => exact ⟨_, _, T.ofTry ok, q⟩
  | .ret _, ⟨_, _, _, T, r, q⟩ => exact ⟨_, _, _, T.ofTry ok, r, q⟩
end
/-- a kept error with its fields -/
def CxV (H : Hp) (a C : Addr) (fs : List (Str × V)) : Prop :=
  (fs = [] ∧ H a = some (ExC (.ref C) none a)) ∨ ∃ d, H a = some (ExC (.ref C) (some d) a) ∧ H d = some (.xd fs)
theorem CxV.ex {H H' : Hp} {a C : Addr} {fs : List (Str × V)} (h : CxV H a C fs) (e : Evl.Ex H H') : CxV H' a C fs :=
  h.imp (fun w => ⟨w.1, e _ _ w.2⟩) fun w => w.elim fun d w => ⟨d, e _ _ w.1, e _ _ w.2⟩
section
variable {X : Cx} {pins : List (Addr × Obj)} {σ : L2.St} {H : Hp} {s : Shared}
theorem exc_at {cls : Value} {a : Addr} {d : Option Addr} (I : Inv X pins σ H s) (h : H a = some (ExC cls d a)) : ∃ oe, s.heap.get? a = some oe ∧ Zc cls d oe ∧ PySem.W.notCls oe = true := by
  obtain ⟨oe, vs, e, z, data⟩ := (I.hok a _ h).1
  exact ⟨oe, e, z, by simp only [PySem.W.notCls, data]⟩
theorem CxV.inst {a C : Addr} {fs : List (Str × V)} (I : Inv X pins σ H s) (h : CxV H a C fs) : ∃ ox od, PySem.W.InstAt s.heap a ox C od := by
  rcases h with ⟨_, h⟩ | ⟨d, h, hd⟩
  · obtain ⟨oe, e, z, n⟩ := exc_at I h
    exact ⟨oe, none, e, z.1, n, by rw [z.2]; trivial⟩
  · obtain ⟨oe, e, z, n⟩ := exc_at I h
    obtain ⟨mA, ns, _⟩ := show ObjOk X.prog X.w H s.heap d (.xd fs) from I.hok d _ hd
    obtain ⟨od, eo, _⟩ := lookIn_ns ns
    exact ⟨oe, some od, e, z.1, n, by rw [z.2]; exact eo⟩
end
/-- isinstance(error, class) -/
def rIsC (K : PySem.W.Frag) : List V → Hp → VK → Prop := fun xs H Q => ∃ (a C : Addr) (fs : List (Str × V)) (c : V) (cv : Value) (b : Bool),
  xs = [.ref a, c] ∧ CxV H a C fs ∧ XC K C ∧ ClsV c cv ∧ PySem.W.kitOne K (.ref C) cv = some b ∧ Q (.bl b) H
/-- error.n -/
def tXc (K : PySem.W.Frag) (n : Str) (te : TE) : TE := fun σ H Q => te σ H fun x H1 => ∃ (a C : Addr) (fs : List (Str × V)) (v : V),
  x = .ref a ∧ CxV H1 a C fs ∧ XC K C ∧ PySem.W.findIn K (.ref C) n = .some Option.none ∧ fs.lookup n = some v ∧ Q v H1
section
variable {X : Cx}
theorem call_isC : CallR X (.builtin "isinstance") (rIsC X.K) := fun pins s σ H xs us Q I r h => by
  obtain ⟨a, C, fs, c, cv, b, rfl, hv, T, k, e, q⟩ := h
  obtain ⟨_, u2, rfl, rfl, r2⟩ := vals2 r
  obtain ⟨ox, od, J⟩ := hv.inst I
  rw [k.eq r2]
  exact PySem.W.kia_one (PySem.W.kitx_exc T.isCls T.getA T.getB T.sub T.clsA T.clsG T.clsT T.obj) I.kIn J e Value.noConfusion fun tk => ⟨.bl b, H, I.tok tk, rfl, q⟩
theorem pe_xc {e : Expr} {te : TE} {pos : Pos} {n : Str} (he : PE X e te) (hb : attributeBase e n X.env (eval e X.env) = eval e X.env := by rfl) : PE X (.Attribute e n pos) (tXc X.K n te) := .mk fun pins s σ H Q I h =>
  attr_of hb <| thn (he.run pins s σ H _ I h) fun u s1 hh => by
    obtain ⟨_, H1, I1, rx, a, C, fs, v, rfl, hv, T, hno, l, q⟩ := hh
    obtain rfl : u = Value.ref a := rx
    rcases hv with ⟨rfl, _⟩ | ⟨d, h1, h2⟩
    · cases l
    obtain ⟨oe, e1, z, nc⟩ := exc_at I1 h1
    obtain ⟨mA, ns, row⟩ := show ObjOk X.prog X.w H1 s1.heap d (.xd fs) from I1.hok d _ h2
    obtain ⟨od, e2, find⟩ := lookIn_ns ns
    obtain ⟨w, hw, rw_⟩ := RelO.some_of (v := v) (o := mA n) (l ▸ row n)
    have J : PySem.W.InstAt s1.heap a oe C (some od) := ⟨e1, z.1, nc, by rw [z.2]; exact e2⟩
    exact HandSPX.exc_get I1.kIn J T.getA T.getB T.sub (PySem.W.findObj_own T.dict hno rfl ((find n).trans (congrArg some hw))) (handed_of rw_) ⟨v, H1, I1.tok _, rw_, q⟩
end
section
variable {K : PySem.W.Frag} {σ : L2.St} {H : Hp} {ta : TE} {C : Addr}
theorem ev_isC {a : Addr} {fs : List (Str × V)} {cx : V} {cv : Value} {b : Bool} (ha : Evl.Ev ta σ H (.ref a)) (hx : CxV H a C fs) (T : XC K C) (k : ClsV cx cv) (e : PySem.W.kitOne K (.ref C) cv = some b) : Evl.Ev (tCB (rIsC K) (tCons ta (tCons (tC cx) tNil))) σ H (.bl b) := fun H1 e1 Q q =>
  ha H1 e1 _ fun H2 e2 => ⟨a, C, fs, cx, cv, b, rfl, hx.ex (e1.trans e2), T, k, e, q H2 e2⟩
theorem ev_xc {a : Addr} {fs : List (Str × V)} {n : Str} {v : V} (ha : Evl.Ev ta σ H (.ref a)) (hx : CxV H a C fs) (T : XC K C) (hn : PySem.W.findIn K (.ref C) n = .some Option.none) (hl : fs.lookup n = some v) : Evl.Ev (tXc K n ta) σ H v := fun H1 e1 Q q =>
  ha H1 e1 _ fun H2 e2 => ⟨a, C, fs, v, rfl, hx.ex (e1.trans e2), T, hn, hl, q H2 e2⟩
end
end XC2

set_option Elab.async false
set_option linter.all false
set_option maxRecDepth 100000
set_option maxHeartbeats 2000000
/-! Which error is of which kind. -/
namespace XC2
open PySem PySem.Spec PyProof.Rows L2 DK
structure Kit (K : PySem.W.Frag) (L : List Addr) (S : Addr) : Prop where
  ll : ∀ (i j : Nat) (C D : Addr), L[i]? = some C → L[j]? = some D → PySem.W.kitOne K (.ref C) (.ref D) = some (decide (i = j))
  lv : ∀ (i : Nat) (C : Addr), L[i]? = some C → PySem.W.kitOne K (.ref C) (.type "ValueError") = some true
  xc : ∀ (i : Nat) (C : Addr), L[i]? = some C → XC K C
  em : ∀ (i : Nat) (C : Addr), L[i]? = some C → PySem.W.exmOne K (.ref C) (.ref S) = some true
def kitTab (K : PySem.W.Frag) (L : List Addr) (S : Addr) : Bool := (List.range L.length).all fun i => match L[i]? with
  | none => true
  | some C => xcB K C && (decide (PySem.W.exmOne K (.ref C) (.ref S) = some true) && (decide (PySem.W.kitOne K (.ref C) (.type "ValueError") = some true) &&
    (List.range L.length).all fun j => match L[j]? with
      | none => true
      | some D => decide (PySem.W.kitOne K (.ref C) (.ref D) = some (decide (i = j)))))
theorem kit_of_tab {K : PySem.W.Frag} {L : List Addr} {S : Addr} (h : kitTab K L S = true) : Kit K L S := by
  unfold kitTab at h
  have hL : ∀ (i : Nat) (C : Addr), L[i]? = some C → i ∈ List.range L.length := fun i C e => List.mem_range.mpr (List.getElem?_eq_some_iff.mp e).1
  have row : ∀ (i : Nat) (C : Addr), L[i]? = some C → xcB K C = true ∧ PySem.W.exmOne K (.ref C) (.ref S) = some true ∧ PySem.W.kitOne K (.ref C) (.type "ValueError") = some true ∧
      ∀ (j : Nat) (D : Addr), L[j]? = some D → PySem.W.kitOne K (.ref C) (.ref D) = some (decide (i = j)) := fun i C e => by
    have z := List.all_eq_true.mp h i (hL i C e)
    simp only [e, Bool.and_eq_true, decide_eq_true_eq] at z
    obtain ⟨z1, z2, z4, z5⟩ := z
    refine ⟨z1, z2, z4, fun j D e2 => ?_⟩
    have y := List.all_eq_true.mp z5 j (hL j D e2)
    simp only [e2, decide_eq_true_eq] at y
    exact y
  exact ⟨fun i j C D e1 e2 => (row i C e1).2.2.2 j D e2, fun i C e => (row i C e).2.2.1, fun i C e => xcB_ok (row i C e).1, fun i C e => (row i C e).2.1⟩
/-- one def, two promises -/
theorem fn_or {P : Program} {w : World} {K : PySem.W.Frag} {mg : Str → Option Value} {base : Heap} {CX : CXT} {k : Nat} {f : Addr} {fd : FuncData} {ps : List Str} {sp sp' : Sp} (F : FnOk P w K mg base CX k f fd ps sp) (G : FnOk P w K mg base CX k f fd ps sp') :
    FnOk P w K mg base CX k f fd ps (fun vs H Q E => sp vs H Q E ∨ sp' vs H Q E) :=
  ⟨fun vs H Q E h => h.elim (F.len vs H Q E) (G.len vs H Q E), fun A outer s H args us vs Q E hr he hb hv h => h.elim (F.run A outer s H args us vs Q E hr he hb hv) (G.run A outer s H args us vs Q E hr he hb hv)⟩
end XC2

set_option Elab.async false
set_option linter.all false
set_option maxRecDepth 100000
set_option maxHeartbeats 2000000
/-! Loops over texts, list(text), index of a sign in a text. -/
namespace LS
open PySem PySem.Spec PyProof.Rows L2 Evl DK DD SX RD
/-- for c in a text -/
theorem for_str {g : TG} {tb : TS} {D : Ends} {σ : L2.St} {H : Hp} {cs : List Nat} (Pv : Nat → L2.St → Hp → Prop) (h0 : Pv 0 σ H)
    (hs : ∀ i c σ H, cs[i]? = some c → Pv i σ H → g (.str (S [c])) σ H fun σ2 H2 => tb { D with nx := Pv (i + 1), ct := Pv (i + 1), bk := D.nx } σ2 H2) (hd : ∀ σ H, Pv cs.length σ H → D.nx σ H) :
    ∃ W : Nat → Nat → L2.St → Hp → Prop, (∃ m, W 0 m σ H) ∧ ∀ i m σ H, W i m σ H →
      ((Its (S cs)).stop i H ∧ D.nx σ H) ∨ ((Its (S cs)).go i H ∧ ∃ N : L2.St → Hp → Prop, (∀ σ' H', N σ' H' → ∃ m', m' < m ∧ W (i + 1) m' σ' H') ∧ ∀ x H', (Its (S cs)).yld i H x H' → g x σ H' fun σ2 H2 => tb { D with nx := N, ct := N, bk := D.nx } σ2 H2) := by
  have hsz : (S cs).cps.size = cs.length := by simp [S]
  refine ⟨fun i m σ H => m = cs.length - i ∧ i ≤ cs.length ∧ Pv i σ H, ⟨cs.length, by simp, Nat.zero_le _, h0⟩, ?_⟩
  rintro i m σ H ⟨rfl, hi, p⟩
  by_cases hlt : i < cs.length
  · refine .inr ⟨(show i < (S cs).cps.size by omega), Pv (i + 1), fun σ' H' p' => ⟨cs.length - (i + 1), by omega, rfl, hlt, p'⟩, fun x H' y => ?_⟩
    obtain ⟨e, c, hc, rfl⟩ := y
    subst e
    have hc' : cs[i]? = some c := by
      have : (S cs).cps = cs.toArray := rfl
      rw [this] at hc
      simpa using hc
    exact hs i c σ _ hc' p
  · have e : i = cs.length := by omega
    subst e
    exact .inl ⟨(show (S cs).cps.size ≤ cs.length by omega), hd σ H p⟩
section
variable {K : PySem.W.Frag} {M : List Addr} {σ : L2.St} {H : Hp} {ta tb : TE} {D : Ends} {tz tu : TS} {g : TG}
theorem s_forS {cs : List Nat} (h : Ev ta σ H (.str (S cs))) (Pv : Nat → L2.St → Hp → Prop) (h0 : ∀ H1, Ex H H1 → Pv 0 σ H1)
    (hs : ∀ i c σ' H', cs[i]? = some c → Pv i σ' H' → g (.str (S [c])) σ' H' fun σ2 H2 => tu { D with nx := Pv (i + 1), ct := Pv (i + 1), bk := D.nx } σ2 H2) (hd : ∀ σ' H', Pv cs.length σ' H' → D.nx σ' H') : tFor (iStr ta) g tu D σ H :=
  h H (Ex.refl H) _ fun H1 e => ⟨S cs, rfl, for_str Pv (h0 H1 e) hs hd⟩
theorem q_forS {cs : List Nat} (h : Ev ta σ H (.str (S cs))) (Pv : Nat → L2.St → Hp → Prop) (h0 : ∀ H1, Ex H H1 → Pv 0 σ H1)
    (hs : ∀ i c σ' H', cs[i]? = some c → Pv i σ' H' → g (.str (S [c])) σ' H' fun σ2 H2 => tu { D with nx := Pv (i + 1), ct := Pv (i + 1), bk := tz D } σ2 H2) (hd : ∀ σ' H', Pv cs.length σ' H' → tz D σ' H') : tSeq (tFor (iStr ta) g tu) tz D σ H :=
  s_forS (D := { D with nx := tz D }) h Pv h0 hs hd
end
section
variable {σ : L2.St} {H : Hp} {D : Ends} {tz tu : TS} {t : TT}
/-- a statement, a word behind it -/
theorem q_word {t : TS} (W : L2.St → Hp → Prop) (h : ∀ N : L2.St → Hp → Prop, (∀ σ' H', W σ' H' → N σ' H') → t { D with nx := N } σ H) (k : ∀ σ' H', W σ' H' → tz D σ' H') : tSeq t tz D σ H := h (tz D) k
/-- an if without else, a word behind it -/
theorem q_ifW {b : Bool} (W : L2.St → Hp → Prop) (h : EvT t σ H b) (h1 : b = true → ∀ H1, Ex H H1 → ∀ N : L2.St → Hp → Prop, (∀ σ' H', W σ' H' → N σ' H') → tu { D with nx := N } σ H1) (h2 : b = false → ∀ H1, Ex H H1 → W σ H1) (k : ∀ σ' H', W σ' H' → tz D σ' H') :
    tSeq (tIfS t tu tNext) tz D σ H := q_when h (fun hb H1 e => h1 hb H1 e (tz D) k) (fun hb H1 e => k _ _ (h2 hb H1 e))
end
/-- list(text) -/
def rListStr : List V → Hp → VK → Prop := fun xs H Q => ∃ cs : List Nat, xs = [.str (S cs)] ∧ cs.length ≤ 100000 ∧ ∀ l, H l = none → Q (.ref l) (upd H l (.lst (cs.map fun c => V.str (S [c]))))
theorem vals_signs {x : Str} : ∀ (cs : List Nat) (its : List Value), its.length = cs.length → (∀ (i c : Nat), cs[i]? = some c → ∃ t, its[i]? = some (Value.str (S [c]) t)) → Vals (cs.map fun c => V.str (S [c])) its
  | [], [], _, _ => .nil
  | c :: cs, v :: its, hl, h => by
    obtain ⟨t, ht⟩ := h 0 c rfl
    simp at ht
    subst ht
    exact .cons ⟨t, rfl⟩ (vals_signs (x := x) cs its (by simpa using hl) fun i d hd => h (i + 1) d (by simpa using hd))
theorem call_list_strR {X : Cx} (hc : X.calm = true) : CallR X (.type "list") rListStr := by
  intro pins s σ H xs us Q I r h
  obtain ⟨cs, rfl, hl, q⟩ := h
  obtain ⟨u, rfl, rx⟩ := vals1 r
  obtain ⟨t, rfl⟩ := rx
  have hsz : (S cs).cps.size = cs.length := by simp [S]
  refine call_list_str (I.ok.hd hc) (S cs) t (fun h' tk acc c' hk e hi => ?_) (by rw [hsz, sizeLine_eq]; omega)
  have hv : Vals (cs.map fun c => V.str (S [c])) acc.toList := by
    refine vals_signs (x := S cs) cs acc.toList (by rw [Array.length_toList, hi.1, hsz]) fun i c hci => ?_
    have hi' : i < (S cs).cps.size := by
      rw [hsz]
      exact (List.getElem?_eq_some_iff.mp hci).1
    obtain ⟨v, hv⟩ : ∃ v, acc[i]? = some v := ⟨_, Array.getElem?_eq_getElem (by rw [hi.1]; exact hi')⟩
    obtain ⟨c2, u, h1, h2⟩ := hi.2 i v hv
    have h3 : c2 = c := by
      have : (S cs).cps = cs.toArray := rfl
      rw [this] at h1
      have h1' : cs[i]? = some c2 := by simpa using h1
      rw [h1'] at hci
      exact Option.some.inj hci
    subst h3
    exact ⟨u, by rw [h2] at hv; simpa using hv⟩
  refine ⟨.ref s.heap.objs.size, _, I.laid (t' := tk) hk (Nat.le_refl _) (show ObjOk X.prog X.w _ h' _ (.lst (cs.map fun c => V.str (S [c]))) from ⟨by rw [List.length_map, sizeLine_eq]; omega, acc.toList, c', hv, by rw [Array.toArray_toList]; exact e⟩), rfl, q _ (I.hok.fresh (Nat.le_refl _))⟩
theorem el_listS {σ : L2.St} {H : Hp} {ta : TE} {cs : List Nat} (ha : Ev ta σ H (.str (S cs))) (hl : cs.length ≤ 100000) : EvL (tCB rListStr (tCons ta tNil)) σ H (cs.map fun c => V.str (S [c])) := fun H1 e Q q =>
  ha H1 e _ fun H2 e2 => ⟨cs, rfl, hl, fun l hn => q l _ (fresh_back e2 hn) (e2.trans (Ex.new hn)) upd_same⟩
end LS

set_option Elab.async false
set_option linter.all false
set_option maxRecDepth 100000
set_option maxHeartbeats 2000000
/-! More data: == of data one of which is flat, t + u, appended data, slices. -/
namespace DD
open PySem PySem.Spec PyProof.Rows L2 Evl DK
/-- ==, != where one side is not deep -/
def rEqM (K : PySem.W.Frag) : R2 := fun x y H Q => ∃ d e, Dp K H x d ∧ Dp K H y e ∧ d.canLay0 = true ∧ e.canLay0 = true ∧ min d.depth e.depth ≤ 64 ∧ Q (.bl (PyData.eqv d e)) H
def rNeM (K : PySem.W.Frag) : R2 := fun x y H Q => ∃ d e, Dp K H x d ∧ Dp K H y e ∧ d.canLay0 = true ∧ e.canLay0 = true ∧ min d.depth e.depth ≤ 64 ∧ Q (.bl (!PyData.eqv d e)) H
section
variable {X : Cx}
theorem op_eqM (hu : X.A.units + 64 < cLine) : OpR X (compareOp .Eq) (rEqM X.K) := by
  intro pins s σ H x y v u Q I rx ry h
  obtain ⟨d, e, hd, he, sd, se, hm, q⟩ := h
  obtain ⟨as, r1⟩ := Dp.reads I d x v hd rx
  obtain ⟨bs, r2⟩ := Dp.reads I e y u he ry
  exact SeqAt.compareEq_reads r1 r2 sd se (by omega) ⟨.bl _, H, I, rfl, q⟩
theorem op_neM (hu : X.A.units + 64 < cLine) : OpR X (compareOp .NotEq) (rNeM X.K) := by
  intro pins s σ H x y v u Q I rx ry h
  obtain ⟨d, e, hd, he, sd, se, hm, q⟩ := h
  obtain ⟨as, r1⟩ := Dp.reads I d x v hd rx
  obtain ⟨bs, r2⟩ := Dp.reads I e y u he ry
  exact SeqAt.compareNe_reads r1 r2 sd se (by omega) ⟨.bl _, H, I, rfl, q⟩
end
section
variable {K : PySem.W.Frag} {M : List Addr} {σ : L2.St} {H H' : Hp} {te ta tb : TE} {t : TA} {d e : PyData} {ds es : List PyData} {v : V} {D : Ends} {tz : TS} {i : Nat}
theorem ev_eqM (ha : DE K M ta σ H d) (hb : DE K M tb σ H e) (sd : d.canLay0 = true) (se : e.canLay0 = true) (hm : min d.depth e.depth ≤ 64) : Ev (tOp (rEqM K) ta tb) σ H (.bl (PyData.eqv d e)) := fun H1 x Q q =>
  ha H1 x _ fun v1 H2 e2 d1 => hb H2 (x.trans e2) _ fun v2 H3 e3 d2 => ⟨d, e, dm_full (dm_ex e3 d1), dm_full d2, sd, se, hm, q H3 (e2.trans e3)⟩
theorem ev_neM (ha : DE K M ta σ H d) (hb : DE K M tb σ H e) (sd : d.canLay0 = true) (se : e.canLay0 = true) (hm : min d.depth e.depth ≤ 64) : Ev (tOp (rNeM K) ta tb) σ H (.bl (!PyData.eqv d e)) := fun H1 x Q q =>
  ha H1 x _ fun v1 H2 e2 d1 => hb H2 (x.trans e2) _ fun v2 H3 e3 d2 => ⟨d, e, dm_full (dm_ex e3 d1), dm_full d2, sd, se, hm, q H3 (e2.trans e3)⟩
theorem ev_eqD (ha : DE K M ta σ H d) (hb : DE K M tb σ H e) (sd : SeqAt.shaped d = true) (se : SeqAt.shaped e = true) : Ev (tOp (rEqD K) ta tb) σ H (.bl (PyData.eqv d e)) := fun H1 x Q q =>
  ha H1 x _ fun v1 H2 e2 d1 => hb H2 (x.trans e2) _ fun v2 H3 e3 d2 => ⟨d, e, dm_full (dm_ex e3 d1), dm_full d2, sd, se, q H3 (e2.trans e3)⟩
theorem ev_neD (ha : DE K M ta σ H d) (hb : DE K M tb σ H e) (sd : SeqAt.shaped d = true) (se : SeqAt.shaped e = true) : Ev (tOp (rNeD K) ta tb) σ H (.bl (!PyData.eqv d e)) := fun H1 x Q q =>
  ha H1 x _ fun v1 H2 e2 d1 => hb H2 (x.trans e2) _ fun v2 H3 e3 d2 => ⟨d, e, dm_full (dm_ex e3 d1), dm_full d2, sd, se, q H3 (e2.trans e3)⟩
/-- t + u -/
theorem de_catA (hM : Dom M H) (ha : DE K M ta σ H (.tuple ds)) (hb : DE K M tb σ H (.tuple es)) (hl : ds.length + es.length ≤ 100000) : DE K M (tOp (rCatA K) ta tb) σ H (.tuple (ds ++ es)) := fun H1 x Q q =>
  ha H1 x _ fun v1 H2 e2 d1 => hb H2 (x.trans e2) _ fun v2 H3 e3 d2 => by
    have d1' := dm_ex e3 d1
    have e23 := e2.trans e3
    cases d1' with
    | tup hs1 hv1 =>
      cases d2 with
      | tup hs2 hv2 =>
        rename_i a xs b ys
        have l1 := dpa_len hv1
        have l2 := dpa_len hv2
        refine ⟨a, b, xs, ys, rfl, rfl, ex_t (ex_full _ _) hs1, ex_t (ex_full _ _) hs2, sz_of (by omega), fun hx => ?_, fun hx hy => ?_, fun hx hy p hp => ?_⟩
        · have : ds = [] := by
            rw [hx] at l1
            exact List.length_eq_zero_iff.mp l1.symm
          rw [this] at q
          exact q _ H3 e23 (.tup hs2 hv2)
        · have : es = [] := by
            rw [hy] at l2
            exact List.length_eq_zero_iff.mp l2.symm
          rw [this, List.append_nil] at q
          exact q _ H3 e23 (.tup hs1 hv1)
        · have eX : Ex H3 (upd H3 p (.tup (xs ++ ys))) := Ex.new hp
          exact q _ _ (e23.trans eX) (.tup (st_of (mi_of ((hM.ex (x.trans e23)).nin hp) upd_same)) (dms_ex eX (dpa_app hv1 hv2)))
theorem da_dl2 {es fs : List PyData} (hM : Dom M H) (h1 : DL K M ta σ H es) (h2 : DL K M tb σ H fs) : DL K M (tLst (tCons ta (tCons tb tNil))) σ H [.list es, .list fs] :=
  dl_lst (da_cons (de_dl hM h1) (da_cons (de_dl hM h2) da_nil)) (show 2 ≤ 1000 by decide)
theorem dpa_ints : ∀ {is : List Int} {vs : List V}, DpAll K H vs (is.map PyData.int) → vs = is.map V.int
  | [], _, h => by cases h; rfl
  | i :: is, _, h => by
    cases h with
    | cons h1 h2 =>
      obtain rfl := dpInt h1
      rw [dpa_ints h2]
      rfl
/-- sum of a new list of ints -/
theorem ev_sumL {is : List Int} (h : DL K M te σ H (is.map PyData.int)) : Ev (tCB (rSum K) (tCons te tNil)) σ H (.int is.sum) := fun H1 x Q q =>
  h H1 x _ fun p us H2 n e2 hp hd => ⟨p, is, rfl, sq_of (by rw [hp, dpa_ints (dms_full hd)]), q H2 e2⟩
/-- l.append(e), l tracked at an address of M -/
theorem q_appD {l : Addr} {xs : List V} (hl : H l = some (.lst xs)) (hv : σ[i]? = some (some (.ref l))) (h : DE K M te σ H d) (hz : xs.length < 100000) (k : ∀ v H1, Ex H H1 → Dm K M H1 v d → tz D σ (upd H1 l (.lst (xs ++ [v])))) :
    tSeq (tDrop (tBM K "list" rAppend (tVar i) (tCons te tNil))) tz D σ H :=
  ⟨_, hv, .inl ⟨rfl, _, sq_of hl⟩, h H (Ex.refl H) _ fun v H1 e1 hd => ⟨l, xs, v, rfl, rfl, e1 _ _ hl, sz_lt hz, k v H1 e1 hd⟩⟩
theorem s_appD {l : Addr} {xs : List V} (hl : H l = some (.lst xs)) (hv : σ[i]? = some (some (.ref l))) (h : DE K M te σ H d) (hz : xs.length < 100000) (k : ∀ v H1, Ex H H1 → Dm K M H1 v d → D.nx σ (upd H1 l (.lst (xs ++ [v])))) :
    tDrop (tBM K "list" rAppend (tVar i) (tCons te tNil)) D σ H :=
  ⟨_, hv, .inl ⟨rfl, _, sq_of hl⟩, h H (Ex.refl H) _ fun v H1 e1 hd => ⟨l, xs, v, rfl, rfl, e1 _ _ hl, sz_lt hz, k v H1 e1 hd⟩⟩
theorem ixN_last (n : Nat) : ixN (n + 1) (-1) = some n := by
  unfold ixN
  rw [if_neg (by decide), if_pos (by omega)]
  exact congrArg some (by omega)
/-- l[-1] = e -/
theorem q_setLast {l : Addr} {us' : List V} {vt : V} (hl : H l = some (.lst (us' ++ [vt]))) (hv : σ[i]? = some (some (.ref l))) (h : DE K M te σ H d) (k : ∀ v H1, Ex H H1 → Dm K M H1 v d → tz D σ (upd H1 l (.lst (us' ++ [v])))) :
    tSeq (tAsg te (gSub (tVar i) (tUn (rU fun i => .int (-i)) (tC (.int 1))) rSetL)) tz D σ H :=
  h H (Ex.refl H) _ fun v H1 e1 hd => ⟨_, hv, 1, rfl, l, us' ++ [vt], -1, us'.length, rfl, rfl, e1 _ _ hl, by rw [List.length_append, List.length_singleton]; exact ixN_last _, by
    have e : (us' ++ [vt]).set us'.length v = us' ++ [v] := by simp
    rw [e]
    exact k v H1 e1 hd⟩
theorem dl_list {a : Addr} {vs : List V} (hM : Dom M H) (ha : Ev ta σ H (.ref a)) (h : H a = some (.lst vs)) (hd : Dms K (a :: M) H vs ds) {lo hi : Option Int} {tl th : TO} (h1 : EvO tl σ H lo) (h2 : EvO th σ H hi) {es : List PyData} {ws : List V} (hc : cutV vs lo hi = ws) (hw : Dms K (a :: M) H ws es) :
    DL K M (tSl (rSlL K) ta tl th) σ H es := fun H1 x Q q =>
  ha H1 x _ fun H2 e2 => h1 H2 (x.trans e2) _ fun H3 e3 => h2 H3 ((x.trans e2).trans e3) _ fun H4 e4 => by
    have e24 := (e2.trans e3).trans e4
    refine ⟨a, vs, rfl, sq_of ((x.trans e24) _ _ h), fun p hp => ?_⟩
    rw [hc]
    have eX : Ex H4 (upd H4 p (.lst ws)) := Ex.new hp
    exact q p ws _ (fresh_back e24 hp) (e24.trans eX) upd_same (dms_ex eX (dms_add hp (dms_less (dms_ex (x.trans e24) hw))))
end
end DD

set_option Elab.async false
set_option linter.all false
set_option maxRecDepth 100000
set_option maxHeartbeats 4000000
namespace TM
open PySem PySem.Spec PyProof.Rows L2 DK DD
mutual
theorem lay_enc : ∀ t : Trm, PyData.canLay0 (enc t) = true ∧ (enc t).depth ≤ 2 * dep t
  | .price s a => by
    simp only [enc, PyData.canLay0, PyData.canLayAll0, PyData.depth, PyData.depthAll, TM.dep]
    exact ⟨by decide +kernel, by decide⟩
  | .plain n => by
    simp only [enc, PyData.canLay0, PyData.canLayAll0, PyData.depth, PyData.depthAll, TM.dep]
    exact ⟨by decide +kernel, by decide⟩
  | .node .least ps => by
    obtain ⟨h1, h2⟩ := lay_encs ps
    simp only [enc, PyData.canLay0, PyData.canLayAll0, PyData.depth, PyData.depthAll, TM.dep, h1]
    exact ⟨by decide +kernel, by omega⟩
  | .node .most ps => by
    obtain ⟨h1, h2⟩ := lay_encs ps
    simp only [enc, PyData.canLay0, PyData.canLayAll0, PyData.depth, PyData.depthAll, TM.dep, h1]
    exact ⟨by decide +kernel, by omega⟩
  | .node (.rank k) ps => by
    obtain ⟨h1, h2⟩ := lay_encs ps
    simp only [enc, PyData.canLay0, PyData.canLayAll0, PyData.depth, PyData.depthAll, TM.dep, h1]
    exact ⟨by decide +kernel, by omega⟩
theorem lay_encs : ∀ ts : List Trm, PyData.canLayAll0 (encs ts) = true ∧ PyData.depthAll (encs ts) ≤ 2 * deps ts
  | [] => by simp [encs, PyData.canLayAll0, PyData.depthAll]
  | t :: ts => by
    obtain ⟨h1, h2⟩ := lay_enc t
    obtain ⟨h3, h4⟩ := lay_encs ts
    simp only [encs, PyData.canLayAll0, PyData.depthAll, h1, h3, deps]
    exact ⟨rfl, by omega⟩
end
theorem shaped_enc {t : Trm} (h : dep t ≤ 6) : SeqAt.shaped (enc t) = true := by
  obtain ⟨h1, h2⟩ := lay_enc t
  unfold SeqAt.shaped
  rw [h1, decide_eq_true (by omega)]
  rfl
theorem canLay_encs (ps : List Trm) : PyData.canLayAll0 (ps.map enc) = true := by
  rw [← encs_map]
  exact (lay_encs ps).1
end TM

set_option Elab.async false
set_option linter.all false
set_option maxRecDepth 100000
set_option maxHeartbeats 4000000
namespace K04
open PySem PySem.Spec PyProof.Rows L2 DK DD TM
def topS (i : Nat) : Stmt := PySem.Challenge.pw_pricespin_k04_wrong_texts.main.body.getD i (.Pass ⟨0, 0, 0, 0⟩)
abbrev s_is_int : Stmt := topS 10
theorem sc_is_int : FnScope ["value"] ["value"] (defScope s_is_int) := ⟨rfl, rfl, rfl, by decide +kernel, rfl, by decide +kernel, by decide +kernel⟩
abbrev s_is_int_from : Stmt := topS 11
theorem sc_is_int_from : FnScope ["value", "least", "greatest"] ["value", "least", "greatest"] (defScope s_is_int_from) := ⟨rfl, rfl, rfl, by decide +kernel, rfl, by decide +kernel, by decide +kernel⟩
abbrev s_is_number : Stmt := topS 12
theorem sc_is_number : FnScope ["value"] ["value"] (defScope s_is_number) := ⟨rfl, rfl, rfl, by decide +kernel, rfl, by decide +kernel, by decide +kernel⟩
abbrev s_is_leaf : Stmt := topS 13
theorem sc_is_leaf : FnScope ["term"] ["term"] (defScope s_is_leaf) := ⟨rfl, rfl, rfl, by decide +kernel, rfl, by decide +kernel, by decide +kernel⟩
abbrev s_parts_of : Stmt := topS 14
theorem sc_parts_of : FnScope ["term"] ["term"] (defScope s_parts_of) := ⟨rfl, rfl, rfl, by decide +kernel, rfl, by decide +kernel, by decide +kernel⟩
abbrev s_is_term : Stmt := topS 15
abbrev N_is_term : List Str := ["value", "waiting", "many", "part", "level", "inner"]
theorem sc_is_term : FnScope ["value", "waiting", "many", "part", "level", "inner"] ["value"] (defScope s_is_term) := ⟨rfl, rfl, rfl, by decide +kernel, rfl, by decide +kernel, by decide +kernel⟩
abbrev s_check_term : Stmt := topS 16
theorem sc_check_term : FnScope ["term"] ["term"] (defScope s_check_term) := ⟨rfl, rfl, rfl, by decide +kernel, rfl, by decide +kernel, by decide +kernel⟩
abbrev s__has_form : Stmt := topS 17
theorem sc__has_form : FnScope ["term", "word"] ["term"] (defScope s__has_form) := ⟨rfl, rfl, rfl, by decide +kernel, rfl, by decide +kernel, by decide +kernel⟩
abbrev s__are_parts : Stmt := topS 18
theorem sc__are_parts : FnScope ["value"] ["value"] (defScope s__are_parts) := ⟨rfl, rfl, rfl, by decide +kernel, rfl, by decide +kernel, by decide +kernel⟩
abbrev s__written : Stmt := topS 27
abbrev N__written : List Str := ["term", "word", "name", "parts", "part"]
theorem sc__written : FnScope ["term", "word", "name", "parts", "part"] ["term"] (defScope s__written) := ⟨rfl, rfl, rfl, by decide +kernel, rfl, by decide +kernel, by decide +kernel⟩
abbrev s__written_price : Stmt := topS 28
theorem sc__written_price : FnScope ["shop", "add", "sign"] ["shop", "add"] (defScope s__written_price) := ⟨rfl, rfl, rfl, by decide +kernel, rfl, by decide +kernel, by decide +kernel⟩
abbrev s_term_text : Stmt := topS 24
theorem sc_term_text : FnScope ["term"] ["term"] (defScope s_term_text) := ⟨rfl, rfl, rfl, by decide +kernel, rfl, by decide +kernel, by decide +kernel⟩
abbrev s_read_term : Stmt := topS 25
theorem sc_read_term : FnScope ["text", "reader", "term"] ["text"] (defScope s_read_term) := ⟨rfl, rfl, rfl, by decide +kernel, rfl, by decide +kernel, by decide +kernel⟩
abbrev s__read_whole : Stmt := topS 29
theorem sc__read_whole : FnScope ["reader", "unclosed", "term", "start"] ["reader"] (defScope s__read_whole) := ⟨rfl, rfl, rfl, by decide +kernel, rfl, by decide +kernel, by decide +kernel⟩
abbrev s__close : Stmt := topS 30
theorem sc__close : FnScope ["reader", "unclosed", "term", "start", "parts"] ["reader", "unclosed", "term"] (defScope s__close) := ⟨rfl, rfl, rfl, by decide +kernel, rfl, by decide +kernel, by decide +kernel⟩
abbrev s__read_start : Stmt := topS 31
theorem sc__read_start : FnScope ["reader", "word"] ["reader"] (defScope s__read_start) := ⟨rfl, rfl, rfl, by decide +kernel, rfl, by decide +kernel, by decide +kernel⟩
abbrev s__read_plain : Stmt := topS 32
theorem sc__read_plain : FnScope ["reader"] ["reader"] (defScope s__read_plain) := ⟨rfl, rfl, rfl, by decide +kernel, rfl, by decide +kernel, by decide +kernel⟩
abbrev s__read_add : Stmt := topS 33
theorem sc__read_add : FnScope ["reader", "sign", "number"] ["reader"] (defScope s__read_add) := ⟨rfl, rfl, rfl, by decide +kernel, rfl, by decide +kernel, by decide +kernel⟩
abbrev s__law_is_whole : Stmt := topS 41
theorem sc__law_is_whole : FnScope ["value", "low", "high"] ["value", "low", "high"] (defScope s__law_is_whole) := ⟨rfl, rfl, rfl, by decide +kernel, rfl, by decide +kernel, by decide +kernel⟩
abbrev s__law_count : Stmt := topS 42
abbrev N__law_count : List Str := ["value", "levels", "parts", "part"]
theorem sc__law_count : FnScope ["value", "levels", "parts", "part"] ["value", "levels"] (defScope s__law_count) := ⟨rfl, rfl, rfl, by decide +kernel, rfl, by decide +kernel, by decide +kernel⟩
abbrev s__law_is_term : Stmt := topS 43
theorem sc__law_is_term : FnScope ["value", "many"] ["value"] (defScope s__law_is_term) := ⟨rfl, rfl, rfl, by decide +kernel, rfl, by decide +kernel, by decide +kernel⟩
abbrev s__law_end : Stmt := topS 44
theorem sc__law_end : FnScope ["text", "at", "letters", "end"] ["text", "at", "letters"] (defScope s__law_end) := ⟨rfl, rfl, rfl, by decide +kernel, rfl, by decide +kernel, by decide +kernel⟩
abbrev s__law_number : Stmt := topS 45
theorem sc__law_number : FnScope ["text", "at", "end", "number", "sign"] ["text", "at"] (defScope s__law_number) := ⟨rfl, rfl, rfl, by decide +kernel, rfl, by decide +kernel, by decide +kernel⟩
abbrev s__law_price : Stmt := topS 46
theorem sc__law_price : FnScope ["text", "at", "shop", "sign", "found"] ["text", "at", "shop"] (defScope s__law_price) := ⟨rfl, rfl, rfl, by decide +kernel, rfl, by decide +kernel, by decide +kernel⟩
abbrev s__law_open : Stmt := topS 47
theorem sc__law_open : FnScope ["text", "at", "word", "head", "found"] ["text", "at", "word"] (defScope s__law_open) := ⟨rfl, rfl, rfl, by decide +kernel, rfl, by decide +kernel, by decide +kernel⟩
abbrev s__law_begun : Stmt := topS 48
theorem sc__law_begun : FnScope ["text", "at", "found", "end", "word", "after"] ["text", "at"] (defScope s__law_begun) := ⟨rfl, rfl, rfl, by decide +kernel, rfl, by decide +kernel, by decide +kernel⟩
abbrev s__law_due : Stmt := topS 49
theorem sc__law_due : FnScope ["text", "at", "piles", "found", "term", "done"] ["text"] (defScope s__law_due) := ⟨rfl, rfl, rfl, by decide +kernel, rfl, by decide +kernel, by decide +kernel⟩
abbrev s__law_read : Stmt := topS 50
theorem sc__law_read : FnScope ["text", "caught", "found", "e"] ["text"] (defScope s__law_read) := ⟨rfl, rfl, rfl, by decide +kernel, rfl, by decide +kernel, by decide +kernel⟩
abbrev s__law_fits : Stmt := topS 51
theorem sc__law_fits : FnScope ["text", "due"] ["text"] (defScope s__law_fits) := ⟨rfl, rfl, rfl, by decide +kernel, rfl, by decide +kernel, by decide +kernel⟩
abbrev s__law_bent : Stmt := topS 52
theorem sc__law_bent : FnScope ["source", "text", "signs", "at", "way"] ["source", "text"] (defScope s__law_bent) := ⟨rfl, rfl, rfl, by decide +kernel, rfl, by decide +kernel, by decide +kernel⟩
abbrev s_law : Stmt := topS 53
abbrev N_law : List Str := ["script", "source", "turn", "text", "k", "value", "some", "letter", "great"]
theorem sc_law : FnScope ["script", "source", "turn", "text", "k", "value", "some", "letter", "great"] ["script"] (defScope s_law) := ⟨rfl, rfl, rfl, by decide +kernel, rfl, by decide +kernel, by decide +kernel⟩
abbrev s_InvalidText_init : Stmt := inClass (topS 3) 0
theorem sc_InvalidText_init : FnScope ["self", "at"] ["self", "at"] (defScope s_InvalidText_init) := ⟨rfl, rfl, rfl, by decide +kernel, rfl, by decide +kernel, by decide +kernel⟩
abbrev s_Reader_init : Stmt := inClass (topS 26) 0
theorem sc_Reader_init : FnScope ["self", "text"] ["self", "text"] (defScope s_Reader_init) := ⟨rfl, rfl, rfl, by decide +kernel, rfl, by decide +kernel, by decide +kernel⟩
abbrev s_Reader_peek : Stmt := inClass (topS 26) 1
theorem sc_Reader_peek : FnScope ["self"] ["self"] (defScope s_Reader_peek) := ⟨rfl, rfl, rfl, by decide +kernel, rfl, by decide +kernel, by decide +kernel⟩
abbrev s_Reader_sign : Stmt := inClass (topS 26) 2
theorem sc_Reader_sign : FnScope ["self", "allowed", "found"] ["self", "allowed"] (defScope s_Reader_sign) := ⟨rfl, rfl, rfl, by decide +kernel, rfl, by decide +kernel, by decide +kernel⟩
abbrev s_Reader_word : Stmt := inClass (topS 26) 3
theorem sc_Reader_word : FnScope ["self", "found"] ["self"] (defScope s_Reader_word) := ⟨rfl, rfl, rfl, by decide +kernel, rfl, by decide +kernel, by decide +kernel⟩
abbrev s_Reader_number : Stmt := inClass (topS 26) 4
theorem sc_Reader_number : FnScope ["self", "digits"] ["self"] (defScope s_Reader_number) := ⟨rfl, rfl, rfl, by decide +kernel, rfl, by decide +kernel, by decide +kernel⟩
abbrev s_Reader_run : Stmt := inClass (topS 26) 5
theorem sc_Reader_run : FnScope ["self", "allowed", "end"] ["self", "allowed"] (defScope s_Reader_run) := ⟨rfl, rfl, rfl, by decide +kernel, rfl, by decide +kernel, by decide +kernel⟩
abbrev s__law_source : Stmt := topS 35
theorem sc__law_source : FnScope ["script", "cells", "k"] ["script"] (defScope s__law_source) := ⟨rfl, rfl, rfl, by decide +kernel, rfl, by decide +kernel, by decide +kernel⟩
abbrev s__law_draw : Stmt := topS 36
theorem sc__law_draw : FnScope ["source", "limit", "cells", "turn", "place", "cell", "number"] ["source", "limit"] (defScope s__law_draw) := ⟨rfl, rfl, rfl, by decide +kernel, rfl, by decide +kernel, by decide +kernel⟩
abbrev s__law_pick : Stmt := topS 37
theorem sc__law_pick : FnScope ["source", "values"] ["source", "values"] (defScope s__law_pick) := ⟨rfl, rfl, rfl, by decide +kernel, rfl, by decide +kernel, by decide +kernel⟩
abbrev s__law_great : Stmt := topS 38
theorem sc__law_great : FnScope ["source", "digits", "number", "k"] ["source", "digits"] (defScope s__law_great) := ⟨rfl, rfl, rfl, by decide +kernel, rfl, by decide +kernel, by decide +kernel⟩
abbrev s__law_add : Stmt := topS 39
theorem sc__law_add : FnScope ["source", "most"] ["source", "most"] (defScope s__law_add) := ⟨rfl, rfl, rfl, by decide +kernel, rfl, by decide +kernel, by decide +kernel⟩
abbrev s__law_term : Stmt := topS 40
abbrev N__law_term : List Str := ["source", "shops", "most", "levels", "kind", "parts", "k"]
theorem sc__law_term : FnScope ["source", "shops", "most", "levels", "kind", "parts", "k"] ["source", "shops", "most", "levels"] (defScope s__law_term) := ⟨rfl, rfl, rfl, by decide +kernel, rfl, by decide +kernel, by decide +kernel⟩
abbrev v__GREATEST_NUMBER : Int := 10 ^ 30
abbrev v_MOST_SHOPS : Int := 6
abbrev v__MOST_PARTS : Int := 6
abbrev v__MOST_TERMS : Int := 40
abbrev v__MOST_LEVELS : Int := 6
/-- an error's class -/
structure XCls (K : PySem.W.Frag) (mg : Str → Option Value) (x : Str) where
  C : Addr
  g : mg x = some (.ref C)
  k : PySem.W.keepIn K (.ref C) = true
  q : PySem.W.excIn K C [.type "ValueError", .type "Exception", .type "BaseException", .type "object"] "ValueError.__new__" = true
  ex : PySem.W.subIn K (.ref C) (.type "BaseException") = some true
  ty : PySem.W.typeIn K (.ref C) = some (.type "type")
/-- a class of the program; a method of it -/
structure RdrC (K : PySem.W.Frag) (mg : Str → Option Value) where
  C : Addr
  g : mg "Reader" = some (.ref C)
  cl : Cls K C
  nT : NoAttr K C "text"
  nA : NoAttr K C "at"
structure Md (K : PySem.W.Frag) (C : Addr) (x qual : Str) (st : Stmt) (ps : List Str) where
  f : Addr
  fd : FuncData
  F : Fun K x qual st f fd
  m : Meth K C x f
  b : Binds K fd ps []
/-- an error with an __init__ of its own -/
structure OCls (K : PySem.W.Frag) (mg : Str → Option Value) (x qual : Str) (st : Stmt) (ps : List Str) where
  C : Addr
  g : mg x = some (.ref C)
  T : OexC K C
  fI : Addr
  iC : PySem.W.findIn K (.ref C) "__init__" = some (some (.ref fI))
  tI : PySem.W.typeIn K (.ref fI) = some (.type "function")
  fd : FuncData
  F : Fun K "__init__" qual st fI fd
  b : Binds K fd ps []
structure Top (K : PySem.W.Frag) (mg : Str → Option Value) where
  is_int : At K mg "is_int" s_is_int ["value"]
  is_int_from : At K mg "is_int_from" s_is_int_from ["value", "least", "greatest"]
  is_number : At K mg "is_number" s_is_number ["value"]
  is_leaf : At K mg "is_leaf" s_is_leaf ["term"]
  parts_of : At K mg "parts_of" s_parts_of ["term"]
  is_term : At K mg "is_term" s_is_term ["value"]
  check_term : At K mg "check_term" s_check_term ["term"]
  _has_form : At K mg "_has_form" s__has_form ["term"]
  _are_parts : At K mg "_are_parts" s__are_parts ["value"]
  _law_source : At K mg "_law_source" s__law_source ["script"]
  _law_draw : At K mg "_law_draw" s__law_draw ["source", "limit"]
  _law_pick : At K mg "_law_pick" s__law_pick ["source", "values"]
  _law_great : At K mg "_law_great" s__law_great ["source", "digits"]
  _law_add : At K mg "_law_add" s__law_add ["source", "most"]
  _law_term : At K mg "_law_term" s__law_term ["source", "shops", "most", "levels"]
  _written : At K mg "_written" s__written ["term"]
  _written_price : At K mg "_written_price" s__written_price ["shop", "add"]
  term_text : At K mg "term_text" s_term_text ["term"]
  read_term : At K mg "read_term" s_read_term ["text"]
  _read_whole : At K mg "_read_whole" s__read_whole ["reader"]
  _close : At K mg "_close" s__close ["reader", "unclosed", "term"]
  _read_start : At K mg "_read_start" s__read_start ["reader"]
  _read_plain : At K mg "_read_plain" s__read_plain ["reader"]
  _read_add : At K mg "_read_add" s__read_add ["reader"]
  _law_is_whole : At K mg "_law_is_whole" s__law_is_whole ["value", "low", "high"]
  _law_count : At K mg "_law_count" s__law_count ["value", "levels"]
  _law_is_term : At K mg "_law_is_term" s__law_is_term ["value"]
  _law_end : At K mg "_law_end" s__law_end ["text", "at", "letters"]
  _law_number : At K mg "_law_number" s__law_number ["text", "at"]
  _law_price : At K mg "_law_price" s__law_price ["text", "at", "shop"]
  _law_open : At K mg "_law_open" s__law_open ["text", "at", "word"]
  _law_begun : At K mg "_law_begun" s__law_begun ["text", "at"]
  _law_due : At K mg "_law_due" s__law_due ["text"]
  _law_read : At K mg "_law_read" s__law_read ["text"]
  _law_fits : At K mg "_law_fits" s__law_fits ["text"]
  _law_bent : At K mg "_law_bent" s__law_bent ["source", "text"]
  law : At K mg "law" s_law ["script"]
  R : RdrC K mg
  R_init : Md K R.C "__init__" "Reader.__init__" s_Reader_init ["self", "text"]
  R_mk : Mk K R.C R_init.f
  R_peek : Md K R.C "peek" "Reader.peek" s_Reader_peek ["self"]
  R_sign : Md K R.C "sign" "Reader.sign" s_Reader_sign ["self", "allowed"]
  R_word : Md K R.C "word" "Reader.word" s_Reader_word ["self"]
  R_number : Md K R.C "number" "Reader.number" s_Reader_number ["self"]
  R_run : Md K R.C "run" "Reader.run" s_Reader_run ["self", "allowed"]
  g_SHOPS : ∃ t, mg "SHOPS" = some (.str "abcdef" t)
  g__LETTERS : ∃ t, mg "_LETTERS" = some (.str "abcdefghijklmnopqrstuvwxyz" t)
  g_DIGITS : ∃ t, mg "DIGITS" = some (.str "0123456789" t)
  g__MOST_DIGITS : ∃ t, mg "_MOST_DIGITS" = some (.int 31 t)
  n_str : mg "str" = none
  g__GREATEST_NUMBER : ∃ t, mg "_GREATEST_NUMBER" = some (.int v__GREATEST_NUMBER t)
  g_MOST_SHOPS : ∃ t, mg "MOST_SHOPS" = some (.int v_MOST_SHOPS t)
  g__MOST_PARTS : ∃ t, mg "_MOST_PARTS" = some (.int v__MOST_PARTS t)
  g__MOST_TERMS : ∃ t, mg "_MOST_TERMS" = some (.int v__MOST_TERMS t)
  g__MOST_LEVELS : ∃ t, mg "_MOST_LEVELS" = some (.int v__MOST_LEVELS t)
  InvalidTerm : XCls K mg "InvalidTerm"
  o_InvalidText : OCls K mg "InvalidText" "InvalidText.__init__" s_InvalidText_init ["self", "at"]
  nof1 : PySem.W.findIn K (.ref o_InvalidText.C) "at" = some none
  n_len : mg "len" = none
  n_isinstance : mg "isinstance" = none
  n_abs : mg "abs" = none
  n_range : mg "range" = none
  n_int : mg "int" = none
  n_bool : mg "bool" = none
  n_tuple : mg "tuple" = none
  n_list : mg "list" = none
  n_sum : mg "sum" = none
section
variable {P : Program} {w : World} {K : PySem.W.Frag} {mg : Str → Option Value} {base : Heap}
abbrev RIsInt : List PyData → PyData → Prop := fun ds r => ∃ d, ds = [d] ∧ r = .bool (isI d)
theorem ok_is_int (T : Top K mg) : FnOk P w K mg base CX0 1 T.is_int.f T.is_int.fd ["value"] (spR K RIsInt) := by
  refine T.is_int.F.ok sc_is_int (fun vs H Q E h => ?_) (fun cdv A outer s H vs Q E hr h => ?_)
  · obtain ⟨M, ds, r, _, hv, ⟨d, rfl, _⟩, _⟩ := h
    exact dpa_len hv
  obtain ⟨M, ds, r, hM, hv, ⟨d, rfl, rfl⟩, q⟩ := h
  obtain ⟨v, rfl, hd⟩ := dpa1 hv
  refine ⟨_, (pss_one (ps_ret (pe_and (pe_callB call_isi (by rfl) T.n_isinstance (by decide +kernel) (pa_cons (pv 0) (pa_cons (pe_bltn (v := .ty "int") rfl T.n_int (by decide +kernel) rfl) pa_nil))) (pe_one (pe_not (pe_callB call_isi (by rfl) T.n_isinstance (by decide +kernel) (pa_cons (pv 0) (pa_cons (pe_bltn (v := .ty "bool") rfl T.n_bool (by decide +kernel) rfl) pa_nil)))))))), ?_⟩
  exact Evl.s_ret (Evl.ev_is (Evl.ev_andV (ev_isi (de_v hd (by rfl)) (kit_int d)) (fun _ => Evl.ev_notV (ev_isi (de_v hd (by rfl)) (kit_bool d)))) (congrArg V.bl (isI_eq d))) fun H1 e => q _ H1 e (sc_dp rfl)
def inR (lo hi : Int) : PyData → Bool
  | .int i => decide (lo ≤ i) && decide (i ≤ hi)
  | _ => false
abbrev RFrom : List PyData → PyData → Prop := fun ds r => ∃ d lo hi, ds = [d, .int lo, .int hi] ∧ r = .bool (inR lo hi d)
theorem ok_is_int_from (T : Top K mg) : FnOk P w K mg base CX0 2 T.is_int_from.f T.is_int_from.fd ["value", "least", "greatest"] (spR K RFrom) := by
  refine T.is_int_from.F.ok sc_is_int_from (fun vs H Q E h => ?_) (fun cdv A outer s H vs Q E hr h => ?_)
  · obtain ⟨M, ds, r, _, hv, ⟨d, lo, hi, rfl, _⟩, _⟩ := h
    exact dpa_len hv
  obtain ⟨M, ds, r, hM, hv, ⟨d, lo, hi, rfl, rfl⟩, q⟩ := h
  obtain ⟨v, v1, v2, rfl, hd, h1, h2⟩ := dpa3 hv
  obtain rfl := dpInt h1
  obtain rfl := dpInt h2
  refine ⟨_, (pss_one (ps_ret (pe_and (pe_call (ok_is_int T) (hr.mono (by omega)) (by rfl) T.is_int.g T.is_int.F.kp T.is_int.b .nil pass0 (pa_cons (pv 0) pa_nil)) (pe_one (pe_chain op_le op_le (pv 1) (pv 0) (pv 2)))))), ?_⟩
  have h0 : Evl.Ev (tCall (spR K RIsInt) [] E0 (tCons (tVar 0) tNil)) [some v, some (.int lo), some (.int hi)] H (.bl (isI d)) := ev_sc (de_callR hM (da_cons (de_v hd (by rfl)) da_nil) (R := RIsInt) ⟨d, rfl, rfl⟩) rfl
  cases hI : isI d with
  | false =>
    rw [hI] at h0
    refine Evl.s_ret (Evl.ev_andV h0 (b := false) (fun z => nomatch z)) fun H1 e => q _ H1 e ?_
    have : inR lo hi d = false := by
      cases d <;> first | rfl | cases hI
    rw [this]
    exact .bl _
  | true =>
    rw [hI] at h0
    cases d with
    | int i =>
      obtain rfl := dpInt hd
      exact Evl.s_ret (Evl.ev_andV h0 (fun _ => ev_chain (Evl.ev_var rfl) (Evl.ev_var rfl) (fun _ => Evl.ev_var rfl))) fun H1 e => q _ H1 e (.bl _)
    | _ => cases hI
abbrev RNum : List PyData → PyData → Prop := fun ds r => ∃ n, ds = [.int n] ∧ r = .bool (num n)
theorem ok_is_number (T : Top K mg) : FnOk P w K mg base CX0 3 T.is_number.f T.is_number.fd ["value"] (spR K RNum) := by
  refine T.is_number.F.ok sc_is_number (fun vs H Q E h => ?_) (fun cdv A outer s H vs Q E hr h => ?_)
  · obtain ⟨M, ds, r, _, hv, ⟨n, rfl, _⟩, _⟩ := h
    exact dpa_len hv
  obtain ⟨M, ds, r, hM, hv, ⟨n, rfl, rfl⟩, q⟩ := h
  obtain ⟨v, rfl, hd⟩ := dpa1 hv
  obtain rfl := dpInt hd
  refine ⟨_, (pss_one (ps_ret (pe_call (ok_is_int_from T) (hr.mono (by omega)) (by rfl) T.is_int_from.g T.is_int_from.F.kp T.is_int_from.b .nil pass0 (pa_cons (pv 0) (pa_cons (pe_un un_neg (pe_globI rfl T.g__GREATEST_NUMBER)) (pa_cons (pe_globI rfl T.g__GREATEST_NUMBER) pa_nil)))))), ?_⟩
  exact Evl.s_ret (ev_sc (de_callR (E := E0) hM (da_cons (de_sc (Evl.ev_var rfl) rfl) (da_cons (de_sc (Evl.ev_un Evl.ev_c Evl.ru_neg) rfl) (da_cons (de_sc Evl.ev_c rfl) da_nil))) (R := RFrom) ⟨.int n, _, _, rfl, rfl⟩) rfl) fun H1 e => q _ H1 e (.bl _)
theorem ev_word {t : Trm} {σ : L2.St} {H : Hp} {M : List Addr} {v : V} {te : TE} (h : Evl.Ev te σ H v) (hv : Dm K M H v (enc t)) : Evl.Ev (tOp (rIxT K) te (tC (.int 0))) σ H (.str (word t)) := by
  have hd := de_ev (K := K) (M := M) h hv
  rw [enc_eq] at hd
  exact ev_sc (de_ixT hd Evl.ev_c (encL_word t)) rfl
abbrev RLeaf : List PyData → PyData → Prop := fun ds r => ∃ t, ds = [enc t] ∧ r = .bool (leaf t)
theorem ok_is_leaf (T : Top K mg) : FnOk P w K mg base CX0 1 T.is_leaf.f T.is_leaf.fd ["term"] (spR K RLeaf) := by
  refine T.is_leaf.F.ok sc_is_leaf (fun vs H Q E h => ?_) (fun cdv A outer s H vs Q E hr h => ?_)
  · obtain ⟨M, ds, r, _, hv, ⟨t, rfl, _⟩, _⟩ := h
    exact dpa_len hv
  obtain ⟨M, ds, r, hM, hv, ⟨t, rfl, rfl⟩, q⟩ := h
  obtain ⟨v, rfl, hd⟩ := dpa1 hv
  refine ⟨_, (pss_one (ps_ret (pe_or (pe_cmpR op_eq (pe_ix ix_tup (pv 0) pe_int (fun _ _ => rfl)) pe_str (nomark _)) (pe_one (pe_cmpR op_eq (pe_ix ix_tup (pv 0) pe_int (fun _ _ => rfl)) pe_str (nomark _)))))), ?_⟩
  exact Evl.s_ret (Evl.ev_is (Evl.ev_orV (Evl.ev_op (ev_word (Evl.ev_var (by rfl)) hd) Evl.ev_c (Evl.rv_eq rfl)) (fun _ => Evl.ev_op (ev_word (Evl.ev_var (by rfl)) hd) Evl.ev_c (Evl.rv_eq rfl))) (congrArg V.bl (leaf_word t).symm)) fun H1 e => q _ H1 e (.bl _)
abbrev RParts : List PyData → PyData → Prop := fun ds r => ∃ t, ds = [enc t] ∧ r = .tuple ((kids t).map enc)
theorem ok_parts_of (T : Top K mg) : FnOk P w K mg base CX0 2 T.parts_of.f T.parts_of.fd ["term"] (spR K RParts) := by
  refine T.parts_of.F.ok sc_parts_of (fun vs H Q E h => ?_) (fun cdv A outer s H vs Q E hr h => ?_)
  · obtain ⟨M, ds, r, _, hv, ⟨t, rfl, _⟩, _⟩ := h
    exact dpa_len hv
  obtain ⟨M, ds, r, hM, hv, ⟨t, rfl, rfl⟩, q⟩ := h
  obtain ⟨v, rfl, hd⟩ := dpa1 hv
  refine ⟨_, (pss_cons (ps_if (pt_val (pe_call (ok_is_leaf T) (hr.mono (by omega)) (by rfl) T.is_leaf.g T.is_leaf.F.kp T.is_leaf.b .nil pass0 (pa_cons (pv 0) pa_nil))) (pss_one (ps_ret (pe_tup pa_nil))) pss_nil)
      (pss_one (ps_ret (pe_ix ix_tup (pv 0) (pe_un un_neg pe_int) (fun _ _ => rfl))))), ?_⟩
  refine Evl.q_when (Evl.et_B (ev_sc (de_callR (E := E0) hM (da_cons (de_v hd (by rfl)) da_nil) (R := RLeaf) ⟨t, rfl, rfl⟩) rfl)) (fun hb H1 e1 => ?_) (fun hb H1 e1 => ?_)
  · rw [leaf_kids hb] at q
    exact s_retD (de_tup (hM.ex e1) da_nil (by simp)) fun v H2 e2 hv => q v H2 (e1.trans e2) hv
  · have hd2 := hd
    rw [enc_eq] at hd2
    exact s_retD (de_ixT (DE.mono e1 (de_v hd2 (by rfl))) (Evl.ev_un Evl.ev_c Evl.ru_neg) (encL_kids hb)) fun v H2 e2 hv => q v H2 (e1.trans e2) hv
abbrev RArePs : List PyData → PyData → Prop := fun ds r => ∃ xs, ds = [.tuple xs] ∧ r = .bool (decide ((1 : Int) ≤ (xs.length : Int)) && decide ((xs.length : Int) ≤ 6))
theorem ok__are_parts (T : Top K mg) : FnOk P w K mg base CX0 1 T._are_parts.f T._are_parts.fd ["value"] (spR K RArePs) := by
  refine T._are_parts.F.ok sc__are_parts (fun vs H Q E h => ?_) (fun cdv A outer s H vs Q E hr h => ?_)
  · obtain ⟨M, ds, r, _, hv, ⟨xs, rfl, _⟩, _⟩ := h
    exact dpa_len hv
  obtain ⟨M, ds, r, hM, hv, ⟨xs, rfl, rfl⟩, q⟩ := h
  obtain ⟨v, rfl, hd⟩ := dpa1 hv
  refine ⟨_, (pss_one (ps_ret (pe_and (pe_callB call_isi (by rfl) T.n_isinstance (by decide +kernel) (pa_cons (pv 0) (pa_cons (pe_bltn (v := .ty "tuple") rfl T.n_tuple (by decide +kernel) rfl) pa_nil))) (pe_one (pe_chain op_le op_le pe_int (pe_callB (r := Evl.rLenS K) call_len_seq (by rfl) T.n_len PySem.boot_len (pa_cons (pv 0) pa_nil)) (pe_globI rfl T.g__MOST_PARTS)))))), ?_⟩
  exact Evl.s_ret (Evl.ev_andV (ev_isi (de_v hd (by rfl)) (kit_tuple _)) (fun _ => ev_chain Evl.ev_c (ev_lenD (de_v hd (by rfl)) (.inl rfl)) (fun _ => Evl.ev_c))) fun H1 e => q _ H1 e (.bl _)
abbrev RForm : List PyData → PyData → Prop := fun ds r => ∃ t, ds = [enc t] ∧ r = .bool (form t)
theorem ok__has_form (T : Top K mg) : FnOk P w K mg base CX0 4 T._has_form.f T._has_form.fd ["term"] (spR K RForm) := by
  refine T._has_form.F.ok sc__has_form (fun vs H Q E h => ?_) (fun cdv A outer s H vs Q E hr h => ?_)
  · obtain ⟨M, ds, r, _, hv, ⟨t, rfl, _⟩, _⟩ := h
    exact dpa_len hv
  obtain ⟨M, ds, r, hM, hv, ⟨t, rfl, rfl⟩, q⟩ := h
  obtain ⟨v, rfl, hd⟩ := dpa1 hv
  refine ⟨_, (pss_cons (ps_if (PW.pt (pw_or (pt_not (pt_val (pe_callB call_isi (by rfl) T.n_isinstance (by decide +kernel) (pa_cons (pv 0) (pa_cons (pe_bltn (v := .ty "tuple") rfl T.n_tuple (by decide +kernel) rfl) pa_nil))))) (pw_or1 (pt_cmpR op_eq (pe_callB (r := Evl.rLenS K) call_len_seq (by rfl) T.n_len PySem.boot_len (pa_cons (pv 0) pa_nil)) pe_int (nomark _))))) (pss_one (ps_ret pe_bl)) pss_nil)
      (pss_cons (ps_set (i := 1) sc__has_form.nd rfl (Or.inl rfl) (pe_ix ix_tup (pv 0) pe_int (fun _ _ => rfl)))
      (pss_cons (ps_if (pt_cmpR op_eq (pv 1) pe_str (nomark _)) (pss_one (ps_ret (pe_and (pe_cmpR op_eq (pe_callB (r := Evl.rLenS K) call_len_seq (by rfl) T.n_len PySem.boot_len (pa_cons (pv 0) pa_nil)) pe_int (nomark _)) (pe_and (pe_call (ok_is_int_from T) (hr.mono (by omega)) (by rfl) T.is_int_from.g T.is_int_from.F.kp T.is_int_from.b .nil pass0 (pa_cons (pe_ix ix_tup (pv 0) pe_int (fun _ _ => rfl)) (pa_cons pe_int (pa_cons (pe_op op_sub (pe_globI rfl T.g_MOST_SHOPS) pe_int) pa_nil)))) (pe_one (pe_call (ok_is_number T) (hr.mono (by omega)) (by rfl) T.is_number.g T.is_number.F.kp T.is_number.b .nil pass0 (pa_cons (pe_ix ix_tup (pv 0) pe_int (fun _ _ => rfl)) pa_nil))))))) pss_nil)
      (pss_cons (ps_if (pt_cmpR op_eq (pv 1) pe_str (nomark _)) (pss_one (ps_ret (pe_and (pe_cmpR op_eq (pe_callB (r := Evl.rLenS K) call_len_seq (by rfl) T.n_len PySem.boot_len (pa_cons (pv 0) pa_nil)) pe_int (nomark _)) (pe_one (pe_call (ok_is_number T) (hr.mono (by omega)) (by rfl) T.is_number.g T.is_number.F.kp T.is_number.b .nil pass0 (pa_cons (pe_ix ix_tup (pv 0) pe_int (fun _ _ => rfl)) pa_nil)))))) pss_nil)
      (pss_cons (ps_if (pt_cmpR op_eq (pv 1) pe_str (nomark _)) (pss_one (ps_ret (pe_and (pe_cmpR op_eq (pe_callB (r := Evl.rLenS K) call_len_seq (by rfl) T.n_len PySem.boot_len (pa_cons (pv 0) pa_nil)) pe_int (nomark _)) (pe_and (pe_call (ok__are_parts T) (hr.mono (by omega)) (by rfl) T._are_parts.g T._are_parts.F.kp T._are_parts.b .nil pass0 (pa_cons (pe_ix ix_tup (pv 0) pe_int (fun _ _ => rfl)) pa_nil)) (pe_one (pe_call (ok_is_int_from T) (hr.mono (by omega)) (by rfl) T.is_int_from.g T.is_int_from.F.kp T.is_int_from.b .nil pass0 (pa_cons (pe_ix ix_tup (pv 0) pe_int (fun _ _ => rfl)) (pa_cons pe_int (pa_cons (pe_callB (r := Evl.rLenS K) call_len_seq (by rfl) T.n_len PySem.boot_len (pa_cons (pe_ix ix_tup (pv 0) pe_int (fun _ _ => rfl)) pa_nil)) pa_nil))))))))) pss_nil)
      (pss_one (ps_ret (pe_and (pe_or (pe_cmpR op_eq (pv 1) pe_str (nomark _)) (pe_one (pe_cmpR op_eq (pv 1) pe_str (nomark _)))) (pe_and (pe_cmpR op_eq (pe_callB (r := Evl.rLenS K) call_len_seq (by rfl) T.n_len PySem.boot_len (pa_cons (pv 0) pa_nil)) pe_int (nomark _)) (pe_one (pe_call (ok__are_parts T) (hr.mono (by omega)) (by rfl) T._are_parts.g T._are_parts.F.kp T._are_parts.b .nil pass0 (pa_cons (pe_ix ix_tup (pv 0) pe_int (fun _ _ => rfl)) pa_nil)))))))))))), ?_⟩
  have hd2 : Dm K M H v (.tuple (encL t)) := by
    rw [← enc_eq]
    exact hd
  have hlen := encL_len t
  refine Evl.q_when (b := false) (Evl.et_is (Evl.et_or (Evl.et_not (Evl.et_B (ev_isi (de_v hd2 (by rfl)) (kit_tuple _)))) (fun _ => Evl.et_test (Evl.ev_op (ev_lenD (de_v hd2 (by rfl)) (.inl rfl)) Evl.ev_c (Evl.rv_eq rfl))))
    (by
      have : ¬ V.int ((encL t).length : Int) = V.int 0 := fun z => by
        have := V.int.inj z
        omega
      simp [isTup, this])) (fun hb => nomatch hb) fun _ H1 e1 => ?_
  have hd3 := dm_ex e1 hd2
  refine Evl.q_asg (ev_word (Evl.ev_var (by rfl)) (dm_ex e1 hd)) fun H2 e2 => ?_
  have hd4 := dm_ex e2 hd3
  have e12 := e1.trans e2
  have hM2 := hM.ex e12
  clear hd hd2 hd3 hv
  match t, hd4, q with
  | .price a n, hd4, q =>
    refine Evl.q_when (b := true) (Evl.et_is (Evl.et_test (Evl.ev_op (Evl.ev_var rfl) Evl.ev_c (Evl.rv_eq rfl))) rfl) (fun _ H3 e3 => ?_) (fun hb => nomatch hb)
    have hd5 := dm_ex e3 hd4
    refine Evl.s_ret (Evl.ev_is (Evl.ev_andV (Evl.ev_op (ev_lenD (de_v hd5 (by rfl)) (.inl rfl)) Evl.ev_c (Evl.rv_eq rfl)) (fun _ => Evl.ev_andV
      (ev_sc (de_callR (E := E0) (hM2.ex e3) (da_cons (de_ixT (de_v hd5 (by rfl)) Evl.ev_c (d := .int a) rfl) (da_cons (de_sc Evl.ev_c rfl) (da_cons (de_sc (Evl.ev_op Evl.ev_c Evl.ev_c Evl.rv_I0) rfl) da_nil))) (R := RFrom) ⟨.int a, 0, 5, rfl, rfl⟩) rfl)
      (fun _ => ev_sc (de_callR (E := E0) (hM2.ex e3) (da_cons (de_ixT (de_v hd5 (by rfl)) Evl.ev_c (d := .int n) rfl) da_nil) (R := RNum) ⟨n, rfl, rfl⟩) rfl))) rfl) fun H4 e4 => q _ H4 (e12.trans (e3.trans e4)) (.bl _)
  | .plain n, hd4, q =>
    refine Evl.q_when (b := false) (Evl.et_is (Evl.et_test (Evl.ev_op (Evl.ev_var rfl) Evl.ev_c (Evl.rv_eq rfl))) rfl) (fun hb => nomatch hb) (fun _ H3 e3 => ?_)
    refine Evl.q_when (b := true) (Evl.et_is (Evl.et_test (Evl.ev_op (Evl.ev_var rfl) Evl.ev_c (Evl.rv_eq rfl))) rfl) (fun _ H4 e4 => ?_) (fun hb => nomatch hb)
    have hd5 := dm_ex (e3.trans e4) hd4
    refine Evl.s_ret (Evl.ev_is (Evl.ev_andV (Evl.ev_op (ev_lenD (de_v hd5 (by rfl)) (.inl rfl)) Evl.ev_c (Evl.rv_eq rfl))
      (fun _ => ev_sc (de_callR (E := E0) (hM2.ex (e3.trans e4)) (da_cons (de_ixT (de_v hd5 (by rfl)) Evl.ev_c (d := .int n) rfl) da_nil) (R := RNum) ⟨n, rfl, rfl⟩) rfl)) rfl) fun H5 e5 => q _ H5 (e12.trans ((e3.trans e4).trans e5)) (.bl _)
  | .node (.rank k) ps, hd4, q =>
    refine Evl.q_when (b := false) (Evl.et_is (Evl.et_test (Evl.ev_op (Evl.ev_var rfl) Evl.ev_c (Evl.rv_eq rfl))) rfl) (fun hb => nomatch hb) (fun _ H3 e3 => ?_)
    refine Evl.q_when (b := false) (Evl.et_is (Evl.et_test (Evl.ev_op (Evl.ev_var rfl) Evl.ev_c (Evl.rv_eq rfl))) rfl) (fun hb => nomatch hb) (fun _ H4 e4 => ?_)
    refine Evl.q_when (b := true) (Evl.et_is (Evl.et_test (Evl.ev_op (Evl.ev_var rfl) Evl.ev_c (Evl.rv_eq rfl))) rfl) (fun _ H5 e5 => ?_) (fun hb => nomatch hb)
    have e35 := (e3.trans e4).trans e5
    have hd5 := dm_ex e35 hd4
    have hl : (((ps.map enc).length : Nat) : Int) = (ps.length : Int) := by rw [List.length_map]
    refine Evl.s_ret (Evl.ev_is (Evl.ev_andV (Evl.ev_op (ev_lenD (de_v hd5 (by rfl)) (.inl rfl)) Evl.ev_c (Evl.rv_eq rfl)) (fun _ => Evl.ev_andV
      (ev_sc (de_callR (E := E0) (hM2.ex e35) (da_cons (de_ixT (de_v hd5 (by rfl)) Evl.ev_c (d := .tuple (ps.map enc)) rfl) da_nil) (R := RArePs) ⟨_, rfl, rfl⟩) rfl)
      (fun _ => ev_sc (de_callR (E := E0) (hM2.ex e35) (da_cons (de_ixT (de_v hd5 (by rfl)) Evl.ev_c (d := .int k) rfl) (da_cons (de_sc Evl.ev_c rfl) (da_cons (de_sc (ev_lenD (de_ixT (de_v hd5 (by rfl)) Evl.ev_c (d := .tuple (ps.map enc)) rfl) (.inl rfl)) rfl) da_nil))) (R := RFrom) ⟨.int k, 1, _, rfl, rfl⟩) rfl)))
      (by simp only [form, inR, hl]; rfl)) fun H6 e6 => q _ H6 (e12.trans (e35.trans e6)) (.bl _)
  | .node .least ps, hd4, q =>
    refine Evl.q_when (b := false) (Evl.et_is (Evl.et_test (Evl.ev_op (Evl.ev_var rfl) Evl.ev_c (Evl.rv_eq rfl))) rfl) (fun hb => nomatch hb) (fun _ H3 e3 => ?_)
    refine Evl.q_when (b := false) (Evl.et_is (Evl.et_test (Evl.ev_op (Evl.ev_var rfl) Evl.ev_c (Evl.rv_eq rfl))) rfl) (fun hb => nomatch hb) (fun _ H4 e4 => ?_)
    refine Evl.q_when (b := false) (Evl.et_is (Evl.et_test (Evl.ev_op (Evl.ev_var rfl) Evl.ev_c (Evl.rv_eq rfl))) rfl) (fun hb => nomatch hb) (fun _ H5 e5 => ?_)
    have e35 := (e3.trans e4).trans e5
    have hd5 := dm_ex e35 hd4
    have hl : (((ps.map enc).length : Nat) : Int) = (ps.length : Int) := by rw [List.length_map]
    refine Evl.s_ret (Evl.ev_is (Evl.ev_andV (a := true) (Evl.ev_is (Evl.ev_orV (Evl.ev_op (Evl.ev_var rfl) Evl.ev_c (Evl.rv_eq rfl)) (fun _ => Evl.ev_op (Evl.ev_var rfl) Evl.ev_c (Evl.rv_eq rfl))) rfl)
      (fun _ => Evl.ev_andV (Evl.ev_op (ev_lenD (de_v hd5 (by rfl)) (.inl rfl)) Evl.ev_c (Evl.rv_eq rfl))
      (fun _ => ev_sc (de_callR (E := E0) (hM2.ex e35) (da_cons (de_ixT (de_v hd5 (by rfl)) Evl.ev_c (d := .tuple (ps.map enc)) rfl) da_nil) (R := RArePs) ⟨_, rfl, rfl⟩) rfl)))
      (by simp only [form, hl]; rfl)) fun H6 e6 => q _ H6 (e12.trans (e35.trans e6)) (.bl _)
  | .node .most ps, hd4, q =>
    refine Evl.q_when (b := false) (Evl.et_is (Evl.et_test (Evl.ev_op (Evl.ev_var rfl) Evl.ev_c (Evl.rv_eq rfl))) rfl) (fun hb => nomatch hb) (fun _ H3 e3 => ?_)
    refine Evl.q_when (b := false) (Evl.et_is (Evl.et_test (Evl.ev_op (Evl.ev_var rfl) Evl.ev_c (Evl.rv_eq rfl))) rfl) (fun hb => nomatch hb) (fun _ H4 e4 => ?_)
    refine Evl.q_when (b := false) (Evl.et_is (Evl.et_test (Evl.ev_op (Evl.ev_var rfl) Evl.ev_c (Evl.rv_eq rfl))) rfl) (fun hb => nomatch hb) (fun _ H5 e5 => ?_)
    have e35 := (e3.trans e4).trans e5
    have hd5 := dm_ex e35 hd4
    have hl : (((ps.map enc).length : Nat) : Int) = (ps.length : Int) := by rw [List.length_map]
    refine Evl.s_ret (Evl.ev_is (Evl.ev_andV (a := true) (Evl.ev_is (Evl.ev_orV (Evl.ev_op (Evl.ev_var rfl) Evl.ev_c (Evl.rv_eq rfl)) (fun _ => Evl.ev_op (Evl.ev_var rfl) Evl.ev_c (Evl.rv_eq rfl))) rfl)
      (fun _ => Evl.ev_andV (Evl.ev_op (ev_lenD (de_v hd5 (by rfl)) (.inl rfl)) Evl.ev_c (Evl.rv_eq rfl))
      (fun _ => ev_sc (de_callR (E := E0) (hM2.ex e35) (da_cons (de_ixT (de_v hd5 (by rfl)) Evl.ev_c (d := .tuple (ps.map enc)) rfl) da_nil) (R := RArePs) ⟨_, rfl, rfl⟩) rfl)))
      (by simp only [form, hl]; rfl)) fun H6 e6 => q _ H6 (e12.trans (e35.trans e6)) (.bl _)
end
end K04

set_option Elab.async false
set_option linter.all false
set_option maxRecDepth 100000
set_option maxHeartbeats 4000000
namespace K04
open PySem PySem.Spec PyProof.Rows L2 DK DD TM
section
variable {P : Program} {w : World} {K : PySem.W.Frag} {mg : Str → Option Value} {base : Heap}
instance (t : Trm) : Decidable (okT t) := by
  unfold okT
  infer_instance
abbrev RTerm : List PyData → PyData → Prop := fun ds r => ∃ t, ds = [enc t] ∧ r = .bool (decide (okT t))
/-- check_term(term) -/
def spChk (K : PySem.W.Frag) (C : Addr) : Sp := fun vs H Q E => ∃ M t v, vs = [v] ∧ Dom M H ∧ Dm K M H v (enc t) ∧ (okT t → ∀ H', Evl.Ex H H' → Q .non H') ∧ (¬ okT t → ∀ H', Evl.Ex H H' → E (.ref C) none H')
def encE (e : Trm × Nat) : PyData := .tuple [enc e.1, .int (e.2 : Int)]
theorem ok_is_term (T : Top K mg) : FnOk P w K mg base CX0 5 T.is_term.f T.is_term.fd ["value"] (spR K RTerm) := by
  refine T.is_term.F.ok sc_is_term (fun vs H Q E h => ?_) (fun cdv A outer s H vs Q E hr h => ?_)
  · obtain ⟨M, ds, r, _, hv, ⟨d, rfl, _⟩, _⟩ := h
    exact dpa_len hv
  obtain ⟨M, ds, r, hM, hv, ⟨t, rfl, rfl⟩, q⟩ := h
  obtain ⟨v, rfl, hd⟩ := dpa1 hv
  have qO : okT t → ∀ H', Evl.Ex H H' → Q (.bl true) H' := fun h H' e => q _ H' e (by rw [decide_eq_true h]; exact .bl true)
  have qE : ¬ okT t → ∀ H', Evl.Ex H H' → Q (.bl false) H' := fun h H' e => q _ H' e (by rw [decide_eq_false h]; exact .bl false)
  refine ⟨_, (pss_cons (ps_set (i := 1) sc_is_term.nd rfl (Or.inl rfl) (pe_lst (pa_cons (pe_tup (pa_cons (pv 0) (pa_cons pe_int pa_nil))) pa_nil)))
      (pss_cons (ps_set (i := 2) sc_is_term.nd rfl (Or.inl rfl) pe_int)
      (pss_cons (ps_while PassesOwn.never (pt_truth (pv 1) (by intro _; rfl)) (pss_cons (ps_asg (pe_bm0 PySem.F.plainAttrs_list PySem.F.slot_list_pop PySem.F.type_list_pop mt_pop (pv 1)) (pg_tup rfl (pgs_cons (pg_name (i := 3) sc_is_term.nd rfl (Or.inl rfl)) (pgs_cons (pg_name (i := 4) sc_is_term.nd rfl (Or.inr rfl)) pgs_nil))))
      (pss_cons (ps_aug (i := 2) sc_is_term.nd rfl (Or.inl rfl) pe_int ip_add)
      (pss_cons (ps_if (PW.pt (pw_or (pt_cmpR op_gt (pv 2) (pe_globI rfl T.g__MOST_TERMS) (nomark _)) (pw_or (pt_cmpR op_gt (pv 4) (pe_globI rfl T.g__MOST_LEVELS) (nomark _)) (pw_or1 (pt_not (pt_val (pe_call (ok__has_form T) (hr.mono (by omega)) (by rfl) T._has_form.g T._has_form.F.kp T._has_form.b .nil pass0 (pa_cons (pv 3) pa_nil)))))))) (pss_one (ps_ret pe_bl)) pss_nil)
      (pss_one (ps_expr (pe_bm PySem.F.plainAttrs_list PySem.F.slot_list_extend PySem.F.type_list_extend mt_extend (pv 1) (pa_cons (pe_lc (own := [("inner", 5)]) (g := gName 5) (tt := tYes) rfl sc_is_term.nd (pi_tup (pe_call (ok_parts_of T) (hr.mono (by omega)) (by rfl) T.parts_of.g T.parts_of.F.kp T.parts_of.b .nil pass0 (pa_cons (pv 3) pa_nil))) (blkOk_by (N := N_is_term) (sc := defScope s_is_term) (by decide +kernel)) (fun _ _ _ _ _ => (pg_name (i := 5) sc_is_term.nd rfl (Or.inl rfl))) (fun _ _ _ _ _ => pts_nil) (fun _ _ _ _ _ => (pe_tup (pa_cons (pv 5) (pa_cons (pe_op op_add (pv 4) pe_int) pa_nil))))) pa_nil))))))))
      (pss_one (ps_ret pe_bl))))), ?_⟩
  refine q_asgDL (dl_lst (da_cons (de_tup hM (da_cons (de_v hd (by rfl)) (da_cons (de_sc Evl.ev_c (d := .int 1) rfl) da_nil)) (by simp)) da_nil) (by simp)) fun p vs H1 n1 e1 h1 d1 => ?_
  refine Evl.q_asg Evl.ev_c fun H2 e2 => ?_
  have e12 := e1.trans e2
  refine Evl.q_while (fun m σ' H' => ∃ (pile : List (Trm × Nat)) (many : Nat) (x3 x4 x5 : Option V) (us : List V), σ' = [some v, some (.ref p), some (.int (many : Int)), x3, x4, x5] ∧ Evl.Ex H H' ∧ H' p = some (.lst us) ∧
      Dms K (p :: M) H' us (pile.map encE) ∧ m = cnts (pile.map (·.1)) ∧ many ≤ 40 ∧ us.length ≤ 1 + 6 * many ∧ (okT t ↔ many + cnts (pile.map (·.1)) ≤ 40 ∧ ∀ e ∈ pile, good e)) (cnt t)
    ⟨[(t, 1)], 0, none, none, none, vs, rfl, e12, e2 _ _ h1, dms_ex e2 d1, by simp [cnts], by omega, by have := dpa_len d1; simp at this; omega, ?_⟩ (fun m σ' H' hW => ?_)
  · simp only [List.map_cons, List.map_nil, cnts, List.mem_singleton, forall_eq, good, okT]
    constructor
    · rintro ⟨a, b, c⟩
      exact ⟨by omega, by omega, c⟩
    · rintro ⟨a, b, c⟩
      exact ⟨by omega, by omega, c⟩
  · obtain ⟨pile, many, x3, x4, x5, us, rfl, eH, hp, hus, rfl, m40, u400, iff⟩ := hW
    refine ⟨_, et_truL (Evl.ev_var rfl) (Evl.sq_of hp), fun hb H3 e3 => ?_, fun hb H3 e3 => ?_⟩
    · -- a turn
      obtain ⟨pl, u, lv, rfl⟩ : ∃ pl u lv, pile = pl ++ [(u, lv)] := by
        cases hz : pile.getLast? with
        | none =>
          rw [List.getLast?_eq_none_iff] at hz
          subst hz
          cases hus
          cases hb
        | some e =>
          obtain ⟨ys, hys⟩ := List.getLast?_eq_some_iff.mp hz
          exact ⟨ys, e.1, e.2, hys⟩
      rw [List.map_append] at hus
      obtain ⟨vs', y, rfl, dvs, dy⟩ := dpa_snoc hus
      obtain ⟨a, z1, rfl, hsq, hz1⟩ : ∃ a z1, y = .ref a ∧ SqT K (mi H' (p :: M)) a [z1, .int (lv : Int)] ∧ Dm K (p :: M) H' z1 (enc u) := by
        have dy' : Dm K (p :: M) H' y (.tuple [enc u, .int (lv : Int)]) := dy
        cases dy' with
        | tup hs hv =>
          obtain ⟨v1, v2, rfl, h1', h2'⟩ := dpa2 hv
          obtain rfl := dpInt h2'
          exact ⟨_, v1, rfl, hs, h1'⟩
      refine ⟨fun σ2 H2 => ∃ m', m' < cnts ((pl ++ [(u, lv)]).map (·.1)) ∧ _, fun σ2 H2 z => z, ?_⟩
      have hp3 := e3 _ _ hp
      -- part, level = waiting.pop()
      refine ⟨.ref p, rfl, .inl ⟨rfl, _, Evl.sq_of hp3⟩, p, _, .ref a, rfl, rfl, hp3, by simp, ?_⟩
      have eM : ExM (p :: M) H3 (upd H3 p (.lst (vs' ++ [V.ref a]).dropLast)) := ExM.mut (by simp)
      have hp4 : upd H3 p (.lst (vs' ++ [V.ref a]).dropLast) p = some (.lst vs') := by
        rw [upd_same, List.dropLast_concat]
      have eH4 : Evl.Ex H (upd H3 p (.lst (vs' ++ [V.ref a]).dropLast)) := (eH.trans e3).mut n1
      generalize upd H3 p (.lst (vs' ++ [V.ref a]).dropLast) = H4 at eM hp4 eH4
      have hsq4 : SqT K H4 a [z1, .int (lv : Int)] := Evl.ex_t (ex_full _ _) (Evl.ex_t (exM_mi eM) (Evl.ex_t (ex_mi e3) hsq))
      have hz4 := dm_exM eM (dm_ex e3 hz1)
      have dv4 := dms_exM eM (dms_ex e3 dvs)
      refine ⟨a, _, rfl, hsq4, rfl, z1, [.int (lv : Int)], rfl, .int (lv : Int), [], rfl, rfl, ?_⟩
      -- many += 1
      refine Evl.q_aug rfl Evl.ev_c fun H5 e5 => ?_
      have hM5 : Dom (p :: M) H5 := (hM.ex (eH4.trans e5)).cons (by rw [e5 _ _ hp4]; exact fun z => nomatch z)
      have cu := cnt_pos u
      have gi := good_iff u lv
      have ec : cnts ((pl ++ [(u, lv)]).map (·.1)) = cnts (pl.map (·.1)) + cnt u := by
        rw [List.map_append, cnts_app]
        simp [cnts]
      -- the test
      refine Evl.q_when (Evl.et_or (Evl.et_test (Evl.ev_op (Evl.ev_var rfl) Evl.ev_c Evl.rv_I0)) (fun _ => Evl.et_or (Evl.et_test (Evl.ev_op (Evl.ev_var rfl) Evl.ev_c Evl.rv_I0))
        (fun _ => Evl.et_not (Evl.et_B (ev_sc (de_callR (E := E0) hM5 (da_cons (de_v (dm_ex e5 hz4) (by rfl)) da_nil) (R := RForm) ⟨u, rfl, rfl⟩) rfl))))) (fun hb H6 e6 => ?_) (fun hb H6 e6 => ?_)
      · -- no term
        refine Evl.s_ret Evl.ev_c fun H7 e7 => qE (fun hok => ?_) H7 (eH4.trans (e5.trans (e6.trans e7)))
        obtain ⟨k1, k2⟩ := iff.mp hok
        obtain ⟨g1, g2, _⟩ := gi.mp (k2 (u, lv) (by simp))
        rw [ec] at k1
        simp only [Bool.or_eq_true, decide_eq_true_eq, Bool.not_eq_true', v__MOST_TERMS, v__MOST_LEVELS] at hb
        rcases hb with hb | hb | hb
        · omega
        · omega
        · rw [hb] at g2
          cases g2
      · simp only [Bool.or_eq_false_iff, decide_eq_false_iff_not, Bool.not_eq_false', v__MOST_TERMS, v__MOST_LEVELS] at hb
        obtain ⟨b1, b2, b3⟩ := hb
        have e56 := e5.trans e6
        have hM6 := hM5.ex e6
        have hz6 := dm_ex e56 hz4
        have kl := form_kids b3
        -- waiting.extend(..)
        refine ⟨.ref p, rfl, .inl ⟨rfl, _, Evl.sq_of (e56 _ _ hp4)⟩, ?_⟩
        refine dl_lcT (M := p :: M) (l := kids u) (enc := enc) (f := fun w => .tuple [enc w, .int ((lv : Int) + 1)]) hM6 (de_callR (E := E0) hM6 (da_cons (de_v hz6 (by rfl)) da_nil) (R := RParts) ⟨u, rfl, rfl⟩) (by omega) (fun _ => rfl)
          (fun w hw x H7 D _ _ hM7 hx => de_tup hM7 (da_cons (de_v hx (by rfl)) (da_cons (de_sc (Evl.ev_op (Evl.ev_var rfl) Evl.ev_c Evl.rv_I0) rfl) da_nil)) (by simp)) H6 (Evl.Ex.refl _) _ fun r vs2 H7 n7 e7 hr d7 => ?_
        have hp7 := (e56.trans e7) _ _ hp4
        have l2 : vs2.length = (kids u).length := by rw [dpa_len d7, List.length_map]
        have l1 : vs'.length = pl.length := by rw [dpa_len dvs, List.length_map]
        refine ⟨p, r, vs', vs2, rfl, rfl, hp7, hr, Evl.sz_of (by rw [List.length_append] at u400; simp at u400; omega), ?_⟩
        have eM7 : ExM (p :: M) H7 (upd H7 p (.lst (vs' ++ vs2))) := ExM.mut (by simp)
        have kc := cnt_kids u
        refine ⟨cnts ((pl ++ (kids u).map fun w => (w, lv + 1)).map (·.1)), ?_, pl ++ (kids u).map fun w => (w, lv + 1), many + 1, _, _, _, vs' ++ vs2, rfl, (eH4.trans (e56.trans e7)).mut n1, upd_same, ?_, rfl, by omega, ?_, ?_⟩
        · rw [ec, List.map_append, cnts_app, List.map_map]
          have : (kids u).map ((fun x => x.1) ∘ fun w => (w, lv + 1)) = kids u := by simp [Function.comp_def]
          rw [this]
          omega
        · rw [List.map_append]
          refine dms_exM eM7 (dpa_app (dms_ex (e56.trans e7) dv4) ?_)
          have : ((kids u).map fun w => (w, lv + 1)).map encE = (kids u).map fun w => PyData.tuple [enc w, .int ((lv : Int) + 1)] := by
            rw [List.map_map]
            rfl
          rw [this]
          exact dms_less d7
        · rw [List.length_append] at u400 ⊢
          simp at u400
          omega
        · rw [iff, ec, List.map_append, cnts_app, List.map_map]
          have : (kids u).map ((fun x => x.1) ∘ fun w => (w, lv + 1)) = kids u := by simp [Function.comp_def]
          rw [this]
          constructor
          · rintro ⟨k1, k2⟩
            refine ⟨by omega, fun e he => ?_⟩
            rcases List.mem_append.mp he with he | he
            · exact k2 e (by simp [he])
            · obtain ⟨w, hw, rfl⟩ := List.mem_map.mp he
              exact (gi.mp (k2 (u, lv) (by simp))).2.2 w hw
          · rintro ⟨k1, k2⟩
            refine ⟨by omega, fun e he => ?_⟩
            rcases List.mem_append.mp he with he | he
            · exact k2 e (by simp [he])
            · rw [List.mem_singleton] at he
              subst he
              exact gi.mpr ⟨by omega, b3, fun w hw => k2 (w, lv + 1) (by simp [hw])⟩
    · -- the end
      have hnil : pile = [] := by
        cases pile with
        | nil => rfl
        | cons e pl =>
          cases hus
          cases hb
      subst hnil
      exact Evl.s_ret Evl.ev_c fun H4 e4 => qO (iff.mpr ⟨by simpa [cnts] using m40, by simp⟩) H4 (eH.trans (e3.trans e4))
theorem ok_check_term (T : Top K mg) : FnOk P w K mg base (CX P w) 6 T.check_term.f T.check_term.fd ["term"] (spChk K T.InvalidTerm.C) := by
  refine T.check_term.F.okX sc_check_term (fun vs H Q E h => ?_) (fun cdv A outer s H vs Q E hr h => ?_)
  · obtain ⟨M, t, v, rfl, _⟩ := h
    rfl
  obtain ⟨M, t, v, rfl, hM, hd, qO, qE⟩ := h
  refine ⟨_, (pss_one (ps_if (pt_not (pt_val (pe_call (ok_is_term T) (hr.mono (by omega)) (by rfl) T.is_term.g T.is_term.F.kp T.is_term.b .nil pass0 (pa_cons (pv 0) pa_nil)))) (pss_one (ps_raise rfl (takes_of rfl rfl rfl rfl) (pmk_own F.excBase_ValueError T.InvalidTerm.q T.InvalidTerm.g T.InvalidTerm.k (raises_own T.InvalidTerm.ex T.InvalidTerm.ty) rfl))) pss_nil)), ?_⟩
  refine Evl.s_when (Evl.et_not (Evl.et_B (ev_sc (de_callR (E := E0) hM (da_cons (de_v hd (by rfl)) da_nil) (R := RTerm) ⟨t, rfl, rfl⟩) rfl))) (fun hb H1 e1 => ?_) (fun hb H1 e1 => ?_)
  · exact qE (fun h => by simp [h] at hb) H1 e1
  · exact qO (by simpa using hb) H1 e1
end
end K04

set_option Elab.async false
set_option linter.all false
set_option maxRecDepth 100000
set_option maxHeartbeats 4000000
namespace K04
open PySem PySem.Spec PyProof.Rows L2 DK DD TM
section
variable {P : Program} {w : World} {K : PySem.W.Frag} {mg : Str → Option Value} {base : Heap}
theorem ok__law_draw (T : Top K mg) : FnOk P w K mg base CX0 1 T._law_draw.f T._law_draw.fd ["source", "limit"] spDraw := by
  refine T._law_draw.F.ok sc__law_draw (fun vs H Q E h => ?_) (fun cdv A outer s H vs Q E hr h => ?_)
  · obtain ⟨_, _, _, _, rfl, _⟩ := h
    rfl
  obtain ⟨s, c, n, l, rfl, ⟨ne, ks, t, e1, e2, k1, k63, tn⟩, n60, l0, l30, q⟩ := h
  refine ⟨_, (pss_cons (ps_asg (pv 0) (pg_unl rfl (pgs_cons (pg_name (i := 2) sc__law_draw.nd rfl (Or.inl rfl)) (pgs_cons (pg_name (i := 3) sc__law_draw.nd rfl (Or.inl rfl)) pgs_nil))))
      (pss_cons (ps_set (i := 4) sc__law_draw.nd rfl (Or.inl rfl) (pe_op op_mod (pe_callTy call_int1 (by rfl) T.n_int (by decide +kernel) (pa_cons (pv 3) pa_nil)) (pe_callB (r := Evl.rLenS K) call_len_seq (by rfl) T.n_len PySem.boot_len (pa_cons (pv 2) pa_nil))))
      (pss_cons (ps_set (i := 5) sc__law_draw.nd rfl (Or.inl rfl) (pe_ix ix_list (pv 2) (pv 4) (fun _ _ => rfl)))
      (pss_cons (ps_asg (pe_op op_add (pv 3) pe_int) (pg_sub (pv 0) pe_int set_list))
      (pss_cons (ps_if (pt_cmpR op_ge (pv 5) (pe_op op_powW pe_int pe_int) (nomark _)) (pss_cons (ps_asg (pe_op op_fdiv (pv 5) (pv 1)) (pg_sub (pv 2) (pv 4) set_list))
      (pss_one (ps_ret (pe_op op_mod (pe_callTy call_int1 (by rfl) T.n_int (by decide +kernel) (pa_cons (pv 5) pa_nil)) (pv 1))))) pss_nil)
      (pss_cons (ps_set (i := 6) sc__law_draw.nd rfl (Or.inl rfl) (pe_op op_mod (pe_callTy call_int1 (by rfl) T.n_int (by decide +kernel) (pa_cons (pe_op op_add (pe_op op_add (pe_op op_mul (pe_op op_mod (pe_callTy call_int1 (by rfl) T.n_int (by decide +kernel) (pa_cons (pv 5) pa_nil)) pe_int) pe_int) (pe_op op_mul (pe_op op_mul (pv 3) (pv 3)) pe_int)) pe_int) pa_nil)) pe_int))
      (pss_cons (ps_set (i := 6) sc__law_draw.nd rfl (Or.inl rfl) (pe_op op_mod (pe_callTy call_int1 (by rfl) T.n_int (by decide +kernel) (pa_cons (pe_op op_mul (pv 6) (pv 6)) pa_nil)) pe_int))
      (pss_cons (ps_set (i := 6) sc__law_draw.nd rfl (Or.inl rfl) (pe_op op_mod (pe_callTy call_int1 (by rfl) T.n_int (by decide +kernel) (pa_cons (pe_op op_mul (pv 6) (pv 6)) pa_nil)) pe_int))
      (pss_one (ps_ret (pe_op op_mod (pe_callTy call_int1 (by rfl) T.n_int (by decide +kernel) (pa_cons (pv 6) pa_nil)) (pv 1)))))))))))), ?_⟩
  have hk : 0 < ((ks.map V.int).length : Int) := by
    rw [List.length_map]
    omega
  -- cells, turn = source
  refine ⟨_, rfl, s, _, rfl, .inl (.inl e1), rfl, _, _, rfl, _, _, rfl, rfl, ?_⟩
  -- place = int(turn) % len(cells)
  refine ⟨_, rfl, .inl ⟨_, rfl, _, rfl, c, _, rfl, .inl (.inl (.inl e2)), _, _, rfl, rfl, hk, ?_⟩⟩
  have hp1 : 0 ≤ (t : Int) % ((ks.map V.int).length : Int) := Int.emod_nonneg _ (by omega)
  have hp2 : (t : Int) % ((ks.map V.int).length : Int) < ((ks.map V.int).length : Int) := Int.emod_lt_of_pos _ hk
  obtain ⟨j, hj⟩ : ∃ j : Nat, (t : Int) % ((ks.map V.int).length : Int) = (j : Int) := ⟨_, (Int.toNat_of_nonneg hp1).symm⟩
  have hj2 : j < ks.length := by
    rw [hj, List.length_map] at hp2
    omega
  have hat : atI (ks.map V.int) ((t : Int) % ((ks.map V.int).length : Int)) = some (.int ks[j]) := by
    rw [hj]
    exact atI_nat (by rw [List.getElem?_map, List.getElem?_eq_getElem hj2] <;> rfl)
  have hix : ixN (ks.map V.int).length ((t : Int) % ((ks.map V.int).length : Int)) = some j := by
    rw [hj]
    exact Evl.ixN_nat (by rw [List.length_map]; exact hj2)
  -- cell = cells[place]
  refine ⟨_, rfl, _, rfl, c, _, _, _, rfl, rfl, .inl (.inl e2), hat, ?_⟩
  -- source[1] = turn + 1
  refine ⟨_, rfl, _, _, rfl, rfl, _, rfl, s, _, 1, 1, rfl, rfl, e1, rfl, ?_⟩
  have f1 : upd H s (.lst ([V.ref c, .int (t : Int)].set 1 (.int ((t : Int) + 1)))) s = some (.lst [.ref c, .int (((t + 1 : Nat) : Int))]) := by
    rw [upd_same]
    rfl
  have f2 : upd H s (.lst ([V.ref c, .int (t : Int)].set 1 (.int ((t : Int) + 1)))) c = some (.lst (ks.map V.int)) := by
    rw [upd_ne ne]
    exact e2
  have fM : ExM [s, c] H (upd H s (.lst ([V.ref c, .int (t : Int)].set 1 (.int ((t : Int) + 1))))) := ExM.mut (by simp)
  generalize upd H s (.lst ([V.ref c, .int (t : Int)].set 1 (.int ((t : Int) + 1)))) = H1 at f1 f2 fM ⊢
  -- if cell >= 10 ** 18
  refine ⟨_, rfl, 10, 18, rfl, rfl, ⟨by decide, by decide +kernel⟩, _, _, rfl, rfl, _, rfl, ite2 (fun b => ?_) (fun b => ?_)⟩
  · -- cells[place] = cell // limit
    refine ⟨_, rfl, _, rfl, _, _, rfl, rfl, ⟨l0, l30⟩, _, rfl, _, rfl, c, _, _, j, rfl, rfl, f2, hix, ?_⟩
    refine ⟨_, rfl, .inl ⟨_, rfl, _, rfl, _, _, rfl, rfl, l0, ?_⟩⟩
    refine q _ _ (Int.emod_nonneg _ (by omega)) (Int.emod_lt_of_pos _ l0) (fM.trans (ExM.mut (by simp))) ⟨ne, ks.set j (ks[j] / l), t + 1, ?_, ?_, ?_, ?_, by omega⟩
    · rw [upd_ne (Ne.symm ne)]
      exact f1
    · rw [upd_same, List.map_set]
    · rw [List.length_set]
      exact k1
    · rw [List.length_set]
      exact k63
  · have m1 : ∀ (a b : Int), 0 < b → b < 2 ^ 33 → -(2 ^ 64) < a % b ∧ a % b < 2 ^ 64 := fun a b h1 h2 => by
      have := Int.emod_nonneg a (show b ≠ 0 by omega)
      have := Int.emod_lt_of_pos a h1
      omega
    refine ⟨_, rfl, .inl ⟨_, rfl, _, _, rfl, rfl, (show (0 : Int) < 2147483629 by decide), _, _, rfl, rfl, .inr ⟨by decide, by decide⟩, ?_⟩⟩
    refine ⟨_, rfl, _, rfl, _, _, rfl, rfl, .inl ⟨by omega, by omega⟩, _, _, rfl, rfl, .inr ⟨by decide, by decide⟩, _, _, rfl, rfl, _, _, rfl, rfl, .inl ⟨_, rfl, _, _, rfl, rfl, (show (0 : Int) < 2147483647 by decide), ?_⟩⟩
    refine ⟨_, rfl, _, rfl, _, _, rfl, rfl, .inl (m1 _ _ (by decide) (by decide)), .inl ⟨_, rfl, _, _, rfl, rfl, (show (0 : Int) < 2147483629 by decide), ?_⟩⟩
    refine ⟨_, rfl, _, rfl, _, _, rfl, rfl, .inl (m1 _ _ (by decide) (by decide)), .inl ⟨_, rfl, _, _, rfl, rfl, (show (0 : Int) < 2147483587 by decide), ?_⟩⟩
    refine ⟨_, rfl, .inl ⟨_, rfl, _, rfl, _, _, rfl, rfl, l0, ?_⟩⟩
    exact q _ _ (Int.emod_nonneg _ (by omega)) (Int.emod_lt_of_pos _ l0) fM ⟨ne, ks, t + 1, f1, f2, k1, k63, by omega⟩
theorem ok__law_source (T : Top K mg) : FnOk P w K mg base CX0 1 T._law_source.f T._law_source.fd ["script"] (spSource K) := by
  refine T._law_source.F.ok sc__law_source (fun vs H Q E h => ?_) (fun cdv A outer s H vs Q E hr h => ?_)
  · obtain ⟨_, _, rfl, _⟩ := h
    rfl
  obtain ⟨a, ns, rfl, hS, h63, q⟩ := h
  refine ⟨_, (pss_cons (ps_set (i := 1) sc__law_source.nd rfl (Or.inl rfl) (pe_slice sl_list (pv 0) po_none (po_some pe_int)))
      (pss_cons (ps_for PassesOwn.never rfl (pi_range1 (by rfl) T.n_range (pa_cons (pe_callB (r := Evl.rLenS K) call_len_seq (by rfl) T.n_len PySem.boot_len (pa_cons (pv 1) pa_nil)) pa_nil)) (pg_name (i := 2) sc__law_source.nd rfl (Or.inl rfl)) (pss_one (ps_if (pt_cmpR op_ge (pe_callB call_abs (by rfl) T.n_abs (by decide +kernel) (pa_cons (pe_ix ix_list (pv 1) (pv 2) (fun _ _ => rfl)) pa_nil)) (pe_op op_powW pe_int pe_int) (nomark _)) (pss_one (ps_asg (pe_op op_mod (pe_callTy call_int1 (by rfl) T.n_int (by decide +kernel) (pa_cons (pe_ix ix_list (pv 1) (pv 2) (fun _ _ => rfl)) pa_nil)) (pe_op op_powW (pe_op op_powW pe_int pe_int) pe_int)) (pg_sub (pv 1) (pv 2) set_list))) pss_nil)))
      (pss_cons (ps_if (pt_cmpR (op_eqD (hu64 hr)) (pv 1) (pe_lst pa_nil) (nomark _)) (pss_one (ps_set (i := 1) sc__law_source.nd rfl (Or.inl rfl) (pe_lst (pa_cons pe_int pa_nil)))) pss_nil)
      (pss_one (ps_ret (pe_lst (pa_cons (pv 1) (pa_cons pe_int pa_nil)))))))), ?_⟩
  -- cells = script[:63]
  refine ⟨_, rfl, 63, rfl, a, _, rfl, hS, fun p hp => ?_⟩
  have hcut : cutV (ns.map V.int) none (some 63) = (ns.take 63).map V.int := by
    unfold cutV
    rw [HT.sIx_none, show HT.sIx (ns.map V.int).length (ns.map V.int).length (some 63) = min 63 (ns.map V.int).length from HT.sIx_nat _ _ 63, List.length_map, Nat.min_eq_right h63, List.drop_zero, Nat.sub_zero, List.take_of_length_le (by rw [List.length_map]; omega), List.take_of_length_le h63]
  rw [hcut]
  have e0 : Evl.Ex H (upd H p (.lst ((ns.take 63).map V.int))) := Evl.Ex.new hp
  have hl0 : (ns.take 63).length ≤ 63 := List.length_take_le _ _
  have at0 : upd H p (.lst ((ns.take 63).map V.int)) p = some (.lst ((ns.take 63).map V.int)) := upd_same
  generalize upd H p (.lst ((ns.take 63).map V.int)) = H0 at e0 at0
  generalize ns.take 63 = ms at hl0 at0
  -- for k in range(len(cells))
  refine ⟨.ref p, rfl, p, _, rfl, .inl (.inl (.inl at0)), _, rfl, by rw [List.length_map]; omega, by rw [List.length_map]; omega, for_range (lo := 0) (n := ((((ms.map V.int).length : Nat) : Int)).toNat) (fun _ σ H' => ∃ (y2 : Option V) (ks : List Int), σ = [some (.ref a), some (.ref p), y2] ∧ ks.length = ms.length ∧ Evl.Ex H H' ∧ H' p = some (.lst (ks.map V.int))) ⟨none, ms, rfl, rfl, e0, at0⟩ (fun i σ H' hi hW => ?_) (fun σ H' hW => ?_)⟩
  · obtain ⟨y2, ks, rfl, hk, hE, hP⟩ := hW
    rw [Int.toNat_natCast, List.length_map, ← hk] at hi
    have hat : atI (ks.map V.int) ((0 : Int) + (i : Int)) = some (.int ks[i]) := by
      rw [Int.zero_add]
      exact atI_nat (by rw [List.getElem?_map, List.getElem?_eq_getElem hi] <;> rfl)
    have hix : ixN (ks.map V.int).length ((0 : Int) + (i : Int)) = some i := by
      rw [Int.zero_add]
      exact Evl.ixN_nat (by rw [List.length_map]; exact hi)
    refine ⟨.ref p, rfl, _, rfl, p, _, _, _, rfl, rfl, .inl (.inl hP), hat, _, rfl, 10, 18, rfl, rfl, ⟨by decide, by decide +kernel⟩, _, _, rfl, rfl, _, rfl, ite2 (fun _ => ?_) (fun _ => ?_)⟩
    · refine ⟨.ref p, rfl, _, rfl, p, _, _, _, rfl, rfl, .inl (.inl hP), hat, .inl ⟨_, rfl, 10, 60, rfl, rfl, ⟨by decide, by decide +kernel⟩, _, 20, rfl, rfl, ⟨by decide, by decide +kernel⟩, _, _, rfl, rfl, (show (0 : Int) < (10 ^ (60 : Int).toNat) ^ (20 : Int).toNat by decide +kernel), .ref p, rfl, _, rfl, p, _, _, i, rfl, rfl, hP, hix, ?_⟩⟩
      refine ⟨_, ks.set i (ks[i] % ((10 ^ (60 : Int).toNat) ^ (20 : Int).toNat)), rfl, by rw [List.length_set]; exact hk, hE.mut hp, ?_⟩
      rw [upd_same, List.map_set]
    · exact ⟨_, ks, rfl, hk, hE, hP⟩
  · obtain ⟨y2, ks, rfl, hk, hE, hP⟩ := hW
    -- if cells == []
    refine ⟨.ref p, rfl, by decide, fun r hr0 => ?_⟩
    have hP1 : upd H' r (.lst []) p = some (.lst (ks.map V.int)) := by
      rw [upd_ne (ne_of_none hP hr0)]
      exact hP
    have hE1 : Evl.Ex H (upd H' r (.lst [])) := hE.trans (Evl.Ex.new hr0)
    have hlen : ks.length ≤ 63 := by omega
    generalize hH1 : upd H' r (.lst []) = H1 at hP1 hE1
    have hR1 : H1 r = some (.lst []) := by
      rw [← hH1]
      exact upd_same
    have dpI : ∀ l : List Int, DpAll K H1 (l.map V.int) (l.map PyData.int) := fun l => by
      induction l with
      | nil => exact .nil
      | cons x l ih => exact .cons (.int x) ih
    refine ⟨_, _, .lst (.inl (.inl hP1)) (dpI ks), .lst (.inl (.inl hR1)) .nil, ?_, by decide, _, rfl, ite2 (fun b => ?_) (fun b => ?_)⟩
    · exact PySem.W.ke_shaped_ints ks
    · -- cells = [0]
      refine ⟨by decide, fun p2 hp2 => ?_⟩
      refine ⟨_, rfl, (show 2 ≤ sizeLine by decide), fun s hs => ?_⟩
      have n1 : p2 ≠ s := ne_of_none upd_same hs
      refine q s p2 _ ((hE1.trans (Evl.Ex.new hp2)).trans (Evl.Ex.new hs)) (Evl.fresh_back (hE1.trans (Evl.Ex.new hp2)) hs) (Evl.fresh_back hE1 hp2) ⟨n1, [0], 0, upd_same, ?_, by decide, by decide, Nat.le_refl _⟩
      rw [upd_ne n1, upd_same]
      rfl
    · refine ⟨_, rfl, (show 2 ≤ sizeLine by decide), fun s hs => ?_⟩
      have n1 : p ≠ s := ne_of_none hP1 hs
      have hks : 1 ≤ ks.length := by
        cases ks with
        | nil => exact absurd rfl b
        | cons x l => exact Nat.succ_le_succ (Nat.zero_le _)
      refine q s p _ (hE1.trans (Evl.Ex.new hs)) (Evl.fresh_back hE1 hs) hp ⟨n1, ks, 0, upd_same, ?_, hks, hlen, Nat.le_refl _⟩
      rw [upd_ne n1]
      exact hP1
theorem ok__law_pick (T : Top K mg) : FnOk P w K mg base CX0 2 T._law_pick.f T._law_pick.fd ["source", "values"] (spPick K) := by
  refine T._law_pick.F.ok sc__law_pick (fun vs H Q E h => ?_) (fun cdv A outer s H vs Q E hr h => ?_)
  · obtain ⟨_, _, _, _, _, rfl, _⟩ := h
    rfl
  obtain ⟨s, c, p, n, xs, rfl, S, n60, hX, n1, n2, x1, x2, q⟩ := h
  refine ⟨_, (pss_one (ps_ret (pe_ix ix_list (pv 1) (pe_call (ok__law_draw T) (hr.mono (by omega)) (by rfl) T._law_draw.g T._law_draw.F.kp T._law_draw.b .nil pass0 (pa_cons (pv 0) (pa_cons (pe_callB (r := Evl.rLenS K) call_len_seq (by rfl) T.n_len PySem.boot_len (pa_cons (pv 1) pa_nil)) pa_nil))) (fun _ _ => rfl)))), ?_⟩
  refine ⟨_, rfl, _, rfl, _, rfl, p, _, rfl, .inl hX, s, c, n, _, rfl, S, n60, by omega, by omega, fun d H' d0 d1 e S' => ?_⟩
  obtain ⟨j, rfl⟩ : ∃ j : Nat, d = (j : Int) := ⟨_, (Int.toNat_of_nonneg d0).symm⟩
  have hj : j < xs.length := by omega
  refine ⟨p, xs, _, xs[j], rfl, rfl, sqm e (by simp [n1, n2]) hX, atI_nat (List.getElem?_eq_getElem hj), q _ H' (List.getElem_mem hj) e S'⟩
/-- _law_great(source, digits) -/
def spGreat : Sp := fun vs H Q _ => ∃ (s c : Addr) (n k : Nat), vs = [.ref s, .int (k : Int)] ∧ Src H s c n ∧ n + k < 2 ^ 60 ∧ k ≤ 1000 ∧
  ∀ (g : Int) H', 0 ≤ g → ExM [s, c] H H' → Src H' s c (n + k) → Q (.int g) H'
theorem ok__law_great (T : Top K mg) : FnOk P w K mg base CX0 2 T._law_great.f T._law_great.fd ["source", "digits"] spGreat := by
  refine T._law_great.F.ok sc__law_great (fun vs H Q E h => ?_) (fun cdv A outer s H vs Q E hr h => ?_)
  · obtain ⟨_, _, _, _, rfl, _⟩ := h
    rfl
  obtain ⟨s, c, n, k, rfl, S, n60, k1000, q⟩ := h
  refine ⟨_, (pss_cons (ps_set (i := 2) sc__law_great.nd rfl (Or.inl rfl) pe_int)
      (pss_cons (ps_for PassesOwn.never rfl (pi_range1 (by rfl) T.n_range (pa_cons (pv 1) pa_nil)) (pg_name (i := 3) sc__law_great.nd rfl (Or.inl rfl)) (pss_one (ps_set (i := 2) sc__law_great.nd rfl (Or.inl rfl) (pe_op op_add (pe_op op_mul (pv 2) pe_int) (pe_call (ok__law_draw T) (hr.mono (by omega)) (by rfl) T._law_draw.g T._law_draw.F.kp T._law_draw.b .nil pass0 (pa_cons (pv 0) (pa_cons pe_int pa_nil)))))))
      (pss_one (ps_ret (pv 2))))), ?_⟩
  refine ⟨_, rfl, _, rfl, by omega, by omega, for_range (lo := 0) (n := ((k : Int)).toNat) (fun i σ H' => ∃ (g : Int) (x : Option V), σ = [some (.ref s), some (.int (k : Int)), some (.int g), x] ∧ 0 ≤ g ∧ ExM [s, c] H H' ∧ Src H' s c (n + i)) ⟨0, none, rfl, by decide, ExM.refl _ _, S⟩ (fun i σ H' hi hP => ?_) (fun σ H' hP => ?_)⟩
  · obtain ⟨g, x, rfl, g0, eM, S'⟩ := hP
    refine ⟨_, rfl, _, _, rfl, rfl, .inr ⟨by decide, by decide⟩, _, rfl, s, c, n + i, 10, rfl, S', by omega, by decide, by decide, fun d H2 d0 d1 e2 S2 => ⟨_, _, rfl, rfl, ?_⟩⟩
    exact ⟨g * 10 + d, _, rfl, by omega, eM.trans e2, S2⟩
  · obtain ⟨g, x, rfl, g0, eM, S'⟩ := hP
    rw [Int.toNat_natCast] at S'
    exact ⟨_, rfl, q g H' g0 eM S'⟩
/-- _law_add(source, most) -/
def spAdd : Sp := fun vs H Q _ => ∃ (s c : Addr) (n : Nat) (mo : Int), vs = [.ref s, .int mo] ∧ Src H s c n ∧ n + 31 < 2 ^ 60 ∧ 1 ≤ mo ∧
  ∀ (a : Int) H', -mo ≤ a → a ≤ mo → ExM [s, c] H H' → Src H' s c (n + 31) → Q (.int a) H'
theorem ok__law_add (T : Top K mg) : FnOk P w K mg base CX0 3 T._law_add.f T._law_add.fd ["source", "most"] spAdd := by
  refine T._law_add.F.ok sc__law_add (fun vs H Q E h => ?_) (fun cdv A outer s H vs Q E hr h => ?_)
  · obtain ⟨_, _, _, _, rfl, _⟩ := h
    rfl
  obtain ⟨s, c, n, mo, rfl, S, n60, m1, q⟩ := h
  refine ⟨_, (pss_cons (ps_if (pt_cmpR op_lt (pv 1) (pe_op op_powW pe_int pe_int) (nomark _)) (pss_one (ps_ret (pe_op op_sub (pe_call (ok__law_draw T) (hr.mono (by omega)) (by rfl) T._law_draw.g T._law_draw.F.kp T._law_draw.b .nil pass0 (pa_cons (pv 0) (pa_cons (pe_op op_add (pe_op op_mul pe_int (pv 1)) pe_int) pa_nil))) (pv 1)))) pss_nil)
      (pss_one (ps_ret (pe_op op_sub (pe_op op_mod (pe_call (ok__law_great T) (hr.mono (by omega)) (by rfl) T._law_great.g T._law_great.F.kp T._law_great.b .nil pass0 (pa_cons (pv 0) (pa_cons pe_int pa_nil))) (pe_op op_add (pe_op op_mul pe_int (pv 1)) pe_int)) (pv 1))))), ?_⟩
  refine ⟨_, rfl, 10, 6, rfl, rfl, ⟨by decide, by decide +kernel⟩, _, _, rfl, rfl, _, rfl, ite2 (fun b => ?_) (fun b => ?_)⟩
  · have b' : mo < 10 ^ 6 := of_decide_eq_true b
    refine ⟨_, rfl, _, rfl, _, _, rfl, rfl, .inl ⟨by decide, by decide⟩, _, _, rfl, rfl, s, c, n, _, rfl, S, by omega, by omega, by omega, fun d H' d0 d1 e S' => ⟨_, rfl, _, _, rfl, rfl, ?_⟩⟩
    exact q _ H' (by omega) (by omega) e (S'.mono (by omega))
  · refine ⟨_, rfl, s, c, n, 31, rfl, S, n60, by decide, fun g H' g0 e S' => ⟨_, rfl, _, _, rfl, rfl, .inl ⟨by decide, by decide⟩, _, _, rfl, rfl, _, _, rfl, rfl, (show 0 < 2 * mo + 1 by omega), _, rfl, _, _, rfl, rfl, ?_⟩⟩
    have h1 := Int.emod_nonneg g (show 2 * mo + 1 ≠ 0 by omega)
    have h2 := Int.emod_lt_of_pos g (show 0 < 2 * mo + 1 by omega)
    exact q _ H' (by omega) (by omega) e S'
/-- how many draws a term takes at most -/
def cost : Nat → Nat
  | 0 => 0
  | l + 1 => 40 + 3 * cost l
/-- _law_term(source, shops, most, levels), levels at most L -/
def spTerm (K : PySem.W.Frag) (L : Nat) : Sp := fun vs H Q _ => ∃ (s c : Addr) (n : Nat) (M : List Addr) (sh mo : Int) (l : Nat), vs = [.ref s, .int sh, .int mo, .int (l : Int)] ∧ Src H s c n ∧ s ∈ M ∧ c ∈ M ∧ Dom M H ∧
  1 ≤ l ∧ l ≤ L ∧ n + cost l < 2 ^ 60 ∧ 1 ≤ sh ∧ sh ≤ 6 ∧ 1 ≤ mo ∧ mo ≤ 10 ^ 30 ∧
  ∀ (v : V) (t : Trm) H', ExM [s, c] H H' → Src H' s c (n + cost l) → Dm K M H' v (enc t) → Gen sh mo l t → Q v H'
theorem ok__law_term (T : Top K mg) : ∀ L : Nat, FnOk P w K mg base CX0 (L + 4) T._law_term.f T._law_term.fd ["source", "shops", "most", "levels"] (spTerm K L)
  | 0 => by
    have no : ∀ vs H Q E, ¬ spTerm K 0 vs H Q E := fun vs H Q E h => by
      obtain ⟨_, _, _, _, _, _, _, _, _, _, _, _, h1, h2, _⟩ := h
      omega
    exact ⟨fun vs H Q E h => absurd h (no vs H Q E), fun A outer s H args us vs Q E _ _ _ _ h => absurd h (no vs H Q E)⟩
  | L + 1 => by
    have IH := ok__law_term T L
    refine T._law_term.F.ok sc__law_term (fun vs H Q E h => ?_) (fun cdv A outer s H vs Q E hr h => ?_)
    · obtain ⟨_, _, _, _, _, _, _, rfl, _⟩ := h
      rfl
    obtain ⟨s, c, n, M, sh, mo, l, rfl, S, sM, cM, hM, l1, lL, n60, s1, s6, m1, m30, q⟩ := h
    obtain ⟨l, rfl⟩ : ∃ k, l = k + 1 := ⟨l - 1, by omega⟩
    have ec : cost (l + 1) = 40 + 3 * cost l := rfl
    refine ⟨_, (pss_cons (ps_set (i := 4) sc__law_term.nd rfl (Or.inl rfl) (pe_call (ok__law_draw T) (hr.mono (by omega)) (by rfl) T._law_draw.g T._law_draw.F.kp T._law_draw.b .nil pass0 (pa_cons (pv 0) (pa_cons pe_int pa_nil))))
      (pss_cons (ps_if (PW.pt (pw_or (pt_cmpR op_lt (pv 3) pe_int (nomark _)) (pw_or1 (pt_cmpR op_lt (pv 4) pe_int (nomark _))))) (pss_cons (ps_if (pt_cmpR op_eq (pe_call (ok__law_draw T) (hr.mono (by omega)) (by rfl) T._law_draw.g T._law_draw.F.kp T._law_draw.b .nil pass0 (pa_cons (pv 0) (pa_cons pe_int pa_nil))) pe_int (nomark _)) (pss_one (ps_ret (pe_tup (pa_cons pe_str (pa_cons (pe_call (ok__law_add T) (hr.mono (by omega)) (by rfl) T._law_add.g T._law_add.F.kp T._law_add.b .nil pass0 (pa_cons (pv 0) (pa_cons (pv 2) pa_nil))) pa_nil))))) pss_nil)
      (pss_one (ps_ret (pe_tup (pa_cons pe_str (pa_cons (pe_call (ok__law_draw T) (hr.mono (by omega)) (by rfl) T._law_draw.g T._law_draw.F.kp T._law_draw.b .nil pass0 (pa_cons (pv 0) (pa_cons (pv 1) pa_nil))) (pa_cons (pe_call (ok__law_add T) (hr.mono (by omega)) (by rfl) T._law_add.g T._law_add.F.kp T._law_add.b .nil pass0 (pa_cons (pv 0) (pa_cons (pv 2) pa_nil))) pa_nil))))))) pss_nil)
      (pss_cons (ps_set (i := 5) sc__law_term.nd rfl (Or.inl rfl) (pe_callTy call_tuple_of (by rfl) T.n_tuple (by decide +kernel) (pa_cons (pe_lc (own := [("k", 6)]) (g := gName 6) (tt := tYes) rfl sc__law_term.nd (pi_range1 (by rfl) T.n_range (pa_cons (pe_op op_add pe_int (pe_call (ok__law_draw T) (hr.mono (by omega)) (by rfl) T._law_draw.g T._law_draw.F.kp T._law_draw.b .nil pass0 (pa_cons (pv 0) (pa_cons pe_int pa_nil)))) pa_nil)) (blkOk_by (N := N__law_term) (sc := defScope s__law_term) (by decide +kernel)) (fun _ _ _ _ _ => (pg_name (i := 6) sc__law_term.nd rfl (Or.inl rfl))) (fun _ _ _ _ _ => pts_nil) (fun _ _ _ _ _ => (pe_call (IH) (hr.mono (by omega)) (by rfl) T._law_term.g T._law_term.F.kp T._law_term.b .nil pass0 (pa_cons (pv 0) (pa_cons (pv 1) (pa_cons (pv 2) (pa_cons (pe_op op_sub (pv 3) pe_int) pa_nil))))))) pa_nil)))
      (pss_cons (ps_if (pt_cmpR op_lt (pv 4) pe_int (nomark _)) (pss_one (ps_ret (pe_tup (pa_cons pe_str (pa_cons (pv 5) pa_nil))))) pss_nil)
      (pss_cons (ps_if (pt_cmpR op_lt (pv 4) pe_int (nomark _)) (pss_one (ps_ret (pe_tup (pa_cons pe_str (pa_cons (pv 5) pa_nil))))) pss_nil)
      (pss_one (ps_ret (pe_tup (pa_cons pe_str (pa_cons (pe_op op_add pe_int (pe_call (ok__law_draw T) (hr.mono (by omega)) (by rfl) T._law_draw.g T._law_draw.F.kp T._law_draw.b .nil pass0 (pa_cons (pv 0) (pa_cons (pe_callB (r := Evl.rLenS K) call_len_seq (by rfl) T.n_len PySem.boot_len (pa_cons (pv 5) pa_nil)) pa_nil)))) (pa_cons (pv 5) pa_nil))))))))))), ?_⟩
    -- kind
    refine ⟨_, rfl, s, c, n, 9, rfl, S, by omega, by decide, by decide, fun kind H1 k0 k9 e1 S1 => ?_⟩
    have hM1 := hM.exM e1 S1
    -- if levels < 2 or kind < 2
    have leaf : ∀ H2, ExM [s, c] H H2 → Src H2 s c (n + 1) → ∀ D : Ends, D.rt = Q → (tSeq (tIfS (tTest (tOp rEq (tCall spDraw [] E0 (tCons (tVar 0) (tCons (tC (.int 4)) tNil))) (tC (.int 0)))) (tRet (tTup (tCons (tC (.str "plain")) (tCons (tCall spAdd [] E0 (tCons (tVar 0) (tCons (tVar 2) tNil))) tNil)))) tNext)
        (tRet (tTup (tCons (tC (.str "price")) (tCons (tCall spDraw [] E0 (tCons (tVar 0) (tCons (tVar 1) tNil))) (tCons (tCall spAdd [] E0 (tCons (tVar 0) (tCons (tVar 2) tNil))) tNil)))))) D
        [some (.ref s), some (.int sh), some (.int mo), some (.int ((l + 1 : Nat) : Int)), some (.int kind), none, none] H2 := fun H2 e2 S2 D hD => by
      refine ⟨_, rfl, s, c, n + 1, 4, rfl, S2, by omega, by decide, by decide, fun d H3 d0 d1 e3 S3 => ⟨rfl, _, rfl, ite2 (fun _ => ?_) (fun _ => ?_)⟩⟩
      · refine ⟨_, rfl, _, rfl, s, c, n + 1 + 1, mo, rfl, S3, by omega, m1, fun a H4 a1 a2 e4 S4 => ⟨(show 2 ≤ sizeLine by decide), fun p hp => ?_⟩⟩
        have e := (e2.trans e3).trans e4
        have hM4 := hM.exM e S4
        rw [hD]
        refine q (.ref p) (.plain a) _ (e.trans (ExM.new hp)) ((S4.new hp).mono (by omega)) ?_ (Gen.plain a1 a2 m30)
        rw [enc_eq]
        exact .tup (Evl.st_of (mi_of (hM4.nin hp) upd_same)) (.cons (.str _) (.cons (.int _) .nil))
      · refine ⟨_, rfl, _, rfl, s, c, n + 1 + 1, sh, rfl, S3, by omega, by omega, by omega, fun d2 H4 d20 d21 e4 S4 => ?_⟩
        obtain ⟨j, rfl⟩ : ∃ j : Nat, d2 = (j : Int) := ⟨_, (Int.toNat_of_nonneg d20).symm⟩
        refine ⟨_, rfl, _, rfl, s, c, n + 1 + 1 + 1, mo, rfl, S4, by omega, m1, fun a H5 a1 a2 e5 S5 => ⟨(show 3 ≤ sizeLine by decide), fun p hp => ?_⟩⟩
        have e := ((e2.trans e3).trans e4).trans e5
        have hM5 := hM.exM e S5
        rw [hD]
        refine q (.ref p) (.price j a) _ (e.trans (ExM.new hp)) ((S5.new hp).mono (by omega)) ?_ (Gen.price d21 s6 a1 a2 m30)
        rw [enc_eq]
        exact .tup (Evl.st_of (mi_of (hM5.nin hp) upd_same)) (.cons (.str _) (.cons (.int _) (.cons (.int _) .nil)))
    refine Evl.q_when (Evl.et_or (Evl.et_test (Evl.ev_op (Evl.ev_var rfl) Evl.ev_c Evl.rv_I0)) (fun _ => Evl.et_test (Evl.ev_op (Evl.ev_var rfl) Evl.ev_c Evl.rv_I0))) (fun hb H2 e2 => leaf H2 (e1.trans (ExM.of e2)) (S1.ex1 e2) _ rfl) (fun hb H2 e2 => ?_)
    simp only [Bool.or_eq_false_iff, decide_eq_false_iff_not] at hb
    obtain ⟨b1, b2⟩ := hb
    have hl : 1 ≤ l := by omega
    have S2 := S1.ex1 e2
    have e12 : ExM [s, c] H H2 := e1.trans (ExM.of e2)
    -- parts
    refine ⟨_, rfl, s, c, n + 1, 3, rfl, S2, by omega, by decide, by decide, fun d H3 d0 d3 e3 S3 => ⟨_, _, rfl, rfl, _, rfl, by omega, by omega, fun D hD => ?_⟩⟩
    have nD := S3.nes' hD
    have hM3 := hM.exM (e12.trans e3) S3
    refine lc_range (lo := 0) (n := (1 + d).toNat) (fun i H' => ∃ (vs : List V) (ts : List Trm), H' D = some (.lst vs) ∧ ts.length = i ∧ vs.length = i ∧ Dms K (D :: M) H' vs (ts.map enc) ∧ (∀ t ∈ ts, Gen sh mo l t) ∧ ExM [s, c] H3 H' ∧ Src H' s c (n + 2 + i * cost l))
      ⟨[], [], upd_same, rfl, rfl, .nil, (by simp), ExM.new hD, (S3.new hD).mono (by omega)⟩ (fun i H' hi hP => ⟨rfl, ?_⟩) (fun H' hP => ?_)
    · obtain ⟨vs, ts, hp, lt, lv, dv, gt, eM, S'⟩ := hP
      have hi3 : i * cost l ≤ 2 * cost l := Nat.mul_le_mul_right _ (by omega)
      have hdom : Dom (D :: M) H' := (hM3.exM eM S').cons (by rw [hp]; exact fun z => nomatch z)
      refine ⟨_, rfl, _, rfl, _, rfl, _, rfl, _, _, rfl, rfl, s, c, _, D :: M, sh, mo, l, ?_, S', List.mem_cons_of_mem _ sM, List.mem_cons_of_mem _ cM, hdom, hl, by omega, by omega, s1, s6, m1, m30, fun v t H5 e5 S5 d5 g5 => ?_⟩
      · show [V.ref s, V.int sh, V.int mo, V.int (((l + 1 : Nat) : Int) - 1)] = [V.ref s, V.int sh, V.int mo, V.int (l : Int)]
        rw [show (((l + 1 : Nat) : Int) - 1) = (l : Int) by omega]
      · have hp5 : H5 D = some (.lst vs) := e5 D _ (by simp [nD.1, nD.2]) hp
        have eU : ExM (D :: M) H5 (upd H5 D (.lst (vs ++ [v]))) := ExM.mut (by simp)
        have sub : ∀ m, m ∈ [s, c] → m ∈ D :: M := fun m hm => by
          simp only [List.mem_cons, List.not_mem_nil, or_false] at hm
          rcases hm with rfl | rfl
          · exact List.mem_cons_of_mem _ sM
          · exact List.mem_cons_of_mem _ cM
        refine ⟨vs, hp5, small1000 (by omega), vs ++ [v], ts ++ [t], upd_same, by simp [lt], by simp [lv], ?_, ?_, (eM.trans e5).mut0 hD, (S5.upd nD.1 nD.2).mono (by rw [Nat.succ_mul]; omega)⟩
        · rw [List.map_append]
          exact dpa_app (dms_exM eU (dms_exM (e5.sub sub) dv)) (.cons (dm_exM eU d5) .nil)
        · intro u hu
          rcases List.mem_append.mp hu with hu | hu
          · exact gt u hu
          · rw [List.mem_singleton] at hu
            rw [hu]
            exact g5
    · obtain ⟨vs, ts, hp, lt, lv, dv, gt, eM, S'⟩ := hP
      have t1 : 1 ≤ ts.length := by omega
      have t3 : ts.length ≤ 3 := by omega
      have hi3 : (1 + d).toNat * cost l ≤ 3 * cost l := Nat.mul_le_mul_right _ (by omega)
      refine ⟨D, vs, rfl, .inl ⟨Evl.sq_of hp, fun p hpn => ?_⟩⟩
      have hM4 : Dom M H' := hM3.exM eM S'
      have np : p ∉ M := hM4.nin hpn
      have dp : Dm K M (upd H' p (.tup vs)) (.ref p) (.tuple (ts.map enc)) := .tup (Evl.st_of (mi_of np upd_same)) (dms_ex (Evl.Ex.new hpn) (dms_less dv))
      have hpt : upd H' p (.tup vs) p = some (.tup vs) := upd_same
      have eA : ExM [s, c] H (upd H' p (.tup vs)) := (e12.trans (e3.trans eM)).trans (ExM.new hpn)
      have SA := S'.new (o := .tup vs) hpn
      generalize upd H' p (.tup vs) = H6 at dp eA SA hpt
      have hM6 := hM.exM eA SA
      -- the word
      refine Evl.q_when (Evl.et_test (Evl.ev_op (Evl.ev_var rfl) Evl.ev_c Evl.rv_I0)) (fun hb H7 e7 => ?_) (fun hb H7 e7 => ?_)
      · refine s_retD (de_tup (hM6.ex e7) (da_cons (de_sc Evl.ev_c (d := .str "least") rfl) (da_cons (de_v (dm_ex e7 dp) (by rfl)) da_nil)) (by simp)) fun v H8 e8 hv => ?_
        refine q v (.node .least ts) H8 (eA.trans (ExM.of (e7.trans e8))) ((SA.ex1 (e7.trans e8)).mono (by omega)) ?_ (Gen.node t1 t3 True.intro gt)
        rw [enc_eq]
        exact hv
      · refine Evl.q_when (Evl.et_test (Evl.ev_op (Evl.ev_var rfl) Evl.ev_c Evl.rv_I0)) (fun hb H8 e8 => ?_) (fun hb H8 e8 => ?_)
        · have e78 := e7.trans e8
          refine s_retD (de_tup (hM6.ex e78) (da_cons (de_sc Evl.ev_c (d := .str "most") rfl) (da_cons (de_v (dm_ex e78 dp) (by rfl)) da_nil)) (by simp)) fun v H9 e9 hv => ?_
          refine q v (.node .most ts) H9 (eA.trans (ExM.of (e78.trans e9))) ((SA.ex1 (e78.trans e9)).mono (by omega)) ?_ (Gen.node t1 t3 True.intro gt)
          rw [enc_eq]
          exact hv
        · have e78 := e7.trans e8
          have S8 := SA.ex1 e78
          refine ⟨_, rfl, _, rfl, p, vs, rfl, .inr (Evl.st_of (e78 _ _ hpt)), s, c, _, (vs.length : Int), rfl, S8, by omega, by omega, by omega, fun k H9 k0 k1 e9 S9 => ⟨_, _, rfl, rfl, _, rfl, (show 3 ≤ sizeLine by decide), fun p2 hp2 => ?_⟩⟩
          obtain ⟨j, rfl⟩ : ∃ j : Nat, k = (j : Int) := ⟨_, (Int.toNat_of_nonneg k0).symm⟩
          have eB := (eA.trans (ExM.of e78)).trans e9
          have hM9 := hM.exM eB S9
          have sub : ∀ m, m ∈ [s, c] → m ∈ M := fun m hm => by
            simp only [List.mem_cons, List.not_mem_nil, or_false] at hm
            rcases hm with rfl | rfl
            · exact sM
            · exact cM
          refine q (.ref p2) (.node (.rank (j + 1)) ts) _ (eB.trans (ExM.new hp2)) ((S9.new hp2).mono (by omega)) ?_ (Gen.node t1 t3 ⟨by omega, by omega⟩ gt)
          rw [enc_eq]
          refine .tup (Evl.st_of (mi_of (hM9.nin hp2) upd_same)) (.cons (.str _) (.cons ?_ (.cons (dm_ex (Evl.Ex.new hp2) (dm_exM (e9.sub sub) (dm_ex e78 dp))) .nil)))
          show Dp K _ (.int (1 + (j : Int))) (.int ((j + 1 : Nat) : Int))
          rw [show (1 + (j : Int)) = ((j + 1 : Nat) : Int) by omega]
          exact .int _
end
end K04

set_option Elab.async false
set_option linter.all false
set_option maxRecDepth 100000
set_option maxHeartbeats 4000000
namespace K04
open PySem PySem.Spec PyProof.Rows L2 DK DD TM TX SX
section
variable {P : Program} {w : World} {K : PySem.W.Frag} {mg : Str → Option Value} {base : Heap}
theorem _root_.L2.FnOk.cx0 {k : Nat} {f : Addr} {fd : FuncData} {ps : List Str} {sp sp' : Sp} (F : FnOk P w K mg base (CX P w) k f fd ps sp) (h : ∀ vs H Q E, sp' vs H Q E → sp vs H Q (fun _ _ _ => False)) : FnOk P w K mg base CX0 k f fd ps sp' :=
  ⟨fun vs H Q E q => F.len _ _ _ _ (h _ _ _ _ q), fun A outer s H args us vs Q E hr he hb hv hs => codeAny_mono (F.run A outer s H args us vs Q _ hr he hb hv (h _ _ _ _ hs)) fun r s' z => by
    cases r with
    | error e =>
      obtain ⟨_, _, _, _, _, _, _, _, _, _, _, _, z⟩ := z
      exact z.elim
    | ok fl => cases fl <;> exact z⟩
/-- check_term of a term -/
def spChk0 (K : PySem.W.Frag) : Sp := fun vs H Q _ => ∃ M t v, vs = [v] ∧ Dom M H ∧ Dm K M H v (enc t) ∧ okT t ∧ ∀ H', Evl.Ex H H' → Q .non H'
theorem ok_check_term0 (T : Top K mg) : FnOk P w K mg base CX0 6 T.check_term.f T.check_term.fd ["term"] (spChk0 K) :=
  (ok_check_term T).cx0 fun vs H Q E ⟨M, t, v, hv, hM, hd, ok, q⟩ => ⟨M, t, v, hv, hM, hd, fun _ => q, fun n => absurd ok n⟩
/-- a def that gives a text -/
def spPrice : Sp := fun vs H Q _ => ∃ (s : Nat) (a : Int), vs = [.int (s : Int), .int a] ∧ s ≤ 5 ∧ num a = true ∧ ∀ H', Evl.Ex H H' → Q (.str (S ((97 + s) :: addc a))) H'
theorem log30 {i : Int} (h : i.natAbs ≤ 10 ^ 30) : i.natAbs.log2 < 1920 := by
  by_cases h0 : i.natAbs = 0
  · rw [h0]
    decide
  · exact (Nat.log2_lt h0).mpr (Nat.lt_of_le_of_lt h (by decide +kernel))
theorem shopAt {s : Nat} (h : s ≤ 5) : atI [97, 98, 99, 100, 101, 102] (s : Int) = some (97 + s) := by
  match s, h with
  | 0, _ => rfl
  | 1, _ => rfl
  | 2, _ => rfl
  | 3, _ => rfl
  | 4, _ => rfl
  | 5, _ => rfl
theorem ok__written_price (T : Top K mg) : FnOk P w K mg base CX0 1 T._written_price.f T._written_price.fd ["shop", "add"] spPrice := by
  refine T._written_price.F.ok sc__written_price (fun vs H Q E h => ?_) (fun cdv A outer s H vs Q E hr h => ?_)
  · obtain ⟨_, _, rfl, _⟩ := h
    rfl
  obtain ⟨n, a, rfl, h5, ha, q⟩ := h
  refine ⟨_, (pss_cons (ps_if (pt_cmpR op_eq (pv 1) pe_int (nomark _)) (pss_one (ps_ret (pe_ix ix_str (pe_globS rfl T.g_SHOPS) (pv 0) (fun _ _ => rfl)))) pss_nil)
      (pss_cons (ps_set (i := 2) sc__written_price.nd rfl (Or.inl rfl) (pe_ifExp (pt_cmpR op_lt (pv 1) pe_int (nomark _)) pe_str pe_str))
      (pss_one (ps_ret (pe_joined (PJ.cons (pe_fmt (pe_ix ix_str (pe_globS rfl T.g_SHOPS) (pv 0) (fun _ _ => rfl))) (PJ.cons pe_str (PJ.cons (pe_fmt (pv 2)) (PJ.cons pe_str (PJ.cons (pe_fmt (pe_callB call_abs (by rfl) T.n_abs (by decide +kernel) (pa_cons (pv 1) pa_nil))) PJ.nil)))))))))), ?_⟩
  have hS : (Str.ofString "abcdef") = S [97, 98, 99, 100, 101, 102] := by decide +kernel
  have hna := num_abs ha
  refine Evl.q_when (Evl.et_test (Evl.ev_op (Evl.ev_var rfl) Evl.ev_c (Evl.rv_eq rfl))) (fun hb H1 e1 => ?_) (fun hb H1 e1 => ?_)
  · have h0 : a = 0 := V.int.inj (of_decide_eq_true hb)
    refine Evl.s_ret (ev_ixS (z := [97, 98, 99, 100, 101, 102]) (by rw [← hS]; exact Evl.ev_c) (Evl.ev_var rfl) (by decide) (shopAt h5)) fun H2 e2 => ?_
    have := q H2 (e1.trans e2)
    rw [h0] at this
    exact this
  · have h0 : ¬ a = 0 := fun z => of_decide_eq_false hb (congrArg V.int z)
    refine Evl.q_asg (v := .str (S [if a < 0 then 45 else 43])) (Evl.ev_if (Evl.et_test (Evl.ev_op (Evl.ev_var rfl) Evl.ev_c Evl.rv_I0)) (fun hb => ?_) (fun hb => ?_)) fun H2 e2 => ?_
    · rw [if_pos (of_decide_eq_true hb)]
      exact Evl.ev_is Evl.ev_c (by decide +kernel)
    · rw [if_neg (of_decide_eq_false hb)]
      exact Evl.ev_is Evl.ev_c (by decide +kernel)
    have hab : (if a < 0 then -a else a) = ((a.natAbs : Nat) : Int) := by split <;> omega
    have hl := dg_len hna
    refine Evl.s_ret (ev_joined (ys := [[97 + n], [32], [if a < 0 then 45 else 43], [32], dg a.natAbs])
      (.cons (ev_fmtS (ev_ixS (z := [97, 98, 99, 100, 101, 102]) (by rw [← hS]; exact Evl.ev_c) (Evl.ev_var rfl) (by decide) (shopAt h5)) (by rw [S_len]; simp))
      (.cons (Evl.ev_is Evl.ev_c (by decide +kernel))
      (.cons (ev_fmtS (Evl.ev_var rfl) (by rw [S_len]; simp))
      (.cons (Evl.ev_is Evl.ev_c (by decide +kernel))
      (.cons (Evl.ev_is (ev_fmtI (i := ((a.natAbs : Nat) : Int)) (Evl.ev_is (Evl.ev_cb (Evl.ea_cons (Evl.ev_var rfl) Evl.ea_nil) (fun H1 _ Q q => ⟨a, rfl, q H1 (Evl.Ex.refl _)⟩)) (congrArg V.int hab)) (log30 (by simpa using hna))) (congrArg V.str (str_nat a.natAbs)))
      .nil))))) (by simp; omega)) fun H3 e3 => ?_
    have := q H3 ((e1.trans e2).trans e3)
    unfold addc at this
    rw [if_neg h0] at this
    simpa using this
/-- _written(term), of at most L levels -/
def spWr (K : PySem.W.Frag) (L : Nat) : Sp := fun vs H Q _ => ∃ M t v, vs = [v] ∧ Dom M H ∧ Dm K M H v (enc t) ∧ fr t = true ∧ cnt t ≤ 40 ∧ dep t ≤ L ∧ ∀ H', Evl.Ex H H' → Q (.str (S (wrc t))) H'
/-- a new list of texts, by a comprehension over a tuple of data -/
theorem el_texts {M : List Addr} {σ : L2.St} {H : Hp} {tl te : TE} {j : Nat} {ws : List Nat} {l : List Trm} {f : Trm → List Nat} (hM : Dom M H) (h : DE K M tl σ H (.tuple (l.map enc))) (hl : l.length ≤ 1000) (hw : ∀ x, wipe ((wipe σ ws).set j (some x)) ws = wipe σ ws)
    (he : ∀ t ∈ l, ∀ x H1 D, H D = none → Evl.Ex H H1 → Dom (D :: M) H1 → Dm K (D :: M) H1 x (enc t) → Evl.Ev te ((wipe σ ws).set j (some x)) H1 (.str (S (f t)))) : Evl.EvL (tLc (iTup K tl) (gName j) tYes te ws) σ H ((l.map f).map fun y => V.str (S y)) := fun H1 e Q q =>
  dl_lcT (f := fun t => .str (S (f t))) hM h hl hw (fun t ht x H2 D n e2 hD hx => de_sc (he t ht x H2 D n e2 hD hx) rfl) H1 e Q fun p vs H2 n e2 hp d => by
    rw [dpa_strs (g := fun t => S (f t)) (dms_less d)] at hp
    exact q p H2 n e2 (by rw [hp, List.map_map]; rfl)
theorem ok__written (T : Top K mg) : ∀ L : Nat, FnOk P w K mg base CX0 (L + 1) T._written.f T._written.fd ["term"] (spWr K L)
  | 0 => by
    have no : ∀ vs H Q E, ¬ spWr K 0 vs H Q E := fun vs H Q E h => by
      obtain ⟨_, t, _, _, _, _, _, _, h, _⟩ := h
      have := dep_pos t
      omega
    exact ⟨fun vs H Q E h => absurd h (no vs H Q E), fun A outer s H args us vs Q E _ _ _ _ h => absurd h (no vs H Q E)⟩
  | L + 1 => by
    have IH := ok__written T L
    refine T._written.F.ok sc__written (fun vs H Q E h => ?_) (fun cdv A outer s H vs Q E hr h => ?_)
    · obtain ⟨_, _, _, rfl, _⟩ := h
      rfl
    obtain ⟨M, t, v, rfl, hM, hd, hf, hc, hdp, q⟩ := h
    refine ⟨_, (pss_cons (ps_set (i := 1) sc__written.nd rfl (Or.inl rfl) (pe_ix ix_tup (pv 0) pe_int (fun _ _ => rfl)))
      (pss_cons (ps_if (pt_cmpR op_eq (pv 1) pe_str (nomark _)) (pss_one (ps_ret (pe_call (ok__written_price T) (hr.mono (by omega)) (by rfl) T._written_price.g T._written_price.F.kp T._written_price.b .nil pass0 (pa_cons (pe_ix ix_tup (pv 0) pe_int (fun _ _ => rfl)) (pa_cons (pe_ix ix_tup (pv 0) pe_int (fun _ _ => rfl)) pa_nil))))) pss_nil)
      (pss_cons (ps_if (pt_cmpR op_eq (pv 1) pe_str (nomark _)) (pss_one (ps_ret (pe_callTy call_str_int (by rfl) T.n_str (by decide +kernel) (pa_cons (pe_ix ix_tup (pv 0) pe_int (fun _ _ => rfl)) pa_nil)))) pss_nil)
      (pss_cons (ps_set (i := 2) sc__written.nd rfl (Or.inl rfl) (pe_ifExp (pt_cmpR op_eq (pv 1) pe_str (nomark _)) (pe_joined (PJ.cons pe_str (PJ.cons (pe_fmt (pe_ix ix_tup (pv 0) pe_int (fun _ _ => rfl))) PJ.nil))) (pv 1)))
      (pss_cons (ps_set (i := 3) sc__written.nd rfl (Or.inl rfl) (pe_join pe_str (pe_lc (own := [("part", 4)]) (g := gName 4) (tt := tYes) rfl sc__written.nd (pi_tup (pe_ix ix_tup (pv 0) (pe_un un_neg pe_int) (fun _ _ => rfl))) (blkOk_by (N := N__written) (sc := defScope s__written) (by decide +kernel)) (fun _ _ _ _ _ => (pg_name (i := 4) sc__written.nd rfl (Or.inl rfl))) (fun _ _ _ _ _ => pts_nil) (fun _ _ _ _ _ => (pe_call (IH) (hr.mono (by omega)) (by rfl) T._written.g T._written.F.kp T._written.b .nil pass0 (pa_cons (pv 4) pa_nil))))))
      (pss_one (ps_ret (pe_joined (PJ.cons (pe_fmt (pv 2)) (PJ.cons pe_str (PJ.cons (pe_fmt (pv 3)) (PJ.cons pe_str PJ.nil)))))))))))), ?_⟩
    refine Evl.q_asg (ev_word (Evl.ev_var (by rfl)) hd) fun H1 e1 => ?_
    have hd1 : Dm K M H1 v (.tuple (encL t)) := by
      rw [← enc_eq]
      exact dm_ex e1 hd
    have wl := wrc_len t hf
    match t, hd1, q, hf, hc, hdp, wl with
    | .price n a, hd1, q, hf, hc, hdp, wl =>
      simp only [TM.fr, form, Bool.and_eq_true, decide_eq_true_eq] at hf
      refine Evl.q_when (b := true) (Evl.et_is (Evl.et_test (Evl.ev_op (Evl.ev_var rfl) Evl.ev_c (Evl.rv_eq rfl))) rfl) (fun _ H3 e3 => ?_) (fun hb => nomatch hb)
      have hd3 := dm_ex e3 hd1
      refine Evl.s_ret (Evl.ev_call (Evl.ea_cons (ev_sc (de_ixT (de_v hd3 (by rfl)) Evl.ev_c (d := .int n) rfl) rfl) (Evl.ea_cons (ev_sc (de_ixT (de_v hd3 (by rfl)) Evl.ev_c (d := .int a) rfl) rfl) Evl.ea_nil))
        (fun H4 e4 Q4 q4 _ => ⟨n, a, rfl, by omega, hf.2, q4⟩)) fun H4 e4 => ?_
      have := q H4 ((e1.trans e3).trans e4)
      simp only [wrc] at this
      exact this
    | .plain n, hd1, q, hf, hc, hdp, wl =>
      simp only [TM.fr, form] at hf
      refine Evl.q_when (b := false) (Evl.et_is (Evl.et_test (Evl.ev_op (Evl.ev_var rfl) Evl.ev_c (Evl.rv_eq rfl))) rfl) (fun hb => nomatch hb) (fun _ H3 e3 => ?_)
      refine Evl.q_when (b := true) (Evl.et_is (Evl.et_test (Evl.ev_op (Evl.ev_var rfl) Evl.ev_c (Evl.rv_eq rfl))) rfl) (fun _ H4 e4 => ?_) (fun hb => nomatch hb)
      have hd4 := dm_ex (e3.trans e4) hd1
      refine Evl.s_ret (Evl.ev_is (v := .str (toString n)) (Evl.ev_cb (Evl.ea_cons (ev_sc (de_ixT (de_v hd4 (by rfl)) Evl.ev_c (d := .int n) rfl) rfl) Evl.ea_nil) (fun H5 _ Q5 q5 => ⟨n, rfl, log30 (num_abs hf), q5 H5 (Evl.Ex.refl _)⟩)) (congrArg V.str (str_int n))) fun H5 e5 => ?_
      have := q H5 ((e1.trans (e3.trans e4)).trans e5)
      simp only [wrc] at this
      exact this
    | .node hd' ps, hd1, q, hf, hc, hdp, wl =>
      have hff := (fr_iff (.node hd' ps)).mp hf
      have kl := form_kids hff.1
      simp only [kids] at kl
      have hcn : cnts ps ≤ 40 := by simp only [TM.cnt] at hc; omega
      have hwn : word (.node hd' ps) ≠ "price" ∧ word (.node hd' ps) ≠ "plain" := by cases hd' <;> (simp only [word]; decide +kernel)
      refine Evl.q_when (b := false) (Evl.et_is (Evl.et_test (Evl.ev_op (Evl.ev_var rfl) Evl.ev_c (Evl.rv_eq rfl))) (decide_eq_false fun z => hwn.1 (V.str.inj z))) (fun hb => nomatch hb) (fun _ H3 e3 => ?_)
      refine Evl.q_when (b := false) (Evl.et_is (Evl.et_test (Evl.ev_op (Evl.ev_var rfl) Evl.ev_c (Evl.rv_eq rfl))) (decide_eq_false fun z => hwn.2 (V.str.inj z))) (fun hb => nomatch hb) (fun _ H4 e4 => ?_)
      have e34 := e3.trans e4
      have hd4 := dm_ex e34 hd1
      -- name
      have hname : Evl.Ev (tIf (tTest (tOp rEq (tVar 1) (tC (.str "rank")))) (fun σ H Q => tJs [tC (.str "rank "), tFmt (tOp (rIxT K) (tVar 0) (tC (.int 1)))] Str.empty σ H fun out H1 => Q (.str out) H1) (tVar 1))
          [some v, some (.str (word (.node hd' ps))), none, none, none] H4 (.str (S (hdc hd'))) := by
        refine Evl.ev_if (Evl.et_test (Evl.ev_op (Evl.ev_var rfl) Evl.ev_c (Evl.rv_eq rfl))) (fun hb => ?_) (fun hb => ?_)
        · cases hd' with
          | least => exact absurd (V.str.inj (of_decide_eq_true hb)) (by simp only [word]; decide +kernel)
          | most => exact absurd (V.str.inj (of_decide_eq_true hb)) (by simp only [word]; decide +kernel)
          | rank k =>
            have hk : k ≤ 6 := by
              have := hff.1
              simp only [form, Bool.and_eq_true, decide_eq_true_eq] at this
              omega
            have hdl := dg_len (n := k) (by omega)
            refine Evl.ev_is (ev_joined (ys := [[114, 97, 110, 107, 32], dg k]) (.cons (Evl.ev_is Evl.ev_c (by decide +kernel)) (.cons (Evl.ev_is (ev_fmtI (i := (k : Int)) (ev_sc (de_ixT (de_v hd4 (by rfl)) Evl.ev_c (d := .int k) rfl) rfl) (log30 (by simp; omega))) (congrArg V.str (str_nat k))) .nil)) (by simp; omega)) ?_
            simp [hdc]
        · cases hd' with
          | least => exact Evl.ev_is (Evl.ev_var rfl) (by simp only [word, hdc]; decide +kernel)
          | most => exact Evl.ev_is (Evl.ev_var rfl) (by simp only [word, hdc]; decide +kernel)
          | rank k => exact absurd rfl (of_decide_eq_false hb)
      refine Evl.q_asg hname fun H5 e5 => ?_
      -- parts
      have hd5 := dm_ex e5 hd4
      have hM5 := hM.ex ((e1.trans e34).trans e5)
      have hkids : atI (encL (.node hd' ps)) (-1) = some (.tuple (ps.map enc)) := encL_kids rfl
      have wls := wrcs_len ps (TM.frs_iff.mpr hff.2)
      rw [wrcs_map] at wls
      refine Evl.q_asg (ev_join (sep := [44, 32]) (cs := ps.map wrc) (Evl.ev_is Evl.ev_c (by decide +kernel)) (el_texts hM5 (de_ixT (de_v hd5 (by rfl)) (Evl.ev_un Evl.ev_c Evl.ru_neg) hkids) (by omega) (fun _ => rfl) (fun t ht x H6 D n6 e6 hM6 hx =>
        Evl.ev_call (Evl.ea_cons (Evl.ev_var rfl) Evl.ea_nil) (fun H7 e7 Q7 q7 _ => ⟨D :: M, t, x, rfl, hM6.ex e7, dm_ex e7 hx, hff.2 t ht, by have := cnts_mem ht; omega, by have := dep_kids (t := .node hd' ps) ht; omega, q7⟩)))
        (by rw [List.length_map]; show _ + ps.length * 2 ≤ _; omega)) fun H6 e6 => ?_
      have hwl : (wrc (.node hd' ps)).length ≤ 2400 := by omega
      simp only [wrc, List.length_append, List.length_cons, List.length_nil, wrcs_map] at hwl
      refine Evl.s_ret (ev_joined (ys := [hdc hd', [40], TL.joinL [44, 32] (ps.map wrc), [41]]) (.cons (ev_fmtS (Evl.ev_var rfl) (by rw [S_len]; omega)) (.cons (Evl.ev_is Evl.ev_c (by decide +kernel)) (.cons (ev_fmtS (Evl.ev_var rfl) (by rw [S_len]; omega)) (.cons (Evl.ev_is Evl.ev_c (by decide +kernel)) .nil))))
        (by simp; omega)) fun H7 e7 => ?_
      have := q H7 ((((e1.trans e34).trans e5).trans e6).trans e7)
      simp only [wrc, wrcs_map] at this
      simpa using this
/-- term_text(term) -/
def spText (K : PySem.W.Frag) : Sp := fun vs H Q _ => ∃ M t v, vs = [v] ∧ Dom M H ∧ Dm K M H v (enc t) ∧ okT t ∧ ∀ H', Evl.Ex H H' → Q (.str (S (wrc t))) H'
theorem ok_term_text (T : Top K mg) : FnOk P w K mg base CX0 8 T.term_text.f T.term_text.fd ["term"] (spText K) := by
  refine T.term_text.F.ok sc_term_text (fun vs H Q E h => ?_) (fun cdv A outer s H vs Q E hr h => ?_)
  · obtain ⟨_, _, _, rfl, _⟩ := h
    rfl
  obtain ⟨M, t, v, rfl, hM, hd, ok, q⟩ := h
  refine ⟨_, (pss_cons (ps_expr (pe_call (ok_check_term0 T) (hr.mono (by omega)) (by rfl) T.check_term.g T.check_term.F.kp T.check_term.b .nil pass0 (pa_cons (pv 0) pa_nil)))
      (pss_one (ps_ret (pe_call (ok__written T 6) (hr.mono (by omega)) (by rfl) T._written.g T._written.F.kp T._written.b .nil pass0 (pa_cons (pv 0) pa_nil))))), ?_⟩
  refine ⟨_, rfl, M, t, v, rfl, hM, hd, ok, fun H1 e1 => ?_⟩
  exact ⟨_, rfl, M, t, v, rfl, hM.ex e1, dm_ex e1 hd, ok.2.2, ok.1, ok.2.1, fun H2 e2 => q H2 (e1.trans e2)⟩
end
end K04

set_option Elab.async false
set_option linter.all false
set_option maxRecDepth 100000
set_option maxHeartbeats 4000000
/-! The reading of any text, as a function of codes and place. -/
namespace RT
open TM TX SX RD
inductive Rr (α : Type) where | ok (a : α) (n : Nat) | bad (n : Nat)
/-- the place behind blanks -/
def sk (cs : List Nat) (n : Nat) : Nat := n + skip (cs.drop n)
theorem sk_le {cs : List Nat} {n : Nat} (h : n ≤ cs.length) : sk cs n ≤ cs.length := by
  have := skip_le (cs.drop n)
  rw [List.length_drop] at this
  unfold sk
  omega
theorem le_sk (cs : List Nat) (n : Nat) : n ≤ sk cs n := by
  unfold sk
  omega
def gSign (al cs : List Nat) (n : Nat) : Rr Nat := match cs[sk cs n]? with
  | some c => if c ∈ al then .ok c (sk cs n + 1) else .bad (sk cs n)
  | none => .bad (sk cs n)
/-- the digits that are read of those that stand there -/
def cutG (ds : List Nat) : List Nat := if ds.head? = some 48 then [48] else ds.take 31
def gNum (cs : List Nat) (n : Nat) : Rr Nat :=
  let ds := (cs.drop (sk cs n)).take (runL digs (cs.drop (sk cs n)))
  if ds = [] then .bad (sk cs n) else .ok (PySem.NumText.digitsVal (cutG ds)) (sk cs n + (cutG ds).length)
theorem take1 (cs : List Nat) (n : Nat) : (cs.drop n).take 1 = match cs[n]? with | some c => [c] | none => [] := by
  cases h : cs[n]? with
  | none =>
    have : cs.length ≤ n := List.getElem?_eq_none_iff.mp h
    rw [List.drop_eq_nil_of_le this]
    rfl
  | some c =>
    obtain ⟨h1, h2⟩ := List.getElem?_eq_some_iff.mp h
    rw [List.drop_eq_getElem_cons h1, h2]
    rfl
end RT
namespace K04
open PySem PySem.Spec PyProof.Rows L2 DK DD TM TX SX RD RT
section
variable {P : Program} {w : World} {K : PySem.W.Frag} {mg : Str → Option Value} {base : Heap}
/-- InvalidText(at) -/
def spIT (C : Addr) : Sp := fun vs H Q _ => ∃ (a : Addr) (x : V), vs = [.ref a, x] ∧ H a = some (exo a C none) ∧ ∀ d H', H d = none → d ≠ a → (∀ b, b ≠ d → b ≠ a → H' b = H b) → H' d = some (exd d [("at", x)]) → H' a = some (exo a C (some d)) → Q .non H'
theorem ok_InvalidText (T : Top K mg) : FnOk P w K mg base CX0 1 T.o_InvalidText.fI T.o_InvalidText.fd ["self", "at"] (spIT T.o_InvalidText.C) := by
  refine T.o_InvalidText.F.ok sc_InvalidText_init (fun vs H Q E h => ?_) (fun cdv A outer s H vs Q E hr h => ?_)
  · obtain ⟨a, x, rfl, _⟩ := h
    rfl
  obtain ⟨a, x, rfl, ha, q⟩ := h
  refine ⟨_, (pss_one (ps_ost (pv 0) (pv 1))), ?_⟩
  refine ⟨_, rfl, _, rfl, a, _, rfl, T.o_InvalidText.T, T.nof1, .inl ⟨ha, fun d hd hda => ?_⟩⟩
  exact q d _ hd hda (fun b n1 n2 => by rw [upd_ne n2, upd_ne n1]) (by rw [upd_ne hda, upd_same]) upd_same
/-- the error at a place, with its fields at d -/
def badAt (C : Addr) (E : XK) (k : Nat) (M : List Addr) (H : Hp) : Prop := ∀ d H', H d = none → ExM M H H' → H' d = some (.xd [("at", .int (k : Int))]) → E (.ref C) (some d) H'
end
end K04

set_option Elab.async false
set_option linter.all false
set_option maxRecDepth 100000
set_option maxHeartbeats 4000000
namespace K04
open PySem PySem.Spec PyProof.Rows L2 DK DD TM TX SX RD RT
section
variable {P : Program} {w : World} {K : PySem.W.Frag} {mg : Str → Option Value} {base : Heap}
/-- self.peek() -/
def spPeek (C : Addr) : Sp := fun vs H Q _ => ∃ (r dx : Addr) (cs : List Nat) (n : Nat), vs = [.ref r] ∧ H r = some (rdr C dx cs n) ∧ n ≤ cs.length ∧ cs.length ≤ 90000 ∧
  ∀ H', ExM [r] H H' → H' r = some (rdr C dx cs (n + skip (cs.drop n))) → Q (.str (S ((cs.drop (n + skip (cs.drop n))).take 1))) H'
theorem ok_Reader_peek (T : Top K mg) : FnOk P w K mg base CX0 1 T.R_peek.f T.R_peek.fd ["self"] (spPeek T.R.C) := by
  refine T.R_peek.F.ok sc_Reader_peek (fun vs H Q E h => ?_) (fun cdv A outer s H vs Q E hr h => ?_)
  · obtain ⟨_, _, _, _, rfl, _⟩ := h
    rfl
  obtain ⟨r, dx, cs, n, rfl, ho, hn, h9, q⟩ := h
  refine ⟨_, (pss_cons (ps_while PassesOwn.never (pt_cmpR op_eq (pe_slice sl_str (pe_fld (pv 0) rfl) (po_some (pe_fld (pv 0) rfl)) (po_some (pe_op op_add (pe_fld (pv 0) rfl) pe_int))) pe_str (nomark _)) (pss_one (ps_fldaug (pv 0) pe_int in_add)))
      (pss_one (ps_ret (pe_slice sl_str (pe_fld (pv 0) rfl) (po_some (pe_fld (pv 0) rfl)) (po_some (pe_op op_add (pe_fld (pv 0) rfl) pe_int)))))), ?_⟩
  have hs := skip_le (cs.drop n)
  rw [List.length_drop] at hs
  have piece : ∀ (H1 : Hp) (k : Nat), k ≤ skip (cs.drop n) → H1 r = some (rdr T.R.C dx cs (n + k)) → Evl.Ev (tSl rSlS (tFld K (tVar 0) "text") (tPart (tFld K (tVar 0) "at")) (tPart (tOp (rI0 fun i j => .int (i + j)) (tFld K (tVar 0) "at") (tC (.int 1))))) [some (.ref r)] H1 (.str (S ((cs.drop (n + k)).take 1))) := fun H1 k hk h1 =>
    ev_slS (ev_fld (Evl.ev_var rfl) h1 T.R.cl T.R.nT (lk_text _ _)) (Evl.eo_some (ev_fld (Evl.ev_var rfl) h1 T.R.cl T.R.nA (lk_at _ _))) (Evl.eo_some (Evl.ev_op (ev_fld (Evl.ev_var rfl) h1 T.R.cl T.R.nA (lk_at _ _)) Evl.ev_c Evl.rv_I0)) (by omega) (cut1 (by omega))
  refine Evl.q_while (fun m σ' H' => ∃ k, σ' = [some (.ref r)] ∧ k ≤ skip (cs.drop n) ∧ H' r = some (rdr T.R.C dx cs (n + k)) ∧ ExM [r] H H' ∧ m = skip (cs.drop n) - k) (skip (cs.drop n)) ⟨0, rfl, by omega, ho, ExM.refl _ _, rfl⟩ (fun m σ' H' hW => ?_)
  obtain ⟨k, rfl, hk, h1, hB, rfl⟩ := hW
  refine ⟨_, Evl.et_test (Evl.ev_op (piece H' k hk h1) Evl.ev_c (Evl.rv_eq rfl)), fun hb H2 e2 => ?_, fun hb H2 e2 => ?_⟩
  · have hlt : k < skip (cs.drop n) := by
      have := of_decide_eq_true hb
      refine (skip_take (cs.drop n) k hk).mp ?_
      rw [List.drop_drop]
      exact S_inj ((V.str.inj this).trans (by decide +kernel))
    refine ⟨fun σ2 H3 => ∃ m', m' < skip (cs.drop n) - k ∧ _, fun σ2 H3 z => z, ?_⟩
    have h2 := e2 _ _ h1
    refine ⟨_, rfl, r, T.R.C, dx, _, _, rfl, h2, T.R.cl, T.R.nA, lk_at _ _, _, _, rfl, rfl, dx, _, h2, by simp [flds], ?_⟩
    rw [put_at cs (n + k) ((n + k : Nat) + 1) (n + (k + 1)) (by omega)]
    exact ⟨skip (cs.drop n) - (k + 1), by omega, k + 1, rfl, by omega, upd_same, (hB.trans (ExM.of e2)).trans (ExM.mut (by simp)), rfl⟩
  · have hge : k = skip (cs.drop n) := by
      have := of_decide_eq_false hb
      by_cases hlt : k < skip (cs.drop n)
      · refine absurd ?_ this
        have h2 := (skip_take (cs.drop n) k hk).mpr hlt
        rw [List.drop_drop] at h2
        rw [h2]
        exact congrArg V.str (by decide +kernel)
      · omega
    subst hge
    exact Evl.s_ret (piece H2 _ (Nat.le_refl _) (e2 _ _ h1)) fun H3 e3 => q H3 ((hB.trans (ExM.of e2)).trans (ExM.of e3)) (e3 _ _ (e2 _ _ h1))
/-- self.run(allowed) -/
def spRun (C : Addr) : Sp := fun vs H Q _ => ∃ (r dx : Addr) (cs al : List Nat) (n : Nat), vs = [.ref r, .str (S al)] ∧ H r = some (rdr C dx cs n) ∧ n ≤ cs.length ∧ cs.length ≤ 90000 ∧
  ∀ H', Evl.Ex H H' → Q (.str (S ((cs.drop n).take (runL al (cs.drop n))))) H'
theorem ok_Reader_run (T : Top K mg) : FnOk P w K mg base CX0 1 T.R_run.f T.R_run.fd ["self", "allowed"] (spRun T.R.C) := by
  refine T.R_run.F.ok sc_Reader_run (fun vs H Q E h => ?_) (fun cdv A outer s H vs Q E hr h => ?_)
  · obtain ⟨_, _, _, _, _, rfl, _⟩ := h
    rfl
  obtain ⟨r, dx, cs, al, n, rfl, ho, hn, h9, q⟩ := h
  refine ⟨_, (pss_cons (ps_set (i := 2) sc_Reader_run.nd rfl (Or.inl rfl) (pe_fld (pv 0) rfl))
      (pss_cons (ps_while PassesOwn.never (PW.pt (pw_and (pt_cmpR op_lt (pv 2) (pe_callB call_len_str (by rfl) T.n_len PySem.boot_len (pa_cons (pe_fld (pv 0) rfl) pa_nil)) (nomark _)) (pw_and1 (pt_cmpR op_in_sign (pe_ix ix_str (pe_fld (pv 0) rfl) (pv 2) (fun _ _ => rfl)) (pv 1) (by with_unfolding_all rfl))))) (pss_one (ps_aug (i := 2) sc_Reader_run.nd rfl (Or.inl rfl) pe_int ip_add)))
      (pss_one (ps_ret (pe_slice sl_str (pe_fld (pv 0) rfl) (po_some (pe_fld (pv 0) rfl)) (po_some (pv 2))))))), ?_⟩
  have hs := runL_le al (cs.drop n)
  rw [List.length_drop] at hs
  refine Evl.q_asg (ev_fld (Evl.ev_var rfl) ho T.R.cl T.R.nA (lk_at _ _)) fun H1 e1 => ?_
  refine Evl.q_while (fun m σ' H' => ∃ k, σ' = [some (.ref r), some (.str (S al)), some (.int ((n + k : Nat) : Int))] ∧ k ≤ runL al (cs.drop n) ∧ Evl.Ex H H' ∧ m = runL al (cs.drop n) - k) (runL al (cs.drop n)) ⟨0, rfl, by omega, e1, rfl⟩ (fun m σ' H' hW => ?_)
  obtain ⟨k, rfl, hk, hE, rfl⟩ := hW
  have h1 := hE _ _ ho
  have lenE : Evl.Ev (tCB (fun xs H Q => ∃ z, xs = [.str z] ∧ z.length ≤ sizeLine ∧ Q (.int z.length) H) (tCons (tFld K (tVar 0) "text") tNil)) [some (.ref r), some (.str (S al)), some (.int ((n + k : Nat) : Int))] H' (.int (cs.length : Int)) :=
    ev_lenS (ev_fld (Evl.ev_var rfl) h1 T.R.cl T.R.nT (lk_text _ _)) (by omega)
  by_cases hend : n + k < cs.length
  · obtain ⟨c, hc⟩ : ∃ c, cs[n + k]? = some c := ⟨_, List.getElem?_eq_getElem hend⟩
    have hin := runL_at al (cs.drop n) k c hk (by rw [List.getElem?_drop]; exact hc)
    refine ⟨_, Evl.et_and (Evl.et_test (Evl.ev_op (Evl.ev_var rfl) lenE Evl.rv_I0)) (fun _ => Evl.et_test (ev_inS (ev_ixS (ev_fld (Evl.ev_var rfl) h1 T.R.cl T.R.nT (lk_text _ _)) (Evl.ev_var rfl) (by omega) (atI_nat hc)) (Evl.ev_var rfl))), fun hb H2 e2 => ?_, fun hb H2 e2 => ?_⟩
    · simp only [Bool.and_eq_true, decide_eq_true_eq] at hb
      have hlt := hin.mp hb.2
      refine ⟨fun σ2 H3 => ∃ m', m' < runL al (cs.drop n) - k ∧ _, fun σ2 H3 z => z, ?_⟩
      refine Evl.s_aug rfl Evl.ev_c fun H3 e3 => ?_
      refine ⟨runL al (cs.drop n) - (k + 1), by omega, k + 1, ?_, by omega, (hE.trans e2).trans e3, rfl⟩
      show [some (V.ref r), some (V.str (S al)), some (V.int (((n + k : Nat) : Int) + 1))] = _
      rw [show (((n + k : Nat) : Int) + 1) = ((n + (k + 1) : Nat) : Int) by omega]
    · have hge : k = runL al (cs.drop n) := by
        by_cases hlt : k < runL al (cs.drop n)
        · have := hin.mpr hlt
          simp only [Bool.and_eq_false_iff, decide_eq_false_iff_not] at hb
          rcases hb with hb | hb
          · omega
          · exact absurd this hb
        · omega
      subst hge
      exact Evl.s_ret (ev_slS (ev_fld (Evl.ev_var rfl) (e2 _ _ h1) T.R.cl T.R.nT (lk_text _ _)) (Evl.eo_some (ev_fld (Evl.ev_var rfl) (e2 _ _ h1) T.R.cl T.R.nA (lk_at _ _))) (Evl.eo_some (Evl.ev_var rfl)) (by omega) (cutN (by omega))) fun H3 e3 => q H3 ((hE.trans e2).trans e3)
  · refine ⟨false, Evl.et_is (Evl.et_and (b := false) (Evl.et_test (Evl.ev_op (Evl.ev_var rfl) lenE Evl.rv_I0)) (fun hb => ?_)) (by simp), fun hb H2 e2 => (nomatch hb), fun hb H2 e2 => ?_⟩
    · have := of_decide_eq_true hb
      omega
    · have hge : k = runL al (cs.drop n) := by omega
      subst hge
      exact Evl.s_ret (ev_slS (ev_fld (Evl.ev_var rfl) (e2 _ _ h1) T.R.cl T.R.nT (lk_text _ _)) (Evl.eo_some (ev_fld (Evl.ev_var rfl) (e2 _ _ h1) T.R.cl T.R.nA (lk_at _ _))) (Evl.eo_some (Evl.ev_var rfl)) (by omega) (cutN (by omega))) fun H3 e3 => q H3 ((hE.trans e2).trans e3)
theorem hLET : (Str.ofString "abcdefghijklmnopqrstuvwxyz") = S letters := by decide +kernel
theorem hDIG : (Str.ofString "0123456789") = S digs := by decide +kernel
/-- self.word(): the letters that stand there -/
def spWord (C : Addr) : Sp := fun vs H Q _ => ∃ (r dx : Addr) (cs : List Nat) (n : Nat), vs = [.ref r] ∧ H r = some (rdr C dx cs n) ∧ n ≤ cs.length ∧ cs.length ≤ 90000 ∧
  ∀ H' w, w = ((cs.drop n).drop (skip (cs.drop n))).take (runL letters ((cs.drop n).drop (skip (cs.drop n)))) → ExM [r] H H' → H' r = some (rdr C dx cs (n + skip (cs.drop n) + w.length)) → n + skip (cs.drop n) + w.length ≤ cs.length → Q (.str (S w)) H'
theorem ok_Reader_word (T : Top K mg) : FnOk P w K mg base CX0 2 T.R_word.f T.R_word.fd ["self"] (spWord T.R.C) := by
  refine T.R_word.F.ok sc_Reader_word (fun vs H Q E h => ?_) (fun cdv A outer s H vs Q E hr h => ?_)
  · obtain ⟨_, _, _, _, rfl, _⟩ := h
    rfl
  obtain ⟨r, dx, cs, n, rfl, ho, hn, h9, q⟩ := h
  refine ⟨_, (pss_cons (ps_expr (pe_meth0 (pv 0) T.R.cl T.R_peek.m (ok_Reader_peek T) (hr.mono (by omega)) T.R_peek.b .nil pass0))
      (pss_cons (ps_set (i := 1) sc_Reader_word.nd rfl (Or.inl rfl) (pe_meth (pv 0) T.R.cl T.R_run.m (ok_Reader_run T) (hr.mono (by omega)) T.R_run.b .nil pass0 (pa_cons (pe_globS rfl T.g__LETTERS) pa_nil)))
      (pss_cons (ps_fldaug (pv 0) (pe_callB call_len_str (by rfl) T.n_len PySem.boot_len (pa_cons (pv 1) pa_nil)) in_add)
      (pss_one (ps_ret (pv 1)))))), ?_⟩
  refine ⟨_, rfl, r, dx, _, rfl, ho, lk_no cs n (by decide +kernel) (by decide +kernel), r, dx, cs, n, rfl, ho, hn, h9, fun H1 e1 h1 => ?_⟩
  have hs := skip_le (cs.drop n)
  rw [List.length_drop] at hs
  refine ⟨_, rfl, r, dx, _, rfl, h1, lk_no cs _ (by decide +kernel) (by decide +kernel), r, dx, cs, letters, _, ?_, h1, by omega, h9, fun H2 e2 => ?_⟩
  · show [V.ref r, V.str (Str.ofString "abcdefghijklmnopqrstuvwxyz")] = _
    rw [hLET]
  rw [← List.drop_drop]
  have hrl := runL_le letters ((cs.drop n).drop (skip (cs.drop n)))
  rw [List.length_drop, List.length_drop] at hrl
  have h2 := e2 _ _ h1
  have hwl : (((cs.drop n).drop (skip (cs.drop n))).take (runL letters ((cs.drop n).drop (skip (cs.drop n))))).length ≤ cs.length - n - skip (cs.drop n) := by
    rw [List.length_take, List.length_drop, List.length_drop]
    omega
  generalize hw : ((cs.drop n).drop (skip (cs.drop n))).take (runL letters ((cs.drop n).drop (skip (cs.drop n)))) = wd at hwl
  refine ⟨_, rfl, r, T.R.C, dx, _, _, rfl, h2, T.R.cl, T.R.nA, lk_at _ _, _, rfl, S wd, rfl, Evl.sz_of (by rw [S_len]; omega), _, _, rfl, rfl, dx, _, h2, by simp [flds], ?_⟩
  rw [put_at cs (n + skip (cs.drop n)) ((n + skip (cs.drop n) : Nat) + ((S wd).length : Int)) (n + skip (cs.drop n) + wd.length) (by rw [S_len]; omega)]
  exact ⟨_, rfl, q _ wd hw.symm ((e1.trans (ExM.of e2)).trans (ExM.mut (by simp))) upd_same (by omega)⟩
theorem mk_badE {te : TE} {o : HO} {σ : L2.St} {H H2 : Hp} {E : XK} {r CT : Addr} {k : Nat} (hev : Evl.Ev te σ H2 (.int (k : Int))) (h2' : H2 r = some o) (e' : ExM [r] H H2) (hb : badAt CT E k [r] H) :
    tMkO CT (spIT CT) [] (tCons te tNil) σ H2 fun cls d H' => E cls d H' := hev H2 (Evl.Ex.refl _) _ fun H2 e2 => by
  have h2 := e2 _ _ h2'
  have e := e'.trans (ExM.of e2)
  refine ⟨(show 1 ≤ 1000 by decide), fun a ha => ⟨a, .int (k : Int), rfl, upd_same, fun d H' hd hda hbb hdx hax => ⟨rfl, d, _, hax, hdx, ?_, ?_⟩⟩⟩
  · rw [upd_ne hda] at hd
    exact hd
  · rw [upd_ne hda] at hd
    have keep : ∀ b o, H2 b = some o → L2.upd (L2.del H' a) d (.xd [("at", .int (k : Int))]) b = some o := fun b o hbo => by
      have hba : b ≠ a := fun z => by
        rw [z, ha] at hbo
        cases hbo
      have hbd : b ≠ d := fun z => by
        rw [z, hd] at hbo
        cases hbo
      rw [upd_ne hbd]
      unfold L2.del
      simp only [hba, if_false]
      rw [hbb b hbd hba, upd_ne hba]
      exact hbo
    have hrd : r ≠ d := fun z => by
      rw [← z, h2] at hd
      cases hd
    have hdH : H d = none := by
      cases q : H d with
      | none => rfl
      | some o =>
        have := e d o (by rw [List.mem_singleton]; exact Ne.symm hrd) q
        rw [hd] at this
        cases this
    exact hb d _ hdH (fun b o hbr hbo => keep b o (e b o hbr hbo)) upd_same
theorem mk_bad {σ : L2.St} {H H2 : Hp} {E : XK} {r dx C CT : Addr} {cs : List Nat} {k : Nat} (h0 : σ[0]? = some (some (.ref r))) (h2 : H2 r = some (rdr C dx cs k)) (cl : Cls K C) (nA : NoAttr K C "at") (e : ExM [r] H H2) (hb : badAt CT E k [r] H) :
    tMkO CT (spIT CT) [] (tCons (tFld K (tVar 0) "at") tNil) σ H2 fun cls d H' => E cls d H' := mk_badE (ev_fld (Evl.ev_var h0) h2 cl nA (lk_at _ _)) h2 e hb
/-- self.sign(allowed) -/
def spSign (C CT : Addr) : Sp := fun vs H Q E => ∃ (r dx : Addr) (cs al : List Nat) (n : Nat), vs = [.ref r, .str (S al)] ∧ H r = some (rdr C dx cs n) ∧ n ≤ cs.length ∧ cs.length ≤ 90000 ∧
  (∀ c k H', gSign al cs n = .ok c k → ExM [r] H H' → H' r = some (rdr C dx cs k) → Q (.str (S [c])) H') ∧
  (∀ k, gSign al cs n = .bad k → badAt CT E k [r] H)
theorem ok_Reader_sign (T : Top K mg) : FnOk P w K mg base (CX P w) 3 T.R_sign.f T.R_sign.fd ["self", "allowed"] (spSign T.R.C T.o_InvalidText.C) := by
  refine T.R_sign.F.okX sc_Reader_sign (fun vs H Q E h => ?_) (fun cdv A outer s H vs Q E hr h => ?_)
  · obtain ⟨_, _, _, _, _, rfl, _⟩ := h
    rfl
  obtain ⟨r, dx, cs, al, n, rfl, ho, hn, h9, qO, qE⟩ := h
  refine ⟨_, (pss_cons (ps_set (i := 2) sc_Reader_sign.nd rfl (Or.inl rfl) (pe_meth0 (pv 0) T.R.cl T.R_peek.m (ok_Reader_peek T) (hr.mono (by omega)) T.R_peek.b .nil pass0))
      (pss_cons (ps_if (PW.pt (pw_or (pt_cmpR op_eq (pv 2) pe_str (nomark _)) (pw_or1 (pt_cmpR op_notIn_sign (pv 2) (pv 1) (by with_unfolding_all rfl))))) (pss_one (ps_raise rfl (takes_of rfl rfl rfl rfl) (pmk_oex T.o_InvalidText.T T.o_InvalidText.iC T.o_InvalidText.tI (ok_InvalidText T) (hr.mono (by omega)) T.o_InvalidText.b .nil pass0 (by rfl) T.o_InvalidText.g (pa_cons (pe_fld (pv 0) rfl) pa_nil)))) pss_nil)
      (pss_cons (ps_fldaug (pv 0) pe_int in_add)
      (pss_one (ps_ret (pv 2)))))), ?_⟩
  refine ⟨_, rfl, r, dx, _, rfl, ho, lk_no cs n (by decide +kernel) (by decide +kernel), r, dx, cs, n, rfl, ho, hn, h9, fun H1 e1 h1 => ?_⟩
  have hsk : n + skip (cs.drop n) = sk cs n := rfl
  rw [hsk] at h1 ⊢
  have hle := sk_le hn
  rw [take1]
  dsimp only [L2.gName]
  cases hg : cs[sk cs n]? with
  | none =>
    have hG : gSign al cs n = .bad (sk cs n) := by unfold gSign; rw [hg]
    refine Evl.q_when (b := true) ?_ (fun _ H2 e2 => ?_) (fun hb => nomatch hb)
    · refine Evl.et_is (Evl.et_or (a := true) (Evl.et_is (Evl.et_test (Evl.ev_op (Evl.ev_var (by rfl)) Evl.ev_c (Evl.rv_eq rfl))) (decide_eq_true (show V.str (S []) = _ by decide +kernel))) (fun hb => nomatch hb) (b := false)) rfl
    · exact mk_bad (by rfl) (e2 _ _ h1) T.R.cl T.R.nA (e1.trans (ExM.of e2)) (qE _ hG)
  | some c =>
    have n1 : decide (V.str (S [c]) = V.str (Str.ofString "")) = false := decide_eq_false fun z => by
      have := S_inj ((V.str.inj z).trans (show Str.ofString "" = S [] by decide +kernel))
      cases this
    have hlt : sk cs n < cs.length := (List.getElem?_eq_some_iff.mp hg).1
    by_cases hc : c ∈ al
    · have hG : gSign al cs n = .ok c (sk cs n + 1) := by
        unfold gSign
        rw [hg]
        exact if_pos hc
      have e9 : (decide (V.str (S [c]) = V.str (Str.ofString "")) || !decide (c ∈ al)) = false := by
        rw [n1, decide_eq_true hc]
        rfl
      refine Evl.q_when (b := false) ?_ (fun hb => nomatch hb) fun _ H2 e2 => ?_
      · refine Evl.et_is ?_ e9
        refine Evl.et_or ?_ fun _ => ?_
        · exact Evl.et_test (Evl.ev_op (Evl.ev_var (by rfl)) Evl.ev_c (Evl.rv_eq rfl))
        · exact Evl.et_test (ev_ninS (Evl.ev_var (by rfl)) (Evl.ev_var (by rfl)))
      have h2 := e2 _ _ h1
      refine ⟨_, rfl, r, T.R.C, dx, _, _, rfl, h2, T.R.cl, T.R.nA, lk_at _ _, _, _, rfl, rfl, dx, _, h2, by simp [flds], ?_⟩
      rw [put_at cs (sk cs n) ((sk cs n : Nat) + 1) (sk cs n + 1) (by omega)]
      exact ⟨_, rfl, qO c _ _ hG ((e1.trans (ExM.of e2)).trans (ExM.mut (by simp))) upd_same⟩
    · have hG : gSign al cs n = .bad (sk cs n) := by
        unfold gSign
        rw [hg]
        exact if_neg hc
      have e9 : (decide (V.str (S [c]) = V.str (Str.ofString "")) || !decide (c ∈ al)) = true := by
        rw [n1, decide_eq_false hc]
        rfl
      refine Evl.q_when (b := true) ?_ (fun _ H2 e2 => ?_) (fun hb => nomatch hb)
      · refine Evl.et_is ?_ e9
        refine Evl.et_or ?_ fun _ => ?_
        · exact Evl.et_test (Evl.ev_op (Evl.ev_var (by rfl)) Evl.ev_c (Evl.rv_eq rfl))
        · exact Evl.et_test (ev_ninS (Evl.ev_var (by rfl)) (Evl.ev_var (by rfl)))
      · exact mk_bad (by rfl) (e2 _ _ h1) T.R.cl T.R.nA (e1.trans (ExM.of e2)) (qE _ hG)
theorem runL_mem (al : List Nat) : ∀ (l : List Nat), ∀ c ∈ l.take (runL al l), c ∈ al
  | [] => fun c hc => by simp at hc
  | d :: l => fun c hc => by
    simp only [runL] at hc
    by_cases hd : d ∈ al
    · rw [if_pos hd, List.take_succ_cons] at hc
      rcases List.mem_cons.mp hc with rfl | hc
      · exact hd
      · exact runL_mem al l c hc
    · rw [if_neg hd] at hc
      simp at hc
theorem int_read {ds : List Nat} (h : ∀ c ∈ ds, c ∈ digs) (ne : ds ≠ []) (hl : ds.length ≤ 31) : PySem.intText? (S ds) = some ((PySem.NumText.digitsVal ds : Nat) : Int) :=
  PySem.intText_digits (x := S ds) (by
    intro c hc
    have := h c hc
    unfold digs at this
    obtain ⟨k, hk, rfl⟩ := List.mem_map.mp this
    rw [List.mem_range] at hk
    exact ⟨by omega, by omega⟩) ne (by rw [S_len]; omega)
/-- self.number() -/
def spNumber (C CT : Addr) : Sp := fun vs H Q E => ∃ (r dx : Addr) (cs : List Nat) (n : Nat), vs = [.ref r] ∧ H r = some (rdr C dx cs n) ∧ n ≤ cs.length ∧ cs.length ≤ 90000 ∧
  (∀ m k H', gNum cs n = .ok m k → ExM [r] H H' → H' r = some (rdr C dx cs k) → Q (.int (m : Int)) H') ∧
  (∀ k, gNum cs n = .bad k → badAt CT E k [r] H)
theorem ok_Reader_number (T : Top K mg) : FnOk P w K mg base (CX P w) 3 T.R_number.f T.R_number.fd ["self"] (spNumber T.R.C T.o_InvalidText.C) := by
  refine T.R_number.F.okX sc_Reader_number (fun vs H Q E h => ?_) (fun cdv A outer s H vs Q E hr h => ?_)
  · obtain ⟨_, _, _, _, rfl, _⟩ := h
    rfl
  obtain ⟨r, dx, cs, n, rfl, ho, hn, h9, qO, qE⟩ := h
  refine ⟨_, (pss_cons (ps_expr (pe_meth0 (pv 0) T.R.cl T.R_peek.m (ok_Reader_peek T) (hr.mono (by omega)) T.R_peek.b .nil pass0))
      (pss_cons (ps_set (i := 1) sc_Reader_number.nd rfl (Or.inl rfl) (pe_meth (pv 0) T.R.cl T.R_run.m (ok_Reader_run T) (hr.mono (by omega)) T.R_run.b .nil pass0 (pa_cons (pe_globS rfl T.g_DIGITS) pa_nil)))
      (pss_cons (ps_if (pt_cmpR op_eq (pv 1) pe_str (nomark _)) (pss_one (ps_raise rfl (takes_of rfl rfl rfl rfl) (pmk_oex T.o_InvalidText.T T.o_InvalidText.iC T.o_InvalidText.tI (ok_InvalidText T) (hr.mono (by omega)) T.o_InvalidText.b .nil pass0 (by rfl) T.o_InvalidText.g (pa_cons (pe_fld (pv 0) rfl) pa_nil)))) pss_nil)
      (pss_cons (ps_if (pt_cmpR op_eq (pe_ix ix_str (pv 1) pe_int (fun _ _ => rfl)) pe_str (nomark _)) (pss_one (ps_set (i := 1) sc_Reader_number.nd rfl (Or.inl rfl) pe_str)) pss_nil)
      (pss_cons (ps_set (i := 1) sc_Reader_number.nd rfl (Or.inl rfl) (pe_slice sl_str (pv 1) po_none (po_some (pe_globI rfl T.g__MOST_DIGITS))))
      (pss_cons (ps_fldaug (pv 0) (pe_callB call_len_str (by rfl) T.n_len PySem.boot_len (pa_cons (pv 1) pa_nil)) in_add)
      (pss_one (ps_ret (pe_callTy call_int_str (by rfl) T.n_int (by decide +kernel) (pa_cons (pv 1) pa_nil)))))))))), ?_⟩
  refine ⟨_, rfl, r, dx, _, rfl, ho, lk_no cs n (by decide +kernel) (by decide +kernel), r, dx, cs, n, rfl, ho, hn, h9, fun H1 e1 h1 => ?_⟩
  have hsk : n + skip (cs.drop n) = sk cs n := rfl
  rw [hsk] at h1
  have hle := sk_le hn
  refine ⟨_, rfl, r, dx, _, rfl, h1, lk_no cs _ (by decide +kernel) (by decide +kernel), r, dx, cs, digs, _, ?_, h1, hle, h9, fun H2 e2 => ?_⟩
  · show [V.ref r, V.str (Str.ofString "0123456789")] = _
    rw [hDIG]
  have h2 := e2 _ _ h1
  dsimp only [L2.gName]
  by_cases h0 : (cs.drop (sk cs n)).take (runL digs (cs.drop (sk cs n))) = []
  · have hG : gNum cs n = .bad (sk cs n) := by
      unfold gNum
      exact if_pos h0
    rw [h0]
    refine Evl.q_when (b := true) (Evl.et_is (Evl.et_test (Evl.ev_op (Evl.ev_var (by rfl)) Evl.ev_c (Evl.rv_eq rfl))) (decide_eq_true (show V.str (S []) = _ by decide +kernel))) (fun _ H3 e3 => ?_) (fun hb => nomatch hb)
    exact mk_bad (by rfl) ((e2.trans e3) _ _ h1) T.R.cl T.R.nA (e1.trans (ExM.of (e2.trans e3))) (qE _ hG)
  · have hG : gNum cs n = .ok (PySem.NumText.digitsVal (cutG ((cs.drop (sk cs n)).take (runL digs (cs.drop (sk cs n)))))) (sk cs n + (cutG ((cs.drop (sk cs n)).take (runL digs (cs.drop (sk cs n))))).length) := by
      unfold gNum
      exact if_neg h0
    have hdig := runL_mem digs (cs.drop (sk cs n))
    have hlen : ((cs.drop (sk cs n)).take (runL digs (cs.drop (sk cs n)))).length ≤ cs.length - sk cs n := by
      rw [List.length_take, List.length_drop]
      omega
    generalize (cs.drop (sk cs n)).take (runL digs (cs.drop (sk cs n))) = ds at h0 hG hdig hlen
    obtain ⟨c, dr, rfl⟩ : ∃ c dr, ds = c :: dr := by
      cases ds with
      | nil => exact absurd rfl h0
      | cons c dr => exact ⟨c, dr, rfl⟩
    refine Evl.q_when (b := false) (Evl.et_is (Evl.et_test (Evl.ev_op (Evl.ev_var (by rfl)) Evl.ev_c (Evl.rv_eq rfl))) (decide_eq_false fun z => h0 (S_inj ((V.str.inj z).trans (show Str.ofString "" = S [] by decide +kernel))))) (fun hb => nomatch hb) fun _ H3 e3 => ?_
    have hc48 : decide (V.str (S [c]) = V.str (Str.ofString "0")) = decide (c = 48) := by
      by_cases hc : c = 48
      · rw [hc]
        decide +kernel
      · rw [decide_eq_false hc]
        exact decide_eq_false fun z => hc (by
          have := S_inj ((V.str.inj z).trans (show Str.ofString "0" = S [48] by decide +kernel))
          simpa using this)
    refine Evl.q_ifAsg (v := .str (S (if c = 48 then [48] else c :: dr))) (b := decide (V.str (S [c]) = V.str (Str.ofString "0"))) ?_ (fun hb => ?_) (fun hb => ?_) fun H4 e4 => ?_
    · exact Evl.et_test (Evl.ev_op (ev_ixS (z := c :: dr) (Evl.ev_var (by rfl)) Evl.ev_c (by omega) (c := c) (by show atI (c :: dr) ((0 : Nat) : Int) = _; exact atI_nat rfl)) Evl.ev_c (Evl.rv_eq rfl))
    · rw [hc48] at hb
      rw [if_pos (of_decide_eq_true hb)]
      exact Evl.ev_is Evl.ev_c (by decide +kernel)
    · rw [hc48] at hb
      rw [if_neg (of_decide_eq_false hb)]
      rfl
    have hcut : (if c = 48 then [48] else c :: dr).take 31 = cutG (c :: dr) := by
      unfold cutG
      by_cases hc : c = 48
      · rw [if_pos hc, if_pos (by simp [hc])]
        rfl
      · rw [if_neg hc, if_neg (by simp [hc])]
    have hcl : (cutG (c :: dr)).length ≤ 31 ∧ (cutG (c :: dr)).length ≤ (c :: dr).length := by
      rw [← hcut]
      refine ⟨List.length_take_le _ _, Nat.le_trans (List.length_take_le' _ _) ?_⟩
      split
      · simp
      · exact Nat.le_refl _
    have hcd : ∀ x ∈ cutG (c :: dr), x ∈ digs := fun x hx => by
      rw [← hcut] at hx
      have := List.mem_of_mem_take hx
      split at this
      · rw [List.mem_singleton.mp this]
        decide
      · exact hdig x this
    have hcn : cutG (c :: dr) ≠ [] := fun z => by
      rw [← hcut] at z
      split at z <;> simp at z
    refine Evl.q_asg (v := .str (S (cutG (c :: dr)))) (ev_slS (Evl.ev_var rfl) Evl.eo_none (Evl.eo_some Evl.ev_c) (by split <;> (simp only [List.length_cons, List.length_nil] at *; omega)) (by
      show cutS (S (if c = 48 then [48] else c :: dr)) none (some ((31 : Nat) : Int)) = _
      rw [cut0, hcut])) fun H5 e5 => ?_
    have e25 := e2.trans (e3.trans (e4.trans e5))
    have h5 := e25 _ _ h1
    generalize cutG (c :: dr) = es at hG hcl hcd hcn
    refine ⟨_, rfl, r, T.R.C, dx, _, _, rfl, h5, T.R.cl, T.R.nA, lk_at _ _, _, rfl, S es, rfl, Evl.sz_of (by rw [S_len]; omega), _, _, rfl, rfl, dx, _, h5, by simp [flds], ?_⟩
    rw [put_at cs (sk cs n) ((sk cs n : Nat) + ((S es).length : Int)) (sk cs n + es.length) (by rw [S_len]; omega)]
    exact ⟨_, rfl, S es, ((PySem.NumText.digitsVal es : Nat) : Int), rfl, int_read hcd hcn hcl.1, by rw [S_len]; omega, qO _ _ _ hG ((e1.trans (ExM.of e25)).trans (ExM.mut (by simp))) upd_same⟩
end
end K04

set_option Elab.async false
set_option linter.all false
set_option maxRecDepth 100000
set_option maxHeartbeats 4000000
namespace RT
open TM TX SX RD
def Rr.map {α β : Type} (f : α → β) : Rr α → Rr β
  | .ok a n => .ok (f a) n
  | .bad n => .bad n
def gPlain (cs : List Nat) (n : Nat) : Rr Int :=
  if cs[sk cs n]? = some 45 then (gNum cs (sk cs n + 1)).map fun (m : Nat) => -(m : Int) else (gNum cs (sk cs n)).map fun (m : Nat) => (m : Int)
def gAdd (cs : List Nat) (n : Nat) : Rr Int :=
  if cs[sk cs n]? = some 43 then (gNum cs (sk cs n + 1)).map fun (m : Nat) => (m : Int)
  else if cs[sk cs n]? = some 45 then (gNum cs (sk cs n + 1)).map fun (m : Nat) => -(m : Int)
  else .ok 0 (sk cs n)
theorem sk_sk (cs : List Nat) (n : Nat) : sk cs (sk cs n) = sk cs n := by
  unfold sk
  rw [← List.drop_drop, skip_drop]
  rfl
theorem sk_succ {cs : List Nat} {n : Nat} (h : sk cs n = n) : True := trivial
theorem gSign_at {al cs : List Nat} {n c : Nat} (h : cs[sk cs n]? = some c) (hc : c ∈ al) : gSign al cs (sk cs n) = .ok c (sk cs n + 1) := by
  unfold gSign
  rw [sk_sk, h]
  exact if_pos hc
/-- the sign that peek finds -/
def pk (cs : List Nat) (n : Nat) : List Nat := match cs[n]? with | some c => [c] | none => []
end RT
namespace K04
open PySem PySem.Spec PyProof.Rows L2 DK DD TM TX SX RD RT
theorem passE {X : Cx} {E : XK} (tk : Takes X fun cls d _ H => E cls d H) : Passes (CX X.prog X.w) X E := fun pins σ H s e s' I h => passAt tk σ pins H s e s' I h
theorem fresh_exM {r p : Addr} {H H' : Hp} {o : HO} (e : ExM [r] H H') (hr : H' r = some o) (n : H' p = none) : H p = none ∧ p ≠ r := by
  have hpr : p ≠ r := fun z => by
    rw [z, hr] at n
    cases n
  refine ⟨?_, hpr⟩
  cases q : H p with
  | none => rfl
  | some o2 =>
    rw [e p o2 (by simp [hpr]) q] at n
    cases n
theorem bad_from {CT r : Addr} {E : XK} {k : Nat} {H H1 : Hp} {o1 : HO} (b : badAt CT E k [r] H) (e : ExM [r] H H1) (h : H1 r = some o1) : badAt CT E k [r] H1 := fun d H' hd eM hdx => b d H' (fresh_exM e h hd).1 (e.trans eM) hdx
theorem take1p (cs : List Nat) (n : Nat) : (cs.drop n).take 1 = pk cs n := take1 cs n
theorem S_cong {a b : List Nat} {x : Str} (hx : x = S b) : V.str (S a) = V.str x ↔ a = b := by
  subst hx
  exact ⟨fun z => S_inj (V.str.inj z), fun z => by rw [z]⟩
theorem pk_eq (cs : List Nat) (n c : Nat) {x : Str} (hx : x = S [c]) : decide (V.str (S (pk cs n)) = V.str x) = decide (cs[n]? = some c) := by
  refine decide_eq_decide.mpr ((S_cong hx).trans ?_)
  unfold pk
  cases h : cs[n]? with
  | none => simp
  | some d => simp
/-- what is read from n on, by g -/
def spG (C CT : Addr) (g : List Nat → Nat → Rr Int) : Sp := fun vs H Q E => ∃ (r dx : Addr) (cs : List Nat) (n : Nat), vs = [.ref r] ∧ H r = some (rdr C dx cs n) ∧ n ≤ cs.length ∧ cs.length ≤ 90000 ∧
  (∀ i k H', g cs n = .ok i k → ExM [r] H H' → H' r = some (rdr C dx cs k) → Q (.int i) H') ∧
  (∀ k, g cs n = .bad k → badAt CT E k [r] H)
section
variable {P : Program} {w : World} {K : PySem.W.Frag} {mg : Str → Option Value} {base : Heap}
theorem ok__read_plain (T : Top K mg) : FnOk P w K mg base (CX P w) 4 T._read_plain.f T._read_plain.fd ["reader"] (spG T.R.C T.o_InvalidText.C gPlain) := by
  refine T._read_plain.F.okX sc__read_plain (fun vs H Q E h => ?_) (fun cdv A outer s H vs Q E hr h => ?_)
  · obtain ⟨_, _, _, _, rfl, _⟩ := h
    rfl
  obtain ⟨r, dx, cs, n, rfl, ho, hn, h9, qO, qE⟩ := h
  refine ⟨_, (pss_cons (ps_if (pt_cmpR op_eq (pe_meth0 (pv 0) T.R.cl T.R_peek.m (ok_Reader_peek T) (hr.mono (by omega)) T.R_peek.b .nil pass0) pe_str (nomark _)) (pss_cons (ps_expr (pe_meth (pv 0) T.R.cl T.R_sign.m (ok_Reader_sign T) (hr.mono (by omega)) T.R_sign.b .nil (passE (takes_of rfl rfl rfl rfl)) (pa_cons pe_str pa_nil)))
      (pss_one (ps_ret (pe_un un_neg (pe_meth0 (pv 0) T.R.cl T.R_number.m (ok_Reader_number T) (hr.mono (by omega)) T.R_number.b .nil (passE (takes_of rfl rfl rfl rfl))))))) pss_nil)
      (pss_one (ps_ret (pe_meth0 (pv 0) T.R.cl T.R_number.m (ok_Reader_number T) (hr.mono (by omega)) T.R_number.b .nil (passE (takes_of rfl rfl rfl rfl)))))), ?_⟩
  refine ⟨_, rfl, r, dx, _, rfl, ho, lk_no cs n (by decide +kernel) (by decide +kernel), r, dx, cs, n, rfl, ho, hn, h9, fun H1 e1 h1 => ?_⟩
  have hsk : n + skip (cs.drop n) = sk cs n := rfl
  rw [hsk] at h1 ⊢
  rw [take1p]
  show tC (V.str (Str.ofString "-")) (L2.start [Str.ofString "reader"] [V.ref r]) H1 _
  refine ⟨rfl, _, rfl, ?_⟩
  rw [pk_eq cs (sk cs n) 45 (x := Str.ofString "-") (by decide +kernel)]
  dsimp only
  have hle := sk_le hn
  by_cases h45 : cs[sk cs n]? = some 45
  · rw [if_pos (decide_eq_true h45)]
    have hlt : sk cs n < cs.length := (List.getElem?_eq_some_iff.mp h45).1
    have hG : gPlain cs n = (gNum cs (sk cs n + 1)).map fun (m : Nat) => -(m : Int) := if_pos h45
    have hs : gSign [45] cs (sk cs n) = .ok 45 (sk cs n + 1) := gSign_at h45 (by simp)
    refine ⟨_, rfl, r, dx, _, rfl, h1, lk_no cs _ (by decide +kernel) (by decide +kernel), r, dx, cs, [45], _, by rw [show (Str.ofString "-") = S [45] by decide +kernel]; rfl, h1, hle, h9, fun c k H2 hk e2 h2 => ?_, fun k hk => by rw [hs] at hk; cases hk⟩
    rw [hs] at hk
    cases hk
    refine ⟨_, rfl, r, dx, _, rfl, h2, lk_no cs _ (by decide +kernel) (by decide +kernel), r, dx, cs, _, rfl, h2, by omega, h9, fun m k H3 hk e3 h3 => ?_, fun k hk => ?_⟩
    · exact ⟨_, rfl, qO _ k H3 (by rw [hG, hk]; rfl) ((e1.trans e2).trans e3) h3⟩
    · exact bad_from (qE k (by rw [hG, hk]; rfl)) (e1.trans e2) h2
  · rw [if_neg (by simp [h45])]
    have hG : gPlain cs n = (gNum cs (sk cs n)).map fun (m : Nat) => (m : Int) := if_neg h45
    refine ⟨_, rfl, r, dx, _, rfl, h1, lk_no cs _ (by decide +kernel) (by decide +kernel), r, dx, cs, _, rfl, h1, hle, h9, fun m k H3 hk e3 h3 => ?_, fun k hk => ?_⟩
    · exact qO _ k H3 (by rw [hG, hk]; rfl) (e1.trans e3) h3
    · exact bad_from (qE k (by rw [hG, hk]; rfl)) e1 h1
end
end K04

set_option Elab.async false
set_option linter.all false
set_option maxRecDepth 100000
set_option maxHeartbeats 4000000
namespace K04
open PySem PySem.Spec PyProof.Rows L2 DK DD TM TX SX RD RT
theorem pk_in (cs : List Nat) (n : Nat) : inV (V.str (S (pk cs n))) [V.str "+", V.str "-"] = (decide (cs[n]? = some 43) || decide (cs[n]? = some 45)) := by
  have h1 := pk_eq cs n 43 (x := Str.ofString "+") (by decide +kernel)
  have h2 := pk_eq cs n 45 (x := Str.ofString "-") (by decide +kernel)
  rw [← h1, ← h2]
  have e : ∀ (a b : Str), eqV (.str b) (.str a) = decide (V.str a = V.str b) := fun a b => by
    show (b == a) = _
    by_cases h : a = b
    · subst h
      simp
    · rw [decide_eq_false (fun z => h (V.str.inj z))]
      exact beq_eq_false_iff_ne.mpr (Ne.symm h)
  unfold inV
  simp only [List.any_cons, List.any_nil, Bool.or_false]
  rw [e, e]
section
variable {P : Program} {w : World} {K : PySem.W.Frag} {mg : Str → Option Value} {base : Heap}
theorem ok__read_add (T : Top K mg) : FnOk P w K mg base (CX P w) 4 T._read_add.f T._read_add.fd ["reader"] (spG T.R.C T.o_InvalidText.C gAdd) := by
  refine T._read_add.F.okX sc__read_add (fun vs H Q E h => ?_) (fun cdv A outer s H vs Q E hr h => ?_)
  · obtain ⟨_, _, _, _, rfl, _⟩ := h
    rfl
  obtain ⟨r, dx, cs, n, rfl, ho, hn, h9, qO, qE⟩ := h
  refine ⟨_, (pss_cons (ps_if (pt_cmpR op_notIn_seq (pe_meth0 (pv 0) T.R.cl T.R_peek.m (ok_Reader_peek T) (hr.mono (by omega)) T.R_peek.b .nil pass0) (pe_tup (pa_cons pe_str (pa_cons pe_str pa_nil))) (by with_unfolding_all rfl)) (pss_one (ps_ret pe_int)) pss_nil)
      (pss_cons (ps_set (i := 1) sc__read_add.nd rfl (Or.inl rfl) (pe_meth (pv 0) T.R.cl T.R_sign.m (ok_Reader_sign T) (hr.mono (by omega)) T.R_sign.b .nil (passE (takes_of rfl rfl rfl rfl)) (pa_cons pe_str pa_nil)))
      (pss_cons (ps_set (i := 2) sc__read_add.nd rfl (Or.inl rfl) (pe_meth0 (pv 0) T.R.cl T.R_number.m (ok_Reader_number T) (hr.mono (by omega)) T.R_number.b .nil (passE (takes_of rfl rfl rfl rfl))))
      (pss_one (ps_ret (pe_ifExp (pt_cmpR op_eq (pv 1) pe_str (nomark _)) (pe_un un_neg (pv 2)) (pv 2))))))), ?_⟩
  refine ⟨_, rfl, r, dx, _, rfl, ho, lk_no cs n (by decide +kernel) (by decide +kernel), r, dx, cs, n, rfl, ho, hn, h9, fun H1 e1 h1 => ?_⟩
  have hsk : n + skip (cs.drop n) = sk cs n := rfl
  rw [hsk] at h1 ⊢
  rw [take1p]
  have hle := sk_le hn
  refine ⟨(show 2 ≤ PySem.sizeLine by decide), fun p hp => ?_⟩
  have eX : Evl.Ex H1 (upd H1 p (.tup [V.str "+", V.str "-"])) := Evl.Ex.new hp
  refine ⟨p, _, rfl, .inr (Evl.st_of upd_same), rfl, rfl, _, rfl, ?_⟩
  generalize upd H1 p (.tup [V.str "+", V.str "-"]) = H2 at eX
  have h2 := eX _ _ h1
  have e12 := e1.trans (ExM.of eX)
  rw [pk_in]
  have go : ∀ sg : Nat, sg ∈ [43, 45] → cs[sk cs n]? = some sg → gAdd cs n = (gNum cs (sk cs n + 1)).map (fun (m : Nat) => if sg = 45 then -(m : Int) else (m : Int)) → gSign [43, 45] cs (sk cs n) = .ok sg (sk cs n + 1) ∧ sk cs n < cs.length := fun sg hs h _ => ⟨gSign_at h hs, (List.getElem?_eq_some_iff.mp h).1⟩
  by_cases hsg : ∃ sg : Nat, sg ∈ [43, 45] ∧ cs[sk cs n]? = some sg
  · obtain ⟨sg, hs, h⟩ := hsg
    have hG : gAdd cs n = (gNum cs (sk cs n + 1)).map (fun (m : Nat) => if sg = 45 then -(m : Int) else (m : Int)) := by
      unfold gAdd
      simp only [List.mem_cons, List.not_mem_nil, or_false] at hs
      rcases hs with rfl | rfl
      · rw [if_pos h]
        rfl
      · rw [if_neg (by rw [h]; simp), if_pos h]
        rfl
    obtain ⟨hsig, hlt⟩ := go sg hs h hG
    have hb : (decide (cs[sk cs n]? = some 43) || decide (cs[sk cs n]? = some 45)) = true := by
      simp only [List.mem_cons, List.not_mem_nil, or_false] at hs
      rcases hs with rfl | rfl <;> simp [h]
    rw [hb, if_neg (by decide)]
    refine ⟨_, rfl, r, dx, _, rfl, h2, lk_no cs _ (by decide +kernel) (by decide +kernel), r, dx, cs, [43, 45], _, by rw [show (Str.ofString "+-") = S [43, 45] by decide +kernel]; rfl, h2, hle, h9, fun c k H3 hk e3 h3 => ?_, fun k hk => by rw [hsig] at hk; cases hk⟩
    rw [hsig] at hk
    cases hk
    refine ⟨_, rfl, r, dx, _, rfl, h3, lk_no cs _ (by decide +kernel) (by decide +kernel), r, dx, cs, _, rfl, h3, by omega, h9, fun m k H4 hk e4 h4 => ?_, fun k hk => ?_⟩
    · have eA := (e12.trans e3).trans e4
      refine ⟨_, rfl, rfl, _, rfl, ?_⟩
      have h5 : decide (V.str (S [sg]) = V.str (Str.ofString "-")) = decide (sg = 45) := decide_eq_decide.mpr ((S_cong (b := [45]) (by decide +kernel)).trans (by simp))
      rw [h5]
      dsimp only
      by_cases h45 : sg = 45
      · rw [if_pos (decide_eq_true h45)]
        exact ⟨_, rfl, _, rfl, qO _ k H4 (by rw [hG, hk]; simp only [Rr.map]; rw [if_pos h45]) eA h4⟩
      · rw [if_neg (by simp [h45])]
        exact ⟨_, rfl, qO _ k H4 (by rw [hG, hk]; simp only [Rr.map]; rw [if_neg h45]) eA h4⟩
    · exact bad_from (qE k (by rw [hG, hk]; rfl)) (e12.trans e3) h3
  · have n43 : cs[sk cs n]? ≠ some 43 := fun z => hsg ⟨43, by simp, z⟩
    have n45 : cs[sk cs n]? ≠ some 45 := fun z => hsg ⟨45, by simp, z⟩
    have hb : (decide (cs[sk cs n]? = some 43) || decide (cs[sk cs n]? = some 45)) = false := by simp [n43, n45]
    rw [hb, if_pos (by decide)]
    exact qO 0 (sk cs n) H2 (by unfold gAdd; rw [if_neg n43, if_neg n45]) e12 h2
end
end K04

set_option Elab.async false
set_option linter.all false
set_option maxRecDepth 100000
set_option maxHeartbeats 4000000
namespace RT
open TM TX SX RD
abbrev leastc : List Nat := [108, 101, 97, 115, 116]
abbrev mostc : List Nat := [109, 111, 115, 116]
abbrev rankc : List Nat := [114, 97, 110, 107]
/-- the word that stands there -/
def gWord (cs : List Nat) (n : Nat) : List Nat := (cs.drop (sk cs n)).take (runL letters (cs.drop (sk cs n)))
def gStart (cs : List Nat) (n : Nat) : Rr (Trm ⊕ Hd) :=
  if gWord cs n = [] then (gPlain cs (sk cs n)).map fun i => .inl (.plain i)
  else if gWord cs n = leastc then .ok (.inr .least) (sk cs n + 5)
  else if gWord cs n = mostc then .ok (.inr .most) (sk cs n + 4)
  else if gWord cs n = rankc then (gNum cs (sk cs n + 4)).map fun k => .inr (.rank k)
  else match gWord cs n with
    | [c] => if c ∈ [97, 98, 99, 100, 101, 102] then (gAdd cs (sk cs n + 1)).map fun i => .inl (.price (c - 97) i) else .bad (sk cs n)
    | _ => .bad (sk cs n)
end RT
namespace K04
open PySem PySem.Spec PyProof.Rows L2 DK DD TM TX SX RD RT
def hdL : Hd → List PyData
  | .least => [.str "least"]
  | .most => [.str "most"]
  | .rank k => [.str "rank", .int k]
def encS : Trm ⊕ Hd → List PyData
  | .inl t => encL t
  | .inr h => hdL h
def spStart (K : PySem.W.Frag) (C CT : Addr) : Sp := fun vs H Q E => ∃ (M : List Addr) (r dx : Addr) (cs : List Nat) (n : Nat), vs = [.ref r] ∧ H r = some (rdr C dx cs n) ∧ n ≤ cs.length ∧ cs.length ≤ 90000 ∧ Dom M H ∧ r ∈ M ∧
  (∀ a k v H', gStart cs n = .ok a k → ExM [r] H H' → H' r = some (rdr C dx cs k) → Dm K M H' v (.tuple (encS a)) → Q v H') ∧
  (∀ k, gStart cs n = .bad k → badAt CT E k [r] H)
theorem find_shop {c : Nat} (h : c ∈ [97, 98, 99, 100, 101, 102]) : PySem.Txt.find (Str.ofString "abcdef") (S [c]) = ((c - 97 : Nat) : Int) := by
  have : ∀ c ∈ [97, 98, 99, 100, 101, 102], PySem.Txt.find (Str.ofString "abcdef") (S [c]) = ((c - 97 : Nat) : Int) := by decide +kernel
  exact this c h
theorem S_ne {a b : List Nat} (h : a ≠ b) {x : Str} (hx : x = S b) : decide (V.str (S a) = V.str x) = false := decide_eq_false fun z => h (S_inj ((V.str.inj z).trans hx))
theorem S_eq {a : List Nat} {x : Str} (hx : x = S a) : decide (V.str (S a) = V.str x) = true := decide_eq_true (by rw [hx])
section
variable {P : Program} {w : World} {K : PySem.W.Frag} {mg : Str → Option Value} {base : Heap}
theorem ok__read_start (T : Top K mg) : FnOk P w K mg base (CX P w) 5 T._read_start.f T._read_start.fd ["reader"] (spStart K T.R.C T.o_InvalidText.C) := by
  refine T._read_start.F.okX sc__read_start (fun vs H Q E h => ?_) (fun cdv A outer s H vs Q E hr h => ?_)
  · obtain ⟨_, _, _, _, _, rfl, _⟩ := h
    rfl
  obtain ⟨M, r, dx, cs, n, rfl, ho, hn, h9, hM, hrM, qO, qE⟩ := h
  refine ⟨_, (pss_cons (ps_set (i := 1) sc__read_start.nd rfl (Or.inl rfl) (pe_meth0 (pv 0) T.R.cl T.R_word.m (ok_Reader_word T) (hr.mono (by omega)) T.R_word.b .nil pass0))
      (pss_cons (ps_if (pt_cmpR op_eq (pv 1) pe_str (nomark _)) (pss_one (ps_ret (pe_tup (pa_cons pe_str (pa_cons (pe_call (ok__read_plain T) (hr.mono (by omega)) (by rfl) T._read_plain.g T._read_plain.F.kp T._read_plain.b .nil (passE (takes_of rfl rfl rfl rfl)) (pa_cons (pv 0) pa_nil)) pa_nil))))) pss_nil)
      (pss_cons (ps_if (PW.pt (pw_or (pt_cmpR op_eq (pv 1) pe_str (nomark _)) (pw_or1 (pt_cmpR op_eq (pv 1) pe_str (nomark _))))) (pss_one (ps_ret (pe_tup (pa_cons (pv 1) pa_nil)))) pss_nil)
      (pss_cons (ps_if (pt_cmpR op_eq (pv 1) pe_str (nomark _)) (pss_one (ps_ret (pe_tup (pa_cons (pv 1) (pa_cons (pe_meth0 (pv 0) T.R.cl T.R_number.m (ok_Reader_number T) (hr.mono (by omega)) T.R_number.b .nil (passE (takes_of rfl rfl rfl rfl))) pa_nil))))) pss_nil)
      (pss_cons (ps_if (PW.pt (pw_or (pt_cmpR op_gt (pe_callB call_len_str (by rfl) T.n_len PySem.boot_len (pa_cons (pv 1) pa_nil)) pe_int (nomark _)) (pw_or1 (pt_cmpR op_notIn_sign (pv 1) (pe_globS rfl T.g_SHOPS) (by with_unfolding_all rfl))))) (pss_one (ps_raise rfl (takes_of rfl rfl rfl rfl) (pmk_oex T.o_InvalidText.T T.o_InvalidText.iC T.o_InvalidText.tI (ok_InvalidText T) (hr.mono (by omega)) T.o_InvalidText.b .nil pass0 (by rfl) T.o_InvalidText.g (pa_cons (pe_op op_sub (pe_fld (pv 0) rfl) (pe_callB call_len_str (by rfl) T.n_len PySem.boot_len (pa_cons (pv 1) pa_nil))) pa_nil)))) pss_nil)
      (pss_one (ps_ret (pe_tup (pa_cons pe_str (pa_cons (pe_bm PySem.F.plainAttrs_str PySem.F.slot_str_find PySem.F.type_str_find mt_find (pe_globS rfl T.g_SHOPS) (pa_cons (pv 1) pa_nil)) (pa_cons (pe_call (ok__read_add T) (hr.mono (by omega)) (by rfl) T._read_add.g T._read_add.F.kp T._read_add.b .nil (passE (takes_of rfl rfl rfl rfl)) (pa_cons (pv 0) pa_nil)) pa_nil))))))))))), ?_⟩
  refine ⟨_, rfl, r, dx, _, rfl, ho, lk_no cs n (by decide +kernel) (by decide +kernel), r, dx, cs, n, rfl, ho, hn, h9, fun H1 wd hw e1 h1 hn1 => ?_⟩
  have hsk : n + skip (cs.drop n) = sk cs n := rfl
  have hww : gWord cs n = wd := by
    rw [hw, List.drop_drop]
    rfl
  rw [hsk] at h1 hn1
  dsimp only [L2.gName]
  have fin : ∀ (a : Trm ⊕ Hd) (H3 : Hp) (n3 : Nat) (vs : List V), gStart cs n = .ok a n3 → ExM [r] H H3 → H3 r = some (rdr T.R.C dx cs n3) → Dms K M H3 vs (encS a) → (vs.length ≤ PySem.sizeLine ∧ ∀ p, H3 p = none → Q (.ref p) (upd H3 p (.tup vs))) := fun a H3 n3 vs hg e3 h3 hd3 => by
    refine ⟨?_, fun p hp => ?_⟩
    · have := dpa_len hd3
      have h3 : (encS a).length ≤ 3 := by
        cases a with
        | inl t => exact (encL_len t).1
        | inr h => cases h <;> simp [encS, hdL]
      exact Evl.sz_of (by omega)
    · have pM : p ∉ M := fun hpM => hM p hpM (fresh_exM e3 h3 hp).1
      have eX : Evl.Ex H3 (upd H3 p (.tup vs)) := Evl.Ex.new hp
      exact qO a n3 _ _ hg (e3.trans (ExM.of eX)) (eX _ _ h3) (.tup (Evl.st_of (mi_of pM upd_same)) (dms_ex eX hd3))
  by_cases w0 : wd = []
  · have hG : gStart cs n = (gPlain cs (sk cs n)).map fun i => .inl (.plain i) := by unfold gStart; rw [if_pos (hww.trans w0)]
    rw [w0] at h1 hn1 ⊢
    refine Evl.q_when (b := true) (Evl.et_is (Evl.et_test (Evl.ev_op (Evl.ev_var (by rfl)) Evl.ev_c (Evl.rv_eq rfl))) (S_eq (by decide +kernel))) (fun _ H2 e2 => ?_) (fun hb => nomatch hb)
    have h2 := e2 _ _ h1
    have e12 := e1.trans (ExM.of e2)
    exact ⟨_, rfl, r, dx, cs, _, rfl, h2, hn1, h9, fun i k H3 hk e3 h3 => fin (.inl (.plain i)) H3 k _ (by rw [hG]; rw [show sk cs n + ([] : List Nat).length = sk cs n from rfl] at hk; rw [hk]; rfl) (e12.trans e3) h3 (.cons (.str _) (.cons (.int _) .nil)), fun k hk => bad_from (qE k (by rw [hG]; rw [show sk cs n + ([] : List Nat).length = sk cs n from rfl] at hk; rw [hk]; rfl)) e12 h2⟩
  refine Evl.q_when (b := false) (Evl.et_is (Evl.et_test (Evl.ev_op (Evl.ev_var (by rfl)) Evl.ev_c (Evl.rv_eq rfl))) (S_ne (b := []) w0 (by decide +kernel))) (fun hb => nomatch hb) (fun _ H2 e2 => ?_)
  have n0 : ¬ gWord cs n = [] := by rw [hww]; exact w0
  by_cases wl : wd = leastc
  · have hG : gStart cs n = .ok (.inr .least) (sk cs n + 5) := by unfold gStart; rw [if_neg n0, if_pos (hww.trans wl)]
    rw [wl] at h1 hn1 ⊢
    refine Evl.q_when (b := true) (Evl.et_is (Evl.et_or (Evl.et_test (Evl.ev_op (Evl.ev_var (by rfl)) Evl.ev_c (Evl.rv_eq rfl))) (fun _ => Evl.et_test (Evl.ev_op (Evl.ev_var (by rfl)) Evl.ev_c (Evl.rv_eq rfl)))) (by rw [S_eq (by decide +kernel)] <;> rfl)) (fun _ H3 e3 => ?_) (fun hb => nomatch hb)
    have e23 := e2.trans e3
    exact ⟨_, rfl, fin _ H3 _ _ hG (e1.trans (ExM.of e23)) (e23 _ _ h1) (.cons (sc_dp (d := .str "least") (by decide +kernel)) .nil)⟩
  have nl : ¬ gWord cs n = leastc := by rw [hww]; exact wl
  by_cases wm : wd = mostc
  · have hG : gStart cs n = .ok (.inr .most) (sk cs n + 4) := by unfold gStart; rw [if_neg n0, if_neg nl, if_pos (hww.trans wm)]
    rw [wm] at h1 hn1 ⊢
    refine Evl.q_when (b := true) (Evl.et_is (Evl.et_or (Evl.et_test (Evl.ev_op (Evl.ev_var (by rfl)) Evl.ev_c (Evl.rv_eq rfl))) (fun _ => Evl.et_test (Evl.ev_op (Evl.ev_var (by rfl)) Evl.ev_c (Evl.rv_eq rfl)))) (by rw [S_ne (b := leastc) (by decide) (by decide +kernel), S_eq (by decide +kernel)] <;> rfl)) (fun _ H3 e3 => ?_) (fun hb => nomatch hb)
    have e23 := e2.trans e3
    exact ⟨_, rfl, fin _ H3 _ _ hG (e1.trans (ExM.of e23)) (e23 _ _ h1) (.cons (sc_dp (d := .str "most") (by decide +kernel)) .nil)⟩
  have nm : ¬ gWord cs n = mostc := by rw [hww]; exact wm
  refine Evl.q_when (b := false) (Evl.et_is (Evl.et_or (Evl.et_test (Evl.ev_op (Evl.ev_var (by rfl)) Evl.ev_c (Evl.rv_eq rfl))) (fun _ => Evl.et_test (Evl.ev_op (Evl.ev_var (by rfl)) Evl.ev_c (Evl.rv_eq rfl)))) (by rw [S_ne (b := leastc) wl (by decide +kernel), S_ne (b := mostc) wm (by decide +kernel)] <;> rfl)) (fun hb => nomatch hb) (fun _ H3 e3 => ?_)
  have e23 := e2.trans e3
  by_cases wr : wd = rankc
  · have hG : gStart cs n = (gNum cs (sk cs n + 4)).map fun k => .inr (.rank k) := by unfold gStart; rw [if_neg n0, if_neg nl, if_neg nm, if_pos (hww.trans wr)]
    rw [wr] at h1 hn1 ⊢
    refine Evl.q_when (b := true) (Evl.et_is (Evl.et_test (Evl.ev_op (Evl.ev_var (by rfl)) Evl.ev_c (Evl.rv_eq rfl))) (S_eq (by decide +kernel))) (fun _ H4 e4 => ?_) (fun hb => nomatch hb)
    have e24 := e23.trans e4
    have h4 := e24 _ _ h1
    have e14 := e1.trans (ExM.of e24)
    exact ⟨_, rfl, _, rfl, r, dx, _, rfl, h4, lk_no cs _ (by decide +kernel) (by decide +kernel), r, dx, cs, _, rfl, h4, hn1, h9, fun m k H5 hk e5 h5 => fin (.inr (.rank m)) H5 k _ (by rw [hG]; rw [show sk cs n + rankc.length = sk cs n + 4 from rfl] at hk; rw [hk]; rfl) (e14.trans e5) h5 (.cons (sc_dp (d := .str "rank") (by decide +kernel)) (.cons (.int _) .nil)), fun k hk => bad_from (qE k (by rw [hG]; rw [show sk cs n + rankc.length = sk cs n + 4 from rfl] at hk; rw [hk]; rfl)) e14 h4⟩
  have nr : ¬ gWord cs n = rankc := by rw [hww]; exact wr
  refine Evl.q_when (b := false) (Evl.et_is (Evl.et_test (Evl.ev_op (Evl.ev_var (by rfl)) Evl.ev_c (Evl.rv_eq rfl))) (S_ne (b := rankc) wr (by decide +kernel))) (fun hb => nomatch hb) (fun _ H4 e4 => ?_)
  have e24 := e23.trans e4
  have hwl : wd.length ≤ 90000 := by omega
  have ebad : ∀ {H5 : Hp}, Evl.Ex H1 H5 → gStart cs n = .bad (sk cs n) → tMkO T.o_InvalidText.C (spIT T.o_InvalidText.C) [] (tCons (tOp (rI0 fun i j => .int (i - j)) (tFld K (tVar 0) "at") (tCB (fun xs H Q => ∃ z, xs = [.str z] ∧ z.length ≤ PySem.sizeLine ∧ Q (.int z.length) H) (tCons (tVar 1) tNil))) tNil) [some (.ref r), some (.str (S wd))] H5 fun cls d H' => E cls d H' := fun e hg =>
    mk_badE (Evl.ev_is (Evl.ev_op (ev_fld (Evl.ev_var (by rfl)) (e _ _ h1) T.R.cl T.R.nA (lk_at _ _)) (ev_lenS (y := wd) (Evl.ev_var (by rfl)) (by omega)) Evl.rv_I0) (congrArg V.int (by omega))) (e _ _ h1) (e1.trans (ExM.of e)) (qE _ hg)
  by_cases w1 : ∃ c, wd = [c]
  · obtain ⟨c, rfl⟩ := w1
    have hlen1 : decide ((1 : Int) < ((([c] : List Nat).length : Nat) : Int)) = false := by simp
    by_cases hc : c ∈ [97, 98, 99, 100, 101, 102]
    · have hG : gStart cs n = (gAdd cs (sk cs n + 1)).map fun i => .inl (.price (c - 97) i) := by
        unfold gStart
        rw [if_neg n0, if_neg nl, if_neg nm, if_neg nr, hww]
        exact if_pos hc
      have hb8 : (decide ((1 : Int) < ((([c] : List Nat).length : Nat) : Int)) || !decide (c ∈ [97, 98, 99, 100, 101, 102])) = false := by
        rw [decide_eq_true hc, hlen1]
        rfl
      refine Evl.q_when (b := false) ?_ (fun hb => nomatch hb) (fun _ H5 e5 => ?_)
      · refine Evl.et_is ?_ hb8
        refine Evl.et_or ?_ fun _ => ?_
        · exact Evl.et_test (Evl.ev_op (ev_lenS (y := [c]) (Evl.ev_var (by rfl)) (by simp)) Evl.ev_c Evl.rv_I0)
        · exact Evl.et_test (ev_ninS (c := c) (z := [97, 98, 99, 100, 101, 102]) (Evl.ev_var (by rfl)) (Evl.ev_is Evl.ev_c (by decide +kernel)))
      have e25 := e24.trans e5
      have h5 := e25 _ _ h1
      have e15 := e1.trans (ExM.of e25)
      refine ⟨rfl, _, rfl, _, _, rfl, rfl, _, rfl, r, dx, cs, _, rfl, h5, hn1, h9, fun i k H6 hk e6 h6 => ?_, fun k hk => bad_from (qE k (by rw [hG]; rw [show sk cs n + [c].length = sk cs n + 1 from rfl] at hk; rw [hk]; rfl)) e15 h5⟩
      rw [find_shop hc]
      exact fin (.inl (.price (c - 97) i)) H6 k _ (by rw [hG]; rw [show sk cs n + [c].length = sk cs n + 1 from rfl] at hk; rw [hk]; rfl) (e15.trans e6) h6 (.cons (.str _) (.cons (.int _) (.cons (.int _) .nil)))
    · have hG : gStart cs n = .bad (sk cs n) := by
        unfold gStart
        rw [if_neg n0, if_neg nl, if_neg nm, if_neg nr, hww]
        exact if_neg hc
      have hb8 : (decide ((1 : Int) < ((([c] : List Nat).length : Nat) : Int)) || !decide (c ∈ [97, 98, 99, 100, 101, 102])) = true := by
        rw [decide_eq_false hc, hlen1]
        rfl
      refine Evl.q_when (b := true) ?_ (fun _ H5 e5 => ?_) (fun hb => nomatch hb)
      · refine Evl.et_is ?_ hb8
        refine Evl.et_or ?_ fun _ => ?_
        · exact Evl.et_test (Evl.ev_op (ev_lenS (y := [c]) (Evl.ev_var (by rfl)) (by simp)) Evl.ev_c Evl.rv_I0)
        · exact Evl.et_test (ev_ninS (c := c) (z := [97, 98, 99, 100, 101, 102]) (Evl.ev_var (by rfl)) (Evl.ev_is Evl.ev_c (by decide +kernel)))
      exact ebad (e24.trans e5) hG
  · have hG : gStart cs n = .bad (sk cs n) := by
      unfold gStart
      rw [if_neg n0, if_neg nl, if_neg nm, if_neg nr, hww]
      match wd, w0, w1 with
      | [], w0, _ => exact absurd rfl w0
      | [c], _, w1 => exact absurd ⟨c, rfl⟩ w1
      | _ :: _ :: _, _, _ => rfl
    have hl2 : 2 ≤ wd.length := by
      match wd, w0, w1 with
      | [], w0, _ => exact absurd rfl w0
      | [c], _, w1 => exact absurd ⟨c, rfl⟩ w1
      | _ :: _ :: _, _, _ => simp
    refine Evl.q_when (b := true) ?_ (fun _ H5 e5 => ?_) (fun hb => nomatch hb)
    · refine Evl.et_is (Evl.et_or (a := true) (b := false) (Evl.et_is (Evl.et_test (Evl.ev_op (ev_lenS (y := wd) (Evl.ev_var (by rfl)) (by omega)) Evl.ev_c Evl.rv_I0)) (decide_eq_true (by omega))) (fun hb => nomatch hb)) rfl
    exact ebad (e24.trans e5) hG
end
end K04

set_option Elab.async false
set_option linter.all false
set_option maxRecDepth 100000
set_option maxHeartbeats 4000000
namespace K04
open PySem PySem.Spec PyProof.Rows L2 DK DD TM TX SX RD RT
theorem enc_node (h : Hd) (ps : List Trm) : enc (.node h ps) = .tuple (hdL h ++ [.tuple (ps.map enc)]) := by
  rw [enc_eq]
  cases h <;> rfl
theorem hdL_len (h : Hd) : 1 ≤ (hdL h).length ∧ (hdL h).length ≤ 2 := by cases h <;> simp [hdL]
abbrev Pl := List (Hd × List Trm)
/-- what follows a term that has been read: the outermost one, or the pile where another part is awaited -/
def gClose (cs : List Nat) : Pl → Trm → Nat → Rr (Trm ⊕ Pl)
  | [], x, n => .ok (.inl x) n
  | (h, ps) :: pl, x, n => match gSign [44, 41] cs n with
    | .bad k => .bad k
    | .ok c k => if c = 44 then .ok (.inr ((h, ps ++ [x]) :: pl)) k else gClose cs pl (.node h (ps ++ [x])) k
theorem gSign_lt {al cs : List Nat} {n c k : Nat} (h : gSign al cs n = .ok c k) : n < k ∧ k ≤ cs.length ∧ c ∈ al := by
  unfold gSign at h
  cases hg : cs[sk cs n]? with
  | none => rw [hg] at h; cases h
  | some d =>
    rw [hg] at h
    have hlt := (List.getElem?_eq_some_iff.mp hg).1
    have := le_sk cs n
    have h' : (if d ∈ al then Rr.ok d (sk cs n + 1) else .bad (sk cs n)) = .ok c k := h
    by_cases hd : d ∈ al
    · rw [if_pos hd] at h'
      cases h'
      exact ⟨by omega, by omega, hd⟩
    · rw [if_neg hd] at h'
      cases h'
theorem bad_fromL {CT : Addr} {E : XK} {k : Nat} {L L1 : List Addr} {H H1 : Hp} (b : badAt CT E k L H) (e : ExM L H H1) (h : ∀ m ∈ L, H1 m ≠ none) (hs : ∀ m ∈ L1, m ∈ L) : badAt CT E k L1 H1 := fun d H' hd eM hdx => b d H' (by
  cases q : H d with
  | none => rfl
  | some o =>
    by_cases hL : d ∈ L
    · exact absurd hd (h d hL)
    · rw [e d o hL q] at hd
      cases hd) (e.trans (fun a o na ho => eM a o (fun z => na (hs a z)) ho)) hdx
/-- the pile of what is not closed -/
inductive PRep (K : PySem.W.Frag) (M : List Addr) (H : Hp) : List V → Pl → List Addr → Prop
  | nil : PRep K M H [] [] []
  | snoc {us : List V} {pl : Pl} {ds : List Addr} {a p : Addr} {hv : V} {h : Hd} {ps : List Trm} {vs : List V} : PRep K M H us pl ds → SqT K (mi H M) a [hv, .ref p] → Dm K M H hv (.tuple (hdL h)) → H p = some (.lst vs) → Dms K M H vs (ps.map enc) → p ∈ M → p ∉ ds → PRep K M H (us ++ [.ref a]) ((h, ps) :: pl) (p :: ds)
section
variable {K : PySem.W.Frag} {M : List Addr} {H H' : Hp}
theorem PRep.frame (e : ExM M H H') : ∀ {us : List V} {pl : Pl} {ds : List Addr}, PRep K M H us pl ds → (∀ p ∈ ds, ∀ o, H p = some o → H' p = some o) → PRep K M H' us pl ds
  | _, _, _, .nil, _ => .nil
  | _, _, _, .snoc r h1 h2 h3 h4 h5 h6, k => .snoc (PRep.frame e r fun p hp => k p (List.mem_cons_of_mem _ hp)) (Evl.ex_t (exM_mi e) h1) (dm_exM e h2) (k _ (by simp) _ h3) (dms_exM e h4) h5 h6
theorem PRep.add {q : Addr} (n : H q = none) : ∀ {us : List V} {pl : Pl} {ds : List Addr}, PRep K M H us pl ds → PRep K (q :: M) H us pl ds
  | _, _, _, .nil => .nil
  | _, _, _, .snoc r h1 h2 h3 h4 h5 h6 => .snoc (PRep.add n r) (Evl.ex_t (ex_add n) h1) (dm_add n h2) h3 (dms_add n h4) (List.mem_cons_of_mem _ h5) h6
theorem PRep.len : ∀ {us : List V} {pl : Pl} {ds : List Addr}, PRep K M H us pl ds → us.length = pl.length
  | _, _, _, .nil => rfl
  | _, _, _, .snoc r _ _ _ _ _ _ => by simp [PRep.len r]
theorem PRep.some : ∀ {us : List V} {pl : Pl} {ds : List Addr}, PRep K M H us pl ds → ∀ p ∈ ds, H p ≠ none ∧ p ∈ M
  | _, _, _, .nil, p, hp => by cases hp
  | _, _, _, .snoc r _ _ h3 _ h5 _, p, hp => by
    rcases List.mem_cons.mp hp with rfl | hp
    · exact ⟨by rw [h3]; exact (fun z => nomatch z), h5⟩
    · exact PRep.some r p hp
end
theorem dom_exs {M L : List Addr} {H H' : Hp} (d : Dom M H) (e : ExM L H H') (h : ∀ m ∈ L, H' m ≠ none) : Dom M H' := fun m hm => by
  by_cases hL : m ∈ L
  · exact h m hL
  · cases q : H m with
    | none => exact absurd q (d m hm)
    | some o =>
      rw [e m o hL q]
      exact fun z => nomatch z
def fit (pl : Pl) (n : Nat) : Prop := pl.length ≤ n ∧ ∀ e ∈ pl, e.2.length ≤ n
theorem atI_last (us : List V) (x : V) : atI (us ++ [x]) (-1) = some x := by
  have e : (us ++ [x]).length = us.length + 1 := by simp
  unfold atI ixN
  rw [e]
  have e2 : (-1 + ((us.length + 1 : Nat) : Int)).toNat = us.length := by omega
  rw [if_neg (by omega), if_pos (by omega), e2]
  simp
theorem atI_zero {α : Type} (x : α) (l : List α) : atI (x :: l) 0 = some x := by
  show atI (x :: l) ((0 : Nat) : Int) = _
  exact atI_nat rfl
def spClose (K : PySem.W.Frag) (C CT : Addr) : Sp := fun vs H Q E => ∃ (M : List Addr) (r u dx : Addr) (v : V) (cs : List Nat) (n : Nat) (us : List V) (pl : Pl) (ds : List Addr) (x : Trm), vs = [.ref r, .ref u, v] ∧ H r = some (rdr C dx cs n) ∧ n ≤ cs.length ∧ cs.length ≤ 90000 ∧ H u = some (.lst us) ∧ Dom M H ∧ r ∈ M ∧ u ∈ M ∧ r ≠ u ∧
  r ∉ ds ∧ u ∉ ds ∧ PRep K M H us pl ds ∧ Dm K M H v (enc x) ∧ fit pl n ∧
  (∀ t k v' H', gClose cs pl x n = .ok (.inl t) k → k ≤ cs.length → ExM (r :: u :: ds) H H' → Dom M H' → H' r = some (rdr C dx cs k) → Dm K M H' v' (enc t) → (∃ a, v' = .ref a) → Q v' H') ∧
  (∀ pl' k H' us' ds', gClose cs pl x n = .ok (.inr pl') k → n < k → k ≤ cs.length → ExM (r :: u :: ds) H H' → Dom M H' → H' r = some (rdr C dx cs k) → H' u = some (.lst us') → PRep K M H' us' pl' ds' → (∀ p ∈ ds', p ∈ ds) → fit pl' k → Q .non H') ∧
  (∀ k, gClose cs pl x n = .bad k → badAt CT E k (r :: u :: ds) H)
section
variable {P : Program} {w : World} {K : PySem.W.Frag} {mg : Str → Option Value} {base : Heap}
abbrev RLeafW : List PyData → PyData → Prop := fun ds r => ∃ x rest, ds = [.tuple (.str x :: rest)] ∧ r = .bool (decide (V.str x = V.str "price") || decide (V.str x = V.str "plain"))
theorem ok_is_leafW (T : Top K mg) : FnOk P w K mg base CX0 1 T.is_leaf.f T.is_leaf.fd ["term"] (spR K RLeafW) := by
  refine T.is_leaf.F.ok sc_is_leaf (fun vs H Q E h => ?_) (fun cdv A outer s H vs Q E hr h => ?_)
  · obtain ⟨M, ds, r, _, hv, ⟨_, _, rfl, _⟩, _⟩ := h
    exact dpa_len hv
  obtain ⟨M, ds, r, hM, hv, ⟨x, rest, rfl, rfl⟩, q⟩ := h
  obtain ⟨v, rfl, hd⟩ := dpa1 hv
  refine ⟨_, (pss_one (ps_ret (pe_or (pe_cmpR op_eq (pe_ix ix_tup (pv 0) pe_int (fun _ _ => rfl)) pe_str (nomark _)) (pe_one (pe_cmpR op_eq (pe_ix ix_tup (pv 0) pe_int (fun _ _ => rfl)) pe_str (nomark _)))))), ?_⟩
  exact Evl.s_ret (Evl.ev_orV (Evl.ev_op (ev_sc (de_ixT (de_v hd (by rfl)) Evl.ev_c (d := .str x) (atI_zero _ _)) rfl) Evl.ev_c (Evl.rv_eq rfl)) (fun _ => Evl.ev_op (ev_sc (de_ixT (de_v hd (by rfl)) Evl.ev_c (d := .str x) (atI_zero _ _)) rfl) Evl.ev_c (Evl.rv_eq rfl))) fun H1 e => q _ H1 e (.bl _)
theorem ok__close (T : Top K mg) : FnOk P w K mg base (CX P w) 4 T._close.f T._close.fd ["reader", "unclosed", "term"] (spClose K T.R.C T.o_InvalidText.C) := by
  refine T._close.F.okX sc__close (fun vs H Q E h => ?_) (fun cdv A outer s H vs Q E hr h => ?_)
  · obtain ⟨_, _, _, _, _, _, _, _, _, _, _, rfl, _⟩ := h
    rfl
  obtain ⟨M, r, u, dx, v, cs, n, us, pl, ds, x, rfl, ho, hn, h9, hu, hM, hrM, huM, hru, hrd, hud, hP, hd, hf, q1, q2, qE⟩ := h
  refine ⟨_, (pss_cons (ps_while (passes_of rfl) (pt_truth (pv 1) (by intro _; rfl)) (pss_cons (ps_asg (pe_ix ix_list (pv 1) (pe_un un_neg pe_int) (fun _ _ => rfl)) (pg_tup rfl (pgs_cons (pg_name (i := 3) sc__close.nd rfl (Or.inl rfl)) (pgs_cons (pg_name (i := 4) sc__close.nd rfl (Or.inl rfl)) pgs_nil))))
      (pss_cons (ps_expr (pe_bm PySem.F.plainAttrs_list PySem.F.slot_list_append PySem.F.type_list_append mt_append (pv 4) (pa_cons (pv 2) pa_nil)))
      (pss_cons (ps_if (pt_cmpR op_eq (pe_meth (pv 0) T.R.cl T.R_sign.m (ok_Reader_sign T) (hr.mono (by omega)) T.R_sign.b .nil (passE (takes_of rfl rfl rfl rfl)) (pa_cons pe_str pa_nil)) pe_str (nomark _)) (pss_one (ps_ret pe_non)) pss_nil)
      (pss_cons (ps_expr (pe_bm0 PySem.F.plainAttrs_list PySem.F.slot_list_pop PySem.F.type_list_pop mt_pop (pv 1)))
      (pss_one (ps_set (i := 2) sc__close.nd rfl (Or.inl rfl) (pe_op op_catA (pv 3) (pe_tup (pa_cons (pe_callTy call_tuple_of (by rfl) T.n_tuple (by decide +kernel) (pa_cons (pv 4) pa_nil)) pa_nil))))))))))
      (pss_one (ps_ret (pv 2)))), ?_⟩
  refine Evl.q_while (fun m σ' H' => ∃ (x3 x4 : Option V) (v' : V) (n' : Nat) (us' : List V) (pl' : Pl) (ds' : List Addr) (x' : Trm), σ' = [some (.ref r), some (.ref u), some v', x3, x4] ∧ Dom M H' ∧ n' ≤ cs.length ∧ n ≤ n' ∧ ExM (r :: u :: ds) H H' ∧ H' r = some (rdr T.R.C dx cs n') ∧ H' u = some (.lst us') ∧
      PRep K M H' us' pl' ds' ∧ (∀ p ∈ ds', p ∈ ds) ∧ Dm K M H' v' (enc x') ∧ gClose cs pl' x' n' = gClose cs pl x n ∧ fit pl' n' ∧ m = pl'.length) pl.length
    ⟨none, none, v, n, us, pl, ds, x, rfl, hM, hn, Nat.le_refl _, ExM.refl _ _, ho, hu, hP, fun p hp => hp, hd, rfl, hf, rfl⟩ (fun m σ' H' hW => ?_)
  obtain ⟨x3, x4, v', n', us', pl', ds', x', rfl, hMd, hn', hnn, eH, ho', hu', hP', hsub, hd', hG', hf', rfl⟩ := hW
  have hLn : ∀ {Hz : Hp}, Dom M Hz → (∀ p ∈ ds, Hz p ≠ none) → ∀ m ∈ (r :: u :: ds), Hz m ≠ none := fun hz hp m hm => by
    rcases List.mem_cons.mp hm with rfl | hm
    · exact hz _ hrM
    · rcases List.mem_cons.mp hm with rfl | hm
      · exact hz _ huM
      · exact hp m hm
  have hdsM : ∀ p ∈ ds, p ∈ M := fun p hp => (hP.some p hp).2
  have hrd' : r ∉ ds' := fun z => hrd (hsub _ z)
  have hud' : u ∉ ds' := fun z => hud (hsub _ z)
  refine ⟨_, et_truL (Evl.ev_var rfl) (Evl.sq_of hu'), fun hb H1 e1 => ?_, fun hb H1 e1 => ?_⟩
  · -- a turn
    cases hP' with
    | nil => cases hb
    | @snoc us2 pl2 ds2 a p hv hh ps vs hP2 hsq hhv hp hvs hpM hpd =>
    have hM1 : Dom M H1 := hMd.ex e1
    have hu1 := e1 _ _ hu'
    have ho1 := e1 _ _ ho'
    have hp1 := e1 _ _ hp
    have hsq1 := Evl.ex_t (ex_mi e1) hsq
    have hpr : p ≠ r := fun z => hrd' (by rw [z]; simp)
    have hpu : p ≠ u := fun z => hud' (by rw [z]; simp)
    refine ⟨fun σ2 H2 => ∃ m', m' < ((hh, ps) :: pl2).length ∧ _, fun σ2 H2 z => z, ?_⟩
    refine ⟨_, rfl, 1, rfl, u, _, -1, .ref a, rfl, rfl, Evl.sq_of hu1, atI_last _ _, ?_⟩
    refine ⟨a, _, rfl, Evl.ex_t (ex_full _ _) hsq1, rfl, hv, [.ref p], rfl, .ref p, [], rfl, rfl, ?_⟩
    -- parts.append(term)
    refine ⟨.ref p, rfl, .inl ⟨rfl, _, Evl.sq_of hp1⟩, v', rfl, p, vs, v', rfl, rfl, hp1, ?_, ?_⟩
    · have h7 := (hf'.2 (hh, ps) (by simp))
      have h8 := dpa_len hvs
      rw [List.length_map] at h8
      exact Evl.sz_lt (by simp only at h7; omega)
    have eM2 : ExM [p] H1 (upd H1 p (.lst (vs ++ [v']))) := ExM.mut (by simp)
    have hp2 : upd H1 p (.lst (vs ++ [v'])) p = some (.lst (vs ++ [v'])) := upd_same
    generalize upd H1 p (.lst (vs ++ [v'])) = H2 at eM2 hp2
    have ho2 := eM2 r _ (by simp [Ne.symm hpr]) ho1
    have hu2 := eM2 u _ (by simp [Ne.symm hpu]) hu1
    have hpds : p ∈ ds := hsub p (by simp)
    have eMM : ExM M H' H2 := (ExM.of e1).trans (eM2.sub (fun m hm => by rw [List.mem_singleton.mp hm]; exact hpM))
    have eHH : ExM (r :: u :: ds) H H2 := (eH.trans (ExM.of e1)).trans (eM2.sub (fun m hm => by rw [List.mem_singleton.mp hm]; simp [hpds]))
    have hM2 : Dom M H2 := dom_exs hM1 eM2 (fun m hm => by rw [List.mem_singleton.mp hm, hp2]; exact (fun z => nomatch z))
    have hv2 := dms_exM eMM hvs
    have hx2 := dm_exM eMM hd'
    have hvx : Dms K M H2 (vs ++ [v']) ((ps ++ [x']).map enc) := by
      rw [List.map_append]
      exact dpa_app hv2 (.cons hx2 .nil)
    have keep2 : ∀ q ∈ ds2, ∀ o, H' q = some o → H2 q = some o := fun q hq o ho => eM2 q o (by
      rw [List.mem_singleton]
      exact fun z => hpd (by rw [← z]; exact hq)) (e1 q o ho)
    have hcl : (Str.ofString ",)") = S [44, 41] := by decide +kernel
    have hp1l : ps.length ≤ n' := hf'.2 (hh, ps) (by simp)
    have hpl1 : pl2.length + 1 ≤ n' := hf'.1
    have hL2 : ∀ m ∈ (r :: u :: ds), H2 m ≠ none := hLn hM2 (fun p hp => hM2 p (hdsM p hp))
    refine ⟨_, rfl, r, dx, _, rfl, ho2, lk_no cs n' (by decide +kernel) (by decide +kernel), r, dx, cs, [44, 41], n', by rw [hcl]; rfl, ho2, hn', h9, fun c k H3 hk e3 h3 => ⟨rfl, _, rfl, ?_⟩, fun k hk => bad_fromL (qE k (by rw [← hG']; simp only [gClose]; rw [hk])) eHH hL2 (fun m hm => by rw [List.mem_singleton.mp hm]; simp)⟩
    obtain ⟨k1, k2, k3⟩ := gSign_lt hk
    have h44 : decide (V.str (S [c]) = V.str (Str.ofString ",")) = decide (c = 44) := decide_eq_decide.mpr ((S_cong (b := [44]) (by decide +kernel)).trans (by simp))
    rw [h44]
    dsimp only
    by_cases hc : c = 44
    · rw [if_pos (decide_eq_true hc)]
      have e3M : ExM M H2 H3 := e3.sub (fun m hm => by rw [List.mem_singleton.mp hm]; exact hrM)
      refine q2 ((hh, ps ++ [x']) :: pl2) k H3 (us2 ++ [.ref a]) (p :: ds2) (by rw [← hG']; simp only [gClose]; rw [hk]; exact if_pos hc) (by omega) k2 (eHH.trans (e3.sub (fun m hm => by rw [List.mem_singleton.mp hm]; simp))) (dom_exs hM2 e3 (fun m hm => by rw [List.mem_singleton.mp hm, h3]; exact (fun z => nomatch z))) h3 (e3 u _ (by simp [Ne.symm hru]) hu2)
        (.snoc (hP2.frame (eMM.trans e3M) (fun q hq o ho => e3 q o (by rw [List.mem_singleton]; exact fun z => hrd' (by rw [← z]; exact List.mem_cons_of_mem _ hq)) (keep2 q hq o ho))) (Evl.ex_t (exM_mi (eMM.trans e3M)) hsq) (dm_exM (eMM.trans e3M) hhv) (e3 p _ (by simp [hpr]) hp2) (dms_exM e3M hvx) hpM hpd)
        hsub ⟨?_, ?_⟩
      · simp only [List.length_cons]
        omega
      · intro e he
        rcases List.mem_cons.mp he with rfl | he
        · simp only [List.length_append, List.length_cons, List.length_nil]
          omega
        · have := hf'.2 e (List.mem_cons_of_mem _ he)
          omega
    · rw [if_neg (by simp [hc])]
      have hG2 : gClose cs pl2 (.node hh (ps ++ [x'])) k = gClose cs pl x n := by
        rw [← hG']
        simp only [gClose]
        rw [hk]
        exact (if_neg hc).symm
      have e3M : ExM M H2 H3 := e3.sub (fun m hm => by rw [List.mem_singleton.mp hm]; exact hrM)
      have hu3 := e3 u _ (by simp [Ne.symm hru]) hu2
      have hp3 := e3 p _ (by simp [hpr]) hp2
      have keep3 : ∀ q ∈ ds2, ∀ o, H' q = some o → H3 q = some o := fun q hq o ho => e3 q o (by rw [List.mem_singleton]; exact fun z => hrd' (by rw [← z]; exact List.mem_cons_of_mem _ hq)) (keep2 q hq o ho)
      have eH3 : ExM (r :: u :: ds) H H3 := eHH.trans (e3.sub (fun m hm => by rw [List.mem_singleton.mp hm]; simp))
      have eM3 : ExM M H' H3 := eMM.trans e3M
      have hM3 : Dom M H3 := dom_exs hM2 e3 (fun m hm => by rw [List.mem_singleton.mp hm, h3]; exact (fun z => nomatch z))
      have hvx3 := dms_exM e3M hvx
      -- unclosed.pop()
      refine ⟨.ref u, rfl, .inl ⟨rfl, _, Evl.sq_of hu3⟩, u, _, .ref a, rfl, rfl, hu3, by simp, ?_⟩
      rw [List.dropLast_concat]
      have e4 : ExM [u] H3 (upd H3 u (.lst us2)) := ExM.mut (by simp)
      have hu4 : upd H3 u (.lst us2) u = some (.lst us2) := upd_same
      generalize upd H3 u (.lst us2) = H4 at e4 hu4
      have h4 := e4 r _ (by simp [hru]) h3
      have hp4 := e4 p _ (by simp [hpu]) hp3
      have keep4 : ∀ q ∈ ds2, ∀ o, H' q = some o → H4 q = some o := fun q hq o ho => e4 q o (by rw [List.mem_singleton]; exact fun z => hud' (by rw [← z]; exact List.mem_cons_of_mem _ hq)) (keep3 q hq o ho)
      have e4M : ExM M H3 H4 := e4.sub (fun m hm => by rw [List.mem_singleton.mp hm]; exact huM)
      have hM4 : Dom M H4 := dom_exs hM3 e4 (fun m hm => by rw [List.mem_singleton.mp hm, hu4]; exact (fun z => nomatch z))
      have eH4 : ExM (r :: u :: ds) H H4 := eH3.trans (e4.sub (fun m hm => by rw [List.mem_singleton.mp hm]; simp))
      have hvx4 := dms_exM e4M hvx3
      have hhv4 := dm_exM (eM3.trans e4M) hhv
      have eM4 := eM3.trans e4M
      -- term = start + (tuple(parts),)
      obtain ⟨b, xs, rfl, hbs, hbx⟩ : ∃ b xs, hv = .ref b ∧ SqT K (mi H4 M) b xs ∧ Dms K M H4 xs (hdL hh) := by
        cases hhv4 with
        | tup hs hv => exact ⟨_, _, rfl, hs, hv⟩
      have xl := dpa_len hbx
      have hl12 := hdL_len hh
      have hxs0 : xs ≠ [] := fun z => by
        rw [z] at xl
        simp only [List.length_nil] at xl
        omega
      refine ⟨.ref b, rfl, .ref p, rfl, p, vs ++ [v'], rfl, .inl ⟨Evl.sq_of hp4, fun l hl => ⟨Evl.sz_of (by simp), fun q hq => ?_⟩⟩⟩
      have e5 : Evl.Ex H4 (upd H4 l (.tup (vs ++ [v']))) := Evl.Ex.new hl
      have hl5 : upd H4 l (.tup (vs ++ [v'])) l = some (.tup (vs ++ [v'])) := upd_same
      have hlM := hM4.nin hl
      generalize upd H4 l (.tup (vs ++ [v'])) = H5 at e5 hl5 hq
      have e6 : Evl.Ex H5 (upd H5 q (.tup [.ref l])) := Evl.Ex.new hq
      have hq6 : upd H5 q (.tup [.ref l]) q = some (.tup [.ref l]) := upd_same
      generalize upd H5 q (.tup [.ref l]) = H6 at e6 hq6
      have e46 := e5.trans e6
      refine ⟨b, q, xs, [.ref l], rfl, rfl, Evl.ex_t (ex_full _ _) (Evl.ex_t (ex_mi e46) hbs), Evl.st_of hq6, Evl.sz_of (by simp only [List.length_cons, List.length_nil]; omega), fun z => absurd z hxs0, (fun _ z => nomatch z), fun _ _ z hz => ?_⟩
      have e7 : Evl.Ex H6 (upd H6 z (.tup (xs ++ [.ref l]))) := Evl.Ex.new hz
      have hz7 : upd H6 z (.tup (xs ++ [.ref l])) z = some (.tup (xs ++ [.ref l])) := upd_same
      have hzM : z ∉ M := (hM4.ex e46).nin hz
      generalize upd H6 z (.tup (xs ++ [.ref l])) = H7 at e7 hz7
      have e47 := e46.trans e7
      have hnew : Dm K M H7 (.ref z) (enc (.node hh (ps ++ [x']))) := by
        rw [enc_node]
        exact .tup (Evl.st_of (mi_of hzM hz7)) (dpa_app (dms_ex e47 hbx) (.cons (.tup (Evl.st_of (mi_of hlM ((e6.trans e7) _ _ hl5))) (dms_ex e47 hvx4)) .nil))
      refine ⟨pl2.length, by simp, _, _, .ref z, k, us2, pl2, ds2, _, rfl, hM4.ex e47, k2, by omega, eH4.trans (ExM.of e47), e47 _ _ h4, e47 _ _ hu4, hP2.frame (eM4.trans (ExM.of e47)) (fun q hq o ho => e47 _ _ (keep4 q hq o ho)), fun q hq => hsub q (List.mem_cons_of_mem _ hq), hnew, hG2, ⟨by omega, fun e he => by have := hf'.2 e (List.mem_cons_of_mem _ he); omega⟩, rfl⟩
  · -- the end
    cases hP' with
    | snoc => simp at hb
    | nil =>
        refine Evl.s_ret (Evl.ev_var rfl) fun H2 e2 => ?_
        have e2' := e1.trans e2
        refine q1 x' n' v' H2 (by rw [← hG']; rfl) hn' (eH.trans (ExM.of e2')) (hMd.ex e2') (e2' _ _ ho') (dm_ex e2' hd') ?_
        have hd9 : Dm K M H' v' (.tuple (encL x')) := by
          rw [← enc_eq]
          exact hd'
        cases hd9 with
        | tup hs hv => exact ⟨_, rfl⟩
end
end K04

set_option Elab.async false
set_option linter.all false
set_option maxRecDepth 100000
set_option maxHeartbeats 4000000
namespace K04
open PySem PySem.Spec PyProof.Rows L2 DK DD TM TX SX RD RT
theorem cutG_le (ds : List Nat) (h : ds ≠ []) : 1 ≤ (cutG ds).length ∧ (cutG ds).length ≤ ds.length := by
  cases ds with
  | nil => exact absurd rfl h
  | cons c dr =>
    unfold cutG
    split
    · simp
    · rw [List.length_take]
      simp only [List.length_cons]
      omega
theorem gNum_le {cs : List Nat} {n m k : Nat} (hn : n ≤ cs.length) (h : gNum cs n = .ok m k) : n < k ∧ k ≤ cs.length := by
  unfold gNum at h
  dsimp only at h
  split at h
  · cases h
  · rename_i h0
    have hc := cutG_le _ h0
    have hl : ((cs.drop (sk cs n)).take (runL digs (cs.drop (sk cs n)))).length ≤ cs.length - sk cs n := by
      rw [List.length_take, List.length_drop]
      omega
    have := le_sk cs n
    have := sk_le hn
    cases h
    omega
theorem map_ok {α β : Type} {f : α → β} {r : Rr α} {b : β} {k : Nat} (h : r.map f = .ok b k) : ∃ a, r = .ok a k ∧ f a = b := by
  cases r with
  | ok a n =>
    simp only [Rr.map] at h
    cases h
    exact ⟨a, rfl, rfl⟩
  | bad n =>
    simp only [Rr.map] at h
    cases h
theorem gPlain_le {cs : List Nat} {n k : Nat} {i : Int} (hn : n ≤ cs.length) (h : gPlain cs n = .ok i k) : n < k ∧ k ≤ cs.length := by
  have h1 := le_sk cs n
  have h2 := sk_le hn
  unfold gPlain at h
  split at h
  · rename_i hs
    have hlt := (List.getElem?_eq_some_iff.mp hs).1
    obtain ⟨m, hm, _⟩ := map_ok h
    have := gNum_le (by omega) hm
    omega
  · obtain ⟨m, hm, _⟩ := map_ok h
    have := gNum_le (by omega) hm
    omega
theorem gAdd_le {cs : List Nat} {n k : Nat} {i : Int} (hn : n ≤ cs.length) (h : gAdd cs n = .ok i k) : n ≤ k ∧ k ≤ cs.length := by
  have h1 := le_sk cs n
  have h2 := sk_le hn
  unfold gAdd at h
  split at h
  · rename_i hs
    have hlt := (List.getElem?_eq_some_iff.mp hs).1
    obtain ⟨m, hm, _⟩ := map_ok h
    have := gNum_le (by omega) hm
    omega
  · split at h
    · rename_i hs
      have hlt := (List.getElem?_eq_some_iff.mp hs).1
      obtain ⟨m, hm, _⟩ := map_ok h
      have := gNum_le (by omega) hm
      omega
    · cases h
      omega
theorem gWord_le {cs : List Nat} {n : Nat} (hn : n ≤ cs.length) : sk cs n + (gWord cs n).length ≤ cs.length := by
  have h2 := sk_le hn
  have : (gWord cs n).length ≤ cs.length - sk cs n := by
    unfold gWord
    rw [List.length_take, List.length_drop]
    omega
  omega
theorem gStart_le {cs : List Nat} {n k : Nat} {a : Trm ⊕ Hd} (hn : n ≤ cs.length) (h : gStart cs n = .ok a k) : n < k ∧ k ≤ cs.length := by
  have h1 := le_sk cs n
  have h2 := sk_le hn
  have h3 := gWord_le hn
  unfold gStart at h
  split at h
  · obtain ⟨i, hi, _⟩ := map_ok h
    have := gPlain_le h2 hi
    omega
  · split at h
    · rename_i hw
      rw [hw] at h3
      cases h
      simp only [List.length_cons, List.length_nil] at h3
      omega
    · split at h
      · rename_i hw
        rw [hw] at h3
        cases h
        simp only [List.length_cons, List.length_nil] at h3
        omega
      · split at h
        · rename_i hw
          rw [hw] at h3
          simp only [List.length_cons, List.length_nil] at h3
          obtain ⟨i, hi, _⟩ := map_ok h
          have := gNum_le (by omega) hi
          omega
        · split at h
          · rename_i c hw
            rw [hw] at h3
            simp only [List.length_cons, List.length_nil] at h3
            split at h
            · obtain ⟨i, hi, _⟩ := map_ok h
              have := gAdd_le (by omega) hi
              omega
            · cases h
          · cases h
/-- the whole: a term is awaited over the pile, at n; fuel f -/
def gLoop (cs : List Nat) : Nat → Pl → Nat → Rr Trm
  | 0, _, n => .bad n
  | f + 1, pl, n => match gStart cs n with
    | .bad k => .bad k
    | .ok (.inl u) k => (match gClose cs pl u k with
      | .bad j => .bad j
      | .ok (.inl t) j => .ok t j
      | .ok (.inr pl') j => gLoop cs f pl' j)
    | .ok (.inr h) k => (match gSign [40] cs k with
      | .bad j => .bad j
      | .ok _ j => gLoop cs f ((h, []) :: pl) j)
end K04

set_option Elab.async false
set_option linter.all false
set_option maxRecDepth 100000
set_option maxHeartbeats 4000000
namespace K04
open PySem PySem.Spec PyProof.Rows L2 DK DD TM TX SX RD RT
def spWhole (K : PySem.W.Frag) (C CT : Addr) : Sp := fun vs H Q E => ∃ (M : List Addr) (r dx : Addr) (cs : List Nat) (n : Nat), vs = [.ref r] ∧ H r = some (rdr C dx cs n) ∧ n ≤ cs.length ∧ cs.length ≤ 90000 ∧ Dom M H ∧ r ∈ M ∧
  (∀ t k v H', gLoop cs (cs.length + 1) [] n = .ok t k → k ≤ cs.length → ExM [r] H H' → H' r = some (rdr C dx cs k) → Dm K M H' v (enc t) → Q v H') ∧
  (∀ k, gLoop cs (cs.length + 1) [] n = .bad k → badAt CT E k [r] H)
theorem exM_new {r : Addr} {L : List Addr} {H H3 H4 : Hp} (a : ExM [r] H H3) (b : ExM L H3 H4) (h : ∀ m ∈ L, m = r ∨ H m = none) : ExM [r] H H4 := fun x o nx hx => b x o (fun hL => (h x hL).elim (fun z => nx (by simp [z])) (fun z => by rw [z] at hx; cases hx)) (a x o nx hx)
theorem bad_new {CT r : Addr} {E : XK} {k : Nat} {L : List Addr} {H H5 : Hp} {o : HO} (b : badAt CT E k [r] H) (e : ExM [r] H H5) (hr : H5 r = some o) (h : ∀ m ∈ L, m = r ∨ H m = none) : badAt CT E k L H5 := fun d H' hd eM hdx => b d H' (fresh_exM e hr hd).1 (exM_new e eM h) hdx
theorem gStart_leaf {cs : List Nat} {n k : Nat} {u : Trm} (h : gStart cs n = .ok (.inl u) k) : TM.leaf u = true := by
  unfold gStart at h
  split at h
  · obtain ⟨i, _, e⟩ := map_ok h
    cases e
    rfl
  · split at h
    · cases h
    · split at h
      · cases h
      · split at h
        · obtain ⟨i, _, e⟩ := map_ok h
          cases e
        · split at h
          · split at h
            · obtain ⟨i, _, e⟩ := map_ok h
              cases e
              rfl
            · cases h
          · cases h
theorem encL_cons (t : Trm) : ∃ rest, encL t = .str (word t) :: rest := by
  match t with
  | .price s a => exact ⟨_, rfl⟩
  | .plain n => exact ⟨_, rfl⟩
  | .node .least ps => exact ⟨_, rfl⟩
  | .node .most ps => exact ⟨_, rfl⟩
  | .node (.rank k) ps => exact ⟨_, rfl⟩
theorem hdL_cons (h : Hd) : ∃ x rest, hdL h = .str x :: rest ∧ (decide (V.str x = V.str "price") || decide (V.str x = V.str "plain")) = false := by
  cases h with
  | least => exact ⟨"least", [], rfl, by decide +kernel⟩
  | most => exact ⟨"most", [], rfl, by decide +kernel⟩
  | rank k => exact ⟨"rank", _, rfl, by decide +kernel⟩
theorem dpBool {K : PySem.W.Frag} {H : Hp} {v : V} {b : Bool} (h : Dp K H v (.bool b)) : v = .bl b := by cases h; rfl
section
variable {P : Program} {w : World} {K : PySem.W.Frag} {mg : Str → Option Value} {base : Heap}
theorem ok__read_whole (T : Top K mg) : FnOk P w K mg base (CX P w) 6 T._read_whole.f T._read_whole.fd ["reader"] (spWhole K T.R.C T.o_InvalidText.C) := by
  refine T._read_whole.F.okX sc__read_whole (fun vs H Q E h => ?_) (fun cdv A outer s H vs Q E hr h => ?_)
  · obtain ⟨_, _, _, _, _, rfl, _⟩ := h
    rfl
  obtain ⟨M, r, dx, cs, n, rfl, ho, hn, h9, hM, hrM, q, qE⟩ := h
  refine ⟨_, (pss_cons (ps_set (i := 1) sc__read_whole.nd rfl (Or.inl rfl) (pe_lst pa_nil))
      (pss_cons (ps_set (i := 2) sc__read_whole.nd rfl (Or.inl rfl) pe_non)
      (pss_cons (ps_while (passes_of rfl) (pt_cmpR op_isN (pv 2) pe_non (nomark _)) (pss_cons (ps_set (i := 3) sc__read_whole.nd rfl (Or.inl rfl) (pe_call (ok__read_start T) (hr.mono (by omega)) (by rfl) T._read_start.g T._read_start.F.kp T._read_start.b .nil (passE (takes_of rfl rfl rfl rfl)) (pa_cons (pv 0) pa_nil)))
      (pss_one (ps_if (pt_val (pe_call (ok_is_leafW T) (hr.mono (by omega)) (by rfl) T.is_leaf.g T.is_leaf.F.kp T.is_leaf.b .nil pass0 (pa_cons (pv 3) pa_nil))) (pss_one (ps_set (i := 2) sc__read_whole.nd rfl (Or.inl rfl) (pe_call (ok__close T) (hr.mono (by omega)) (by rfl) T._close.g T._close.F.kp T._close.b .nil (passE (takes_of rfl rfl rfl rfl)) (pa_cons (pv 0) (pa_cons (pv 1) (pa_cons (pv 3) pa_nil)))))) (pss_cons (ps_expr (pe_meth (pv 0) T.R.cl T.R_sign.m (ok_Reader_sign T) (hr.mono (by omega)) T.R_sign.b .nil (passE (takes_of rfl rfl rfl rfl)) (pa_cons pe_str pa_nil)))
      (pss_one (ps_expr (pe_bm PySem.F.plainAttrs_list PySem.F.slot_list_append PySem.F.type_list_append mt_append (pv 1) (pa_cons (pe_tup (pa_cons (pv 3) (pa_cons (pe_lst pa_nil) pa_nil))) pa_nil)))))))))
      (pss_one (ps_ret (pv 2)))))), ?_⟩
  refine q_asgDL (K := K) (M := M) (dl_lst da_nil (by simp)) fun u vs0 H1 n1 e1 h1 d1 => ?_
  obtain rfl : vs0 = [] := by cases d1; rfl
  refine Evl.q_asg Evl.ev_c fun H2 e2 => ?_
  have hru : r ≠ u := fun z => by
    rw [← z, ho] at n1
    cases n1
  have hM2 : Dom (u :: M) H2 := (hM.ex (e1.trans e2)).cons (by rw [e2 _ _ h1]; exact (fun z => nomatch z))
  refine Evl.q_while (fun m σ' H' => ∃ (x3 : Option V) (n' : Nat) (MM : List Addr), n' ≤ cs.length ∧ ExM [r] H H' ∧ H' r = some (rdr T.R.C dx cs n') ∧ Dom MM H' ∧ (∀ m ∈ M, m ∈ MM) ∧ u ∈ MM ∧
      ((∃ us pl ds f, σ' = [some (.ref r), some (.ref u), some .non, x3] ∧ H' u = some (.lst us) ∧ PRep K MM H' us pl ds ∧ r ∉ ds ∧ u ∉ ds ∧ (∀ p ∈ ds, H p = none) ∧ fit pl n' ∧ cs.length < n' + f ∧ gLoop cs f pl n' = gLoop cs (cs.length + 1) [] n ∧ m = f + 1) ∨
       (∃ v t, σ' = [some (.ref r), some (.ref u), some v, x3] ∧ v ≠ .non ∧ gLoop cs (cs.length + 1) [] n = .ok t n' ∧ Dm K MM H' v (enc t) ∧ m = 0))) (cs.length + 1 + 1)
    ⟨none, n, u :: M, hn, ExM.of (e1.trans e2), (e1.trans e2) _ _ ho, hM2, fun m hm => List.mem_cons_of_mem _ hm, by simp, .inl ⟨[], [], [], cs.length + 1, rfl, e2 _ _ h1, .nil, by simp, by simp, by simp, ⟨by simp, by simp⟩, by omega, rfl, rfl⟩⟩ (fun m σ' H' hW => ?_)
  obtain ⟨x3, n', MM, hn', eH, ho', hMM, hsM, huMM, hcase⟩ := hW
  have hrMM := hsM r hrM
  rcases hcase with ⟨us, pl, ds, f0, rfl, hu', hPR, hrd, hud, hdn, hfit, hfuel, hGL, rfl⟩ | ⟨v, t, rfl, hv, hGL, hdv, rfl⟩
  · refine ⟨true, Evl.et_is (Evl.et_test (Evl.ev_op (Evl.ev_var rfl) Evl.ev_c (fun H1 _ Q q => ⟨rfl, q H1 (Evl.Ex.refl _)⟩))) (by decide), fun _ H3 e3 => ?_, fun hb => nomatch hb⟩
    refine ⟨fun σ2 H2 => ∃ m', m' < f0 + 1 ∧ _, fun σ2 H2 z => z, ?_⟩
    have ho3 := e3 _ _ ho'
    have hu3 := e3 _ _ hu'
    have hM3 := hMM.ex e3
    have hP3 := hPR.frame (ExM.of e3) (fun p _ o ho => e3 _ _ ho)
    obtain ⟨f, rfl⟩ : ∃ f, f0 = f + 1 := by
      cases f0 with
      | zero => omega
      | succ f => exact ⟨f, rfl⟩
    refine ⟨_, rfl, MM, r, dx, cs, n', rfl, ho3, hn', h9, hM3, hrMM, fun a n4 v H4 hg e4 h4 hd4 => ?_, fun k hk => bad_from (qE k (by rw [← hGL]; simp only [gLoop]; rw [hk])) (eH.trans (ExM.of e3)) ho3⟩
    obtain ⟨hlt4, hn4⟩ := gStart_le hn' hg
    cases a with
    | inl u0 =>
      have hM4 : Dom MM H4 := dom_exs hM3 e4 (fun m hm => by rw [List.mem_singleton.mp hm, h4]; exact (fun z => nomatch z))
      have hu4 := e4 u _ (by simp [Ne.symm hru]) hu3
      have hP4 := hP3.frame (e4.sub (fun m hm => by rw [List.mem_singleton.mp hm]; exact hrMM)) (fun p hp o ho => e4 p o (by rw [List.mem_singleton]; exact fun z => hrd (by rw [← z]; exact hp)) ho)
      have hlf : TM.leaf u0 = true := gStart_leaf hg
      obtain ⟨rest, hrest⟩ := encL_cons u0
      have hd4 : Dm K MM H4 v (.tuple (encL u0)) := hd4
      have hd4' := hd4
      rw [hrest] at hd4'
      refine ⟨_, rfl, MM, _, _, hM4, .cons hd4' .nil, ⟨word u0, rest, rfl, rfl⟩, fun v5 H5 e5 hd5 => ?_⟩
      obtain rfl := dpBool hd5
      rw [← leaf_word, hlf]
      refine ⟨true, rfl, ?_⟩
      dsimp only
      rw [if_pos rfl]
      have hfr : ∀ m ∈ (r :: u :: ds), m = r ∨ H m = none := fun m hm => by
        rcases List.mem_cons.mp hm with rfl | hm
        · exact .inl rfl
        · rcases List.mem_cons.mp hm with rfl | hm
          · exact .inr n1
          · exact .inr (hdn m hm)
      have eH5 : ExM [r] H H5 := ((eH.trans (ExM.of e3)).trans e4).trans (ExM.of e5)
      refine ⟨_, rfl, _, rfl, _, rfl, MM, r, u, dx, v, cs, n4, us, pl, ds, u0, rfl, e5 _ _ h4, hn4, h9, e5 _ _ hu4, hM4.ex e5, hrMM, huMM, hru, hrd, hud, hP4.frame (ExM.of e5) (fun p _ o ho => e5 _ _ ho), ?_, ⟨by have := hfit.1; omega, fun e he => by have := hfit.2 e he; omega⟩, fun t k v6 H6 hg6 hk6 e6 hM6 h6 hd6 ha => ?_, fun pl6 k H6 us6 ds6 hg6 hk6 hk7 e6 hM6 h6 hu6 hP6 hs6 hfit6 => ?_, fun k hk => bad_new (qE k (by rw [← hGL]; simp only [gLoop]; rw [hg]; simp only []; rw [hk])) eH5 (e5 _ _ h4) hfr⟩
      · rw [enc_eq]
        exact dm_ex e5 hd4
      · obtain ⟨a, rfl⟩ := ha
        exact ⟨0, by omega, _, k, MM, hk6, exM_new eH5 e6 hfr, h6, hM6, hsM, huMM, .inr ⟨_, t, rfl, (fun z => nomatch z), by rw [← hGL]; simp only [gLoop]; rw [hg]; simp only []; rw [hg6], hd6, rfl⟩⟩
      · exact ⟨f + 1, by omega, _, k, MM, hk7, exM_new eH5 e6 hfr, h6, hM6, hsM, huMM, .inl ⟨us6, pl6, ds6, f, rfl, hu6, hP6, fun z => hrd (hs6 _ z), fun z => hud (hs6 _ z), fun p hp => hdn p (hs6 p hp), hfit6, by omega, by rw [← hGL]; simp only [gLoop]; rw [hg]; simp only []; rw [hg6], rfl⟩⟩
    | inr hh =>
      have hd4 : Dm K MM H4 v (.tuple (hdL hh)) := hd4
      have hM4 : Dom MM H4 := dom_exs hM3 e4 (fun m hm => by rw [List.mem_singleton.mp hm, h4]; exact (fun z => nomatch z))
      have hu4 := e4 u _ (by simp [Ne.symm hru]) hu3
      have hP4 := hP3.frame (e4.sub (fun m hm => by rw [List.mem_singleton.mp hm]; exact hrMM)) (fun p hp o ho => e4 p o (by rw [List.mem_singleton]; exact fun z => hrd (by rw [← z]; exact hp)) ho)
      obtain ⟨x, rest, hrest, hxb⟩ := hdL_cons hh
      have hd4' := hd4
      rw [hrest] at hd4'
      refine ⟨_, rfl, MM, _, _, hM4, .cons hd4' .nil, ⟨x, rest, rfl, rfl⟩, fun v5 H5 e5 hd5 => ?_⟩
      obtain rfl := dpBool hd5
      rw [hxb]
      refine ⟨false, rfl, ?_⟩
      dsimp only
      rw [if_neg (by decide)]
      have h5 := e5 _ _ h4
      -- reader.sign("(")
      have eH5 : ExM [r] H H5 := ((eH.trans (ExM.of e3)).trans e4).trans (ExM.of e5)
      refine ⟨_, rfl, r, dx, _, rfl, h5, lk_no cs n4 (by decide +kernel) (by decide +kernel), r, dx, cs, [40], n4, by rw [show (Str.ofString "(") = S [40] by decide +kernel]; rfl, h5, hn4, h9, fun c n6 H6 hg6 e6 h6 => ?_, fun k hk => bad_new (qE k (by rw [← hGL]; simp only [gLoop]; rw [hg]; simp only []; rw [hk])) eH5 h5 (fun m hm => .inl (List.mem_singleton.mp hm))⟩
      obtain ⟨l6, hn6, _⟩ := gSign_lt hg6
      have hM5 := hM4.ex e5
      have hM6 : Dom MM H6 := dom_exs hM5 e6 (fun m hm => by rw [List.mem_singleton.mp hm, h6]; exact (fun z => nomatch z))
      have hu6 := e6 u _ (by simp [Ne.symm hru]) (e5 _ _ hu4)
      have e6M : ExM MM H5 H6 := e6.sub (fun m hm => by rw [List.mem_singleton.mp hm]; exact hrMM)
      have hP6 := (hP4.frame (ExM.of e5) (fun p _ o ho => e5 _ _ ho)).frame e6M (fun p hp o ho => e6 p o (by rw [List.mem_singleton]; exact fun z => hrd (by rw [← z]; exact hp)) ho)
      have hd6 := dm_exM e6M (dm_ex e5 hd4)
      have eH6 : ExM [r] H H6 := (((eH.trans (ExM.of e3)).trans e4).trans (ExM.of e5)).trans e6
      -- unclosed.append((start, []))
      refine ⟨.ref u, rfl, .inl ⟨rfl, _, Evl.sq_of hu6⟩, v, rfl, Evl.sz_of (by simp), fun p hp => ⟨Evl.sz_of (by simp), fun a ha => ?_⟩⟩
      have hpMM := hM6.nin hp
      obtain ⟨hpH, hpr⟩ := fresh_exM eH6 h6 hp
      have hpds : p ∉ ds := fun z => (hP6.some p z).1 hp
      have hpu : p ≠ u := fun z => by
        rw [z, hu6] at hp
        cases hp
      have hdp := dm_add hp hd6
      have hPp := hP6.add hp
      have e7 : Evl.Ex H6 (upd H6 p (.lst [])) := Evl.Ex.new hp
      have hp7 : upd H6 p (.lst []) p = some (.lst []) := upd_same
      generalize upd H6 p (.lst []) = H7 at e7 hp7 ha
      have hM7 : Dom (p :: MM) H7 := (hM6.ex e7).cons (by rw [hp7]; exact (fun z => nomatch z))
      have e8 : Evl.Ex H7 (upd H7 a (.tup [v, .ref p])) := Evl.Ex.new ha
      have ha8 : upd H7 a (.tup [v, .ref p]) a = some (.tup [v, .ref p]) := upd_same
      have haM := hM7.nin ha
      generalize upd H7 a (.tup [v, .ref p]) = H8 at e8 ha8
      have e68 := e7.trans e8
      have hul : us.length ≤ 90000 := by
        have := hP6.len
        have := hfit.1
        omega
      refine ⟨u, us, .ref a, rfl, rfl, e68 _ _ hu6, Evl.sz_lt (by omega), ?_⟩
      have e9 : ExM [u] H8 (upd H8 u (.lst (us ++ [.ref a]))) := ExM.mut (by simp)
      have hu9 : upd H8 u (.lst (us ++ [.ref a])) u = some (.lst (us ++ [.ref a])) := upd_same
      generalize upd H8 u (.lst (us ++ [.ref a])) = H9 at e9 hu9
      have e9M : ExM (p :: MM) H8 H9 := e9.sub (fun m hm => by rw [List.mem_singleton.mp hm]; exact List.mem_cons_of_mem _ huMM)
      have e69M : ExM (p :: MM) H6 H9 := (ExM.of e68).trans e9M
      have hM8 := hM7.ex e8
      have hM9 : Dom (p :: MM) H9 := dom_exs hM8 e9 (fun m hm => by rw [List.mem_singleton.mp hm, hu9]; exact (fun z => nomatch z))
      have eA : ExM [r] H H9 := exM_new (eH6.trans (ExM.of e68)) e9 (fun m hm => .inr (by rw [List.mem_singleton.mp hm]; exact n1))
      refine ⟨f + 1, by omega, _, n6, p :: MM, hn6, eA, e9 r _ (by simp [hru]) (e68 _ _ h6), hM9, fun m hm => List.mem_cons_of_mem _ (hsM m hm), List.mem_cons_of_mem _ huMM, .inl ⟨us ++ [.ref a], (hh, []) :: pl, p :: ds, f, rfl, hu9, ?_, ?_, ?_, ?_, ⟨?_, ?_⟩, by omega, by rw [← hGL]; simp only [gLoop]; rw [hg]; simp only []; rw [hg6], rfl⟩⟩
      · exact .snoc (hPp.frame e69M (fun q hq o ho => e9 q o (by rw [List.mem_singleton]; exact fun z => hud (by rw [← z]; exact hq)) (e68 _ _ ho))) (Evl.ex_t (exM_mi e9M) (Evl.st_of (mi_of haM ha8))) (dm_exM e69M hdp) (e9 p _ (by simp [hpu]) (e8 _ _ hp7)) .nil (by simp) hpds
      · simp [Ne.symm hpr, hrd]
      · simp [Ne.symm hpu, hud]
      · intro q hq
        rcases List.mem_cons.mp hq with rfl | hq
        · exact hpH
        · exact hdn q hq
      · have := hfit.1
        simp only [List.length_cons]
        omega
      · intro e he
        rcases List.mem_cons.mp he with rfl | he
        · have := hfit.1
          simp only [List.length_nil]
          omega
        · have := hfit.2 e he
          omega
  · refine ⟨false, Evl.et_is (Evl.et_test (Evl.ev_op (Evl.ev_var rfl) Evl.ev_c (fun H1 _ Q q => ⟨rfl, q H1 (Evl.Ex.refl _)⟩))) (decide_eq_false hv), (fun hb => nomatch hb), fun _ H3 e3 => ?_⟩
    refine Evl.s_ret (Evl.ev_var rfl) fun H4 e4 => ?_
    have e34 := e3.trans e4
    exact q t n' v H4 hGL hn' (eH.trans (ExM.of e34)) (e34 _ _ ho') (dpx (ex_less hsM) _ _ (dm_ex e34 hdv))
end
end K04

set_option Elab.async false
set_option linter.all false
set_option maxRecDepth 100000
set_option maxHeartbeats 4000000
namespace RT
open TM TX SX RD
/-- what read_term comes to, ahead of the look at the bounds -/
def gRead (cs : List Nat) : Rr Trm := match K04.gLoop cs (cs.length + 1) [] 0 with
  | .bad k => .bad k
  | .ok t k => if sk cs k = cs.length then .ok t k else .bad (sk cs k)
end RT
namespace K04
open PySem PySem.Spec PyProof.Rows L2 DK DD TM TX SX RD RT
section
variable {P : Program} {w : World} {K : PySem.W.Frag} {mg : Str → Option Value} {base : Heap}
/-- Reader(text) -/
def spInit (C : Addr) : Sp := fun vs H Q _ => ∃ (r dx : Addr) (cs : List Nat), vs = [.ref r, .str (S cs)] ∧ H r = some (.ins C dx []) ∧ ∀ H', ExM [r] H H' → H' r = some (rdr C dx cs 0) → Q .non H'
theorem ok_Reader_init (T : Top K mg) : FnOk P w K mg base CX0 1 T.R_init.f T.R_init.fd ["self", "text"] (spInit T.R.C) := by
  refine T.R_init.F.ok sc_Reader_init (fun vs H Q E h => ?_) (fun cdv A outer s H vs Q E hr h => ?_)
  · obtain ⟨_, _, _, rfl, _⟩ := h
    rfl
  obtain ⟨r, dx, cs, rfl, ho, q⟩ := h
  refine ⟨_, (pss_cons (ps_fld (pv 0) (pv 1) rfl)
      (pss_one (ps_fld (pv 0) pe_int rfl))), ?_⟩
  refine ⟨_, rfl, _, rfl, r, T.R.C, dx, _, rfl, ho, T.R.cl, T.R.nT, by simp, ?_⟩
  refine ⟨_, rfl, r, T.R.C, dx, _, rfl, upd_same, T.R.cl, T.R.nA, by simp [putF], ?_⟩
  have hpf : putF (Str.ofString "at") (.int 0) (putF (Str.ofString "text") (.str (S cs)) []) = flds cs 0 := by
    have z : ¬ (Str.ofString "text" = Str.ofString "at") := by decide +kernel
    simp [flds, putF, z]
  rw [hpf]
  exact q _ ((ExM.mut (by simp)).trans (ExM.mut (by simp))) upd_same
def spRead (K : PySem.W.Frag) (CT CI : Addr) : Sp := fun vs H Q E => ∃ (M : List Addr) (cs : List Nat), vs = [.str (S cs)] ∧ cs.length ≤ 90000 ∧ Dom M H ∧
  (∀ t k v H', gRead cs = .ok t k → okT t → Evl.Ex H H' → Dm K M H' v (enc t) → Q v H') ∧
  (∀ t k H', gRead cs = .ok t k → ¬ okT t → Evl.Ex H H' → E (.ref CI) none H') ∧
  (∀ k d H', gRead cs = .bad k → H d = none → Evl.Ex H H' → H' d = some (.xd [("at", .int (k : Int))]) → E (.ref CT) (some d) H')
theorem ok_read_term (T : Top K mg) : FnOk P w K mg base (CX P w) 9 T.read_term.f T.read_term.fd ["text"] (spRead K T.o_InvalidText.C T.InvalidTerm.C) := by
  refine T.read_term.F.okX sc_read_term (fun vs H Q E h => ?_) (fun cdv A outer s H vs Q E hr h => ?_)
  · obtain ⟨_, _, rfl, _⟩ := h
    rfl
  obtain ⟨M, cs, rfl, h9, hM, qO, qI, qT⟩ := h
  refine ⟨_, (pss_cons (ps_if (pt_not (pt_val (pe_callB call_isi (by rfl) T.n_isinstance (by decide +kernel) (pa_cons (pv 0) (pa_cons (pe_bltn (v := .ty "str") rfl T.n_str (by decide +kernel) rfl) pa_nil))))) (pss_one (ps_raise rfl (takes_of rfl rfl rfl rfl) (pmk_oex T.o_InvalidText.T T.o_InvalidText.iC T.o_InvalidText.tI (ok_InvalidText T) (hr.mono (by omega)) T.o_InvalidText.b .nil pass0 (by rfl) T.o_InvalidText.g (pa_cons pe_int pa_nil)))) pss_nil)
      (pss_cons (ps_set (i := 1) sc_read_term.nd rfl (Or.inl rfl) (pe_make T.R_mk (ok_Reader_init T) (hr.mono (by omega)) (by rfl) T.R.g T.R_init.b .nil pass0 (pa_cons (pv 0) pa_nil)))
      (pss_cons (ps_set (i := 2) sc_read_term.nd rfl (Or.inl rfl) (pe_call (ok__read_whole T) (hr.mono (by omega)) (by rfl) T._read_whole.g T._read_whole.F.kp T._read_whole.b .nil (passE (takes_of rfl rfl rfl rfl)) (pa_cons (pv 1) pa_nil)))
      (pss_cons (ps_if (pt_cmpR op_ne (pe_meth0 (pv 1) T.R.cl T.R_peek.m (ok_Reader_peek T) (hr.mono (by omega)) T.R_peek.b .nil pass0) pe_str (nomark _)) (pss_one (ps_raise rfl (takes_of rfl rfl rfl rfl) (pmk_oex T.o_InvalidText.T T.o_InvalidText.iC T.o_InvalidText.tI (ok_InvalidText T) (hr.mono (by omega)) T.o_InvalidText.b .nil pass0 (by rfl) T.o_InvalidText.g (pa_cons (pe_fld (pv 1) rfl) pa_nil)))) pss_nil)
      (pss_cons (ps_expr (pe_call (ok_check_term T) (hr.mono (by omega)) (by rfl) T.check_term.g T.check_term.F.kp T.check_term.b .nil (passE (takes_of rfl rfl rfl rfl)) (pa_cons (pv 2) pa_nil)))
      (pss_one (ps_ret (pv 2)))))))), ?_⟩
  refine Evl.q_when (b := false) (Evl.et_is (Evl.et_not (Evl.et_B (ev_isi (M := M) (de_sc (d := .str (S cs)) (Evl.ev_var (by rfl)) rfl) (b := true) (by simp only [tyN]; decide +kernel)))) rfl) (fun hb => nomatch hb) fun _ H1 e1 => ?_
  refine ⟨_, rfl, fun x dx hx hdx ne => ⟨x, dx, cs, rfl, upd_same, fun H2 e2 h2 => ⟨rfl, ?_⟩⟩⟩
  have eX : ExM [x] H1 H2 := ((ExM.of (Evl.Ex.new hdx)).trans (ExM.mut (by simp))).trans e2
  have hxH := (fresh_exM (r := dx) (p := x) (H := H) (H' := L2.upd H1 dx (.own x)) (ExM.of (e1.trans (Evl.Ex.new hdx))) upd_same (by rw [upd_ne (Ne.symm ne)]; exact hx)).1
  have eR : ∀ {Hz : Hp}, ExM [x] H1 Hz → Evl.Ex H Hz := fun e a o h => (ExM.of e1 |>.trans e) a o (by
    rw [List.mem_singleton]
    intro z
    rw [z, hxH] at h
    cases h) h
  have hM2 : Dom (x :: M) H2 := (hM.ex (eR eX)).cons (by rw [h2]; exact (fun z => nomatch z))
  have bad : ∀ {k : Nat} {Hz : Hp} {L : List Addr}, gRead cs = .bad k → ExM [x] H1 Hz → Hz x ≠ none → L = [x] → badAt T.o_InvalidText.C E k L Hz := fun hg e hx2 hL d H' hd eM hdx => qT _ d H' hg (by
    subst hL
    have hdx2 : d ≠ x := fun z => hx2 (by rw [← z]; exact hd)
    cases q : H d with
    | none => rfl
    | some o =>
      have := eR e d o q
      rw [hd] at this
      cases this) (eR (e.trans (by rw [← hL]; exact eM))) hdx
  refine ⟨_, rfl, x :: M, x, dx, cs, 0, rfl, h2, by omega, h9, hM2, by simp, fun t n3 v H3 hg hn3 e3 h3 hd3 => ?_, fun k hk => bad (by unfold gRead; rw [hk]) eX (by rw [h2]; exact (fun z => nomatch z)) rfl⟩
  have eX3 := eX.trans e3
  have hM3 : Dom (x :: M) H3 := (hM.ex (eR eX3)).cons (by rw [h3]; exact (fun z => nomatch z))
  refine ⟨_, rfl, x, dx, _, rfl, h3, lk_no cs n3 (by decide +kernel) (by decide +kernel), x, dx, cs, n3, rfl, h3, hn3, h9, fun H4 e4 h4 => ?_⟩
  have hsk : n3 + skip (cs.drop n3) = sk cs n3 := rfl
  rw [hsk] at h4 ⊢
  rw [take1p]
  have eX4 := eX3.trans e4
  have hle := sk_le hn3
  refine ⟨rfl, _, rfl, ?_⟩
  dsimp only
  by_cases hend : sk cs n3 = cs.length
  · have hpk : pk cs (sk cs n3) = [] := by
      unfold pk
      rw [List.getElem?_eq_none_iff.mpr (by omega)]
    have hG : gRead cs = .ok t n3 := by
      unfold gRead
      rw [hg]
      exact if_pos hend
    rw [hpk, if_neg (by decide +kernel)]
    have hM4 : Dom (x :: M) H4 := (hM.ex (eR eX4)).cons (by rw [h4]; exact (fun z => nomatch z))
    have hd4 := dm_exM (e4.sub (fun m hm => by rw [List.mem_singleton.mp hm]; simp)) hd3
    refine ⟨_, rfl, x :: M, t, v, rfl, hM4, hd4, fun hok H5 e5 => ?_, fun hno H5 e5 => qI t n3 H5 hG hno (eR (eX4.trans (ExM.of e5)))⟩
    exact ⟨_, rfl, qO t n3 v H5 hG hok (eR (eX4.trans (ExM.of e5))) (dm_less (dm_ex e5 hd4))⟩
  · have hG : gRead cs = .bad (sk cs n3) := by
      unfold gRead
      rw [hg]
      exact if_neg hend
    have hne : decide (V.str (S (pk cs (sk cs n3))) = V.str (Str.ofString "")) = false := decide_eq_false fun z => by
      have := S_inj ((V.str.inj z).trans (show Str.ofString "" = S [] by decide +kernel))
      unfold pk at this
      rw [List.getElem?_eq_getElem (show sk cs n3 < cs.length by omega)] at this
      cases this
    rw [hne, if_pos (by decide)]
    exact mk_badE (ev_fld (Evl.ev_var (by rfl)) h4 T.R.cl T.R.nA (lk_at _ _)) h4 (ExM.refl [x] H4) (bad hG eX4 (by rw [h4]; exact (fun z => nomatch z)) rfl)
end
end K04

set_option Elab.async false
set_option linter.all false
set_option maxRecDepth 100000
set_option maxHeartbeats 4000000
namespace RT
open TM TX SX RD
/-- the law's number at n, blanks behind it passed over -/
def lNum (cs : List Nat) (n : Nat) : Rr Nat :=
  let ds := (cs.drop n).take (runL digs (cs.drop n))
  if ds = [] then .bad n else if ds.head? = some 48 ∧ 1 < ds.length then .bad (n + 1) else if 31 < ds.length then .bad (n + 31)
  else .ok (PySem.NumText.digitsVal ds) (sk cs (n + ds.length))
def resD {α : Type} (f : α → PySem.PyData) : Rr α → List PySem.PyData
  | .ok a k => [f a, .int (k : Int)]
  | .bad k => [.str "wrong", .int (k : Int)]
end RT
namespace K04
open PySem PySem.Spec PyProof.Rows L2 DK DD TM TX SX RD RT LS
section
variable {P : Program} {w : World} {K : PySem.W.Frag} {mg : Str → Option Value} {base : Heap}
abbrev REnd : List PyData → PyData → Prop := fun ds r => ∃ (cs al : List Nat) (n : Nat), ds = [.str (S cs), .int (n : Int), .str (S al)] ∧ n ≤ cs.length ∧ cs.length ≤ 90000 ∧ r = .int ((n + runL al (cs.drop n) : Nat) : Int)
theorem ok__law_end (T : Top K mg) : FnOk P w K mg base CX0 1 T._law_end.f T._law_end.fd ["text", "at", "letters"] (spR K REnd) := by
  refine T._law_end.F.ok sc__law_end (fun vs H Q E h => ?_) (fun cdv A outer s H vs Q E hr h => ?_)
  · obtain ⟨M, ds, r, _, hv, ⟨_, _, _, rfl, _⟩, _⟩ := h
    exact dpa_len hv
  obtain ⟨M, ds, r, hM, hv, ⟨cs, al, n, rfl, hn, h9, rfl⟩, q⟩ := h
  obtain ⟨v0, v1, v2, rfl, h0, h1, h2⟩ := dpa3 hv
  obtain rfl := dpStr h0
  obtain rfl := dpInt h1
  obtain rfl := dpStr h2
  refine ⟨_, (pss_cons (ps_set (i := 3) sc__law_end.nd rfl (Or.inl rfl) (pv 1))
      (pss_cons (ps_while PassesOwn.never (PW.pt (pw_and (pt_cmpR op_lt (pv 3) (pe_callB call_len_str (by rfl) T.n_len PySem.boot_len (pa_cons (pv 0) pa_nil)) (nomark _)) (pw_and1 (pt_cmpR op_in_sign (pe_ix ix_str (pv 0) (pv 3) (fun _ _ => rfl)) (pv 2) (by with_unfolding_all rfl))))) (pss_one (ps_set (i := 3) sc__law_end.nd rfl (Or.inl rfl) (pe_op op_add (pv 3) pe_int))))
      (pss_one (ps_ret (pv 3))))), ?_⟩
  have hs := runL_le al (cs.drop n)
  rw [List.length_drop] at hs
  refine Evl.q_asg (Evl.ev_var rfl) fun H1 e1 => ?_
  refine Evl.q_while (fun m σ' H' => ∃ k, σ' = [some (.str (S cs)), some (.int (n : Int)), some (.str (S al)), some (.int ((n + k : Nat) : Int))] ∧ k ≤ runL al (cs.drop n) ∧ Evl.Ex H H' ∧ m = runL al (cs.drop n) - k) (runL al (cs.drop n)) ⟨0, rfl, by omega, e1, rfl⟩ (fun m σ' H' hW => ?_)
  obtain ⟨k, rfl, hk, hE, rfl⟩ := hW
  have lenE : Evl.Ev (tCB (fun xs H Q => ∃ z, xs = [.str z] ∧ z.length ≤ sizeLine ∧ Q (.int z.length) H) (tCons (tVar 0) tNil)) [some (.str (S cs)), some (.int (n : Int)), some (.str (S al)), some (.int ((n + k : Nat) : Int))] H' (.int (cs.length : Int)) :=
    ev_lenS (Evl.ev_var rfl) (by omega)
  by_cases hend : n + k < cs.length
  · obtain ⟨c, hc⟩ : ∃ c, cs[n + k]? = some c := ⟨_, List.getElem?_eq_getElem hend⟩
    have hin := runL_at al (cs.drop n) k c hk (by rw [List.getElem?_drop]; exact hc)
    refine ⟨_, Evl.et_and (Evl.et_test (Evl.ev_op (Evl.ev_var rfl) lenE Evl.rv_I0)) (fun _ => Evl.et_test (ev_inS (ev_ixS (Evl.ev_var rfl) (Evl.ev_var rfl) (by omega) (atI_nat hc)) (Evl.ev_var rfl))), fun hb H2 e2 => ?_, fun hb H2 e2 => ?_⟩
    · simp only [Bool.and_eq_true, decide_eq_true_eq] at hb
      have hlt := hin.mp hb.2
      refine ⟨fun σ2 H3 => ∃ m', m' < runL al (cs.drop n) - k ∧ _, fun σ2 H3 z => z, ?_⟩
      refine Evl.s_asg (Evl.ev_op (Evl.ev_var rfl) Evl.ev_c Evl.rv_I0) fun H3 e3 => ?_
      refine ⟨runL al (cs.drop n) - (k + 1), by omega, k + 1, ?_, by omega, (hE.trans e2).trans e3, rfl⟩
      show [some (V.str (S cs)), some (V.int (n : Int)), some (V.str (S al)), some (V.int (((n + k : Nat) : Int) + 1))] = _
      rw [show (((n + k : Nat) : Int) + 1) = ((n + (k + 1) : Nat) : Int) by omega]
    · have hge : k = runL al (cs.drop n) := by
        by_cases hlt : k < runL al (cs.drop n)
        · have := hin.mpr hlt
          simp only [Bool.and_eq_false_iff, decide_eq_false_iff_not] at hb
          rcases hb with hb | hb
          · omega
          · exact absurd this hb
        · omega
      subst hge
      exact Evl.s_ret (Evl.ev_var rfl) fun H3 e3 => q _ H3 ((hE.trans e2).trans e3) (.int _)
  · refine ⟨false, Evl.et_is (Evl.et_and (b := false) (Evl.et_test (Evl.ev_op (Evl.ev_var rfl) lenE Evl.rv_I0)) (fun hb => ?_)) (by simp), fun hb H2 e2 => (nomatch hb), fun hb H2 e2 => ?_⟩
    · have := of_decide_eq_true hb
      omega
    · have hge : k = runL al (cs.drop n) := by omega
      subst hge
      exact Evl.s_ret (Evl.ev_var rfl) fun H3 e3 => q _ H3 ((hE.trans e2).trans e3) (.int _)
/-- a call of _law_end -/
theorem ev_end {M : List Addr} {σ : L2.St} {H : Hp} {t0 t1 t2 : TE} {E : XK} {cs al : List Nat} {n : Nat} (hM : Dom M H) (h0 : Evl.Ev t0 σ H (.str (S cs))) (h1 : Evl.Ev t1 σ H (.int (n : Int))) (h2 : Evl.Ev t2 σ H (.str (S al))) (hn : n ≤ cs.length) (h9 : cs.length ≤ 90000) :
    Evl.Ev (tCall (spR K REnd) [] E (tCons t0 (tCons t1 (tCons t2 tNil)))) σ H (.int ((n + runL al (cs.drop n) : Nat) : Int)) :=
  ev_sc (de_callR hM (da_cons (de_sc h0 (d := .str (S cs)) rfl) (da_cons (de_sc h1 (d := .int (n : Int)) rfl) (da_cons (de_sc h2 (d := .str (S al)) rfl) da_nil))) (R := REnd) ⟨cs, al, n, rfl, hn, h9, rfl⟩) rfl
theorem skip_runL : ∀ cs : List Nat, runL [32] cs = skip cs
  | [] => rfl
  | c :: cs => by
    have ih := skip_runL cs
    by_cases h : c = 32
    · subst h
      simp [runL, skip, ih]
    · simp [runL, skip, h]
theorem hBL : (Str.ofString " ") = S [32] := by decide +kernel
/-- _law_end(text, n, ' ') -/
theorem ev_endB {M : List Addr} {σ : L2.St} {H : Hp} {t0 t1 t2 : TE} {E : XK} {cs : List Nat} {n : Nat} (hM : Dom M H) (h0 : Evl.Ev t0 σ H (.str (S cs))) (h1 : Evl.Ev t1 σ H (.int (n : Int))) (h2 : Evl.Ev t2 σ H (.str (Str.ofString " "))) (hn : n ≤ cs.length) (h9 : cs.length ≤ 90000) :
    Evl.Ev (tCall (spR K REnd) [] E (tCons t0 (tCons t1 (tCons t2 tNil)))) σ H (.int ((sk cs n : Nat) : Int)) := by
  have := ev_end (K := K) (E := E) hM h0 h1 (Evl.ev_is h2 (congrArg V.str hBL)) hn h9
  rw [skip_runL] at this
  exact this
theorem occ_dig : ∀ d, d < 10 → ∃ rest, Builtin.Str.occurrences (Str.ofString "0123456789") (S [48 + d]) 0 (Str.ofString "0123456789").length 1 = d :: rest := by
  have : ∀ d < 10, Builtin.Str.occurrences (Str.ofString "0123456789") (S [48 + d]) 0 (Str.ofString "0123456789").length 1 = [d] := by decide +kernel
  exact fun d h => ⟨[], this d h⟩
theorem digs_at {c : Nat} (h : c ∈ digs) : ∃ d, d < 10 ∧ c = 48 + d := by
  obtain ⟨d, hd, rfl⟩ := List.mem_map.mp h
  exact ⟨d, List.mem_range.mp hd, rfl⟩
abbrev RLNum : List PyData → List PyData → Prop := fun ds rs => ∃ (cs : List Nat) (n : Nat), ds = [.str (S cs), .int (n : Int)] ∧ n ≤ cs.length ∧ cs.length ≤ 90000 ∧ rs = resD (fun m : Nat => .int (m : Int)) (lNum cs n)
theorem ok__law_number (T : Top K mg) : FnOk P w K mg base CX0 2 T._law_number.f T._law_number.fd ["text", "at"] (spRL K RLNum) := by
  refine T._law_number.F.ok sc__law_number (fun vs H Q E h => ?_) (fun cdv A outer s H vs Q E hr h => ?_)
  · obtain ⟨M, ds, r, _, hv, ⟨_, _, rfl, _⟩, _⟩ := h
    exact dpa_len hv
  obtain ⟨M, ds, rs, hM, hv, ⟨cs, n, rfl, hn, h9, rfl⟩, q⟩ := h
  obtain ⟨v0, v1, rfl, h0, h1⟩ := dpa2 hv
  obtain rfl := dpStr h0
  obtain rfl := dpInt h1
  refine ⟨_, (pss_cons (ps_set (i := 2) sc__law_number.nd rfl (Or.inl rfl) (pe_call (ok__law_end T) (hr.mono (by omega)) (by rfl) T._law_end.g T._law_end.F.kp T._law_end.b .nil pass0 (pa_cons (pv 0) (pa_cons (pv 1) (pa_cons pe_str pa_nil)))))
      (pss_cons (ps_if (pt_cmpR op_eq (pv 2) (pv 1) (nomark _)) (pss_one (ps_ret (pe_lst (pa_cons pe_str (pa_cons (pv 1) pa_nil))))) pss_nil)
      (pss_cons (ps_if (PW.pt (pw_and (pt_cmpR op_eq (pe_ix ix_str (pv 0) (pv 1) (fun _ _ => rfl)) pe_str (nomark _)) (pw_and1 (pt_cmpR op_gt (pv 2) (pe_op op_add (pv 1) pe_int) (nomark _))))) (pss_one (ps_ret (pe_lst (pa_cons pe_str (pa_cons (pe_op op_add (pv 1) pe_int) pa_nil))))) pss_nil)
      (pss_cons (ps_if (pt_cmpR op_gt (pe_op op_sub (pv 2) (pv 1)) pe_int (nomark _)) (pss_one (ps_ret (pe_lst (pa_cons pe_str (pa_cons (pe_op op_add (pv 1) pe_int) pa_nil))))) pss_nil)
      (pss_cons (ps_set (i := 3) sc__law_number.nd rfl (Or.inl rfl) pe_int)
      (pss_cons (ps_for PassesOwn.never rfl (pi_str (pe_slice sl_str (pv 0) (po_some (pv 1)) (po_some (pv 2)))) (pg_name (i := 4) sc__law_number.nd rfl (Or.inl rfl)) (pss_one (ps_set (i := 3) sc__law_number.nd rfl (Or.inl rfl) (pe_op op_add (pe_op op_mul (pv 3) pe_int) (pe_bm PySem.F.plainAttrs_str PySem.F.slot_str_index PySem.F.type_str_index mt_sindex pe_str (pa_cons (pv 4) pa_nil))))))
      (pss_one (ps_ret (pe_lst (pa_cons (pv 3) (pa_cons (pe_call (ok__law_end T) (hr.mono (by omega)) (by rfl) T._law_end.g T._law_end.F.kp T._law_end.b .nil pass0 (pa_cons (pv 0) (pa_cons (pv 2) (pa_cons pe_str pa_nil)))) pa_nil))))))))))), ?_⟩
  have hs := runL_le digs (cs.drop n)
  rw [List.length_drop] at hs
  have hmem := runL_mem digs (cs.drop n)
  have hdl : ((cs.drop n).take (runL digs (cs.drop n))).length = runL digs (cs.drop n) := by
    rw [List.length_take, List.length_drop]
    omega
  have unf : lNum cs n = (if ((cs.drop n).take (runL digs (cs.drop n))) = [] then .bad n else if ((cs.drop n).take (runL digs (cs.drop n))).head? = some 48 ∧ 1 < ((cs.drop n).take (runL digs (cs.drop n))).length then .bad (n + 1) else if 31 < ((cs.drop n).take (runL digs (cs.drop n))).length then .bad (n + 31)
    else .ok (PySem.NumText.digitsVal ((cs.drop n).take (runL digs (cs.drop n)))) (sk cs (n + ((cs.drop n).take (runL digs (cs.drop n))).length))) := rfl
  rw [hdl] at unf
  have hat : ∀ c, cs[n]? = some c → c ∈ digs → ((cs.drop n).take (runL digs (cs.drop n))).head? = some c := fun c hc hd => by
    have h1 := (List.getElem?_eq_some_iff.mp hc)
    obtain ⟨h1, h2⟩ := h1
    rw [List.drop_eq_getElem_cons h1, h2]
    simp [runL, hd]
  -- end
  refine Evl.q_asg (ev_end hM (Evl.ev_var rfl) (Evl.ev_var rfl) (Evl.ev_is Evl.ev_c (congrArg V.str hDIG)) hn h9) fun H1 e1 => ?_
  have hM1 := hM.ex e1
  have bad : ∀ {H2 : Hp} {t1 : TE} {σ : L2.St} {k : Nat}, Evl.Ex H H2 → Evl.Ev t1 σ H2 (.int (k : Int)) → lNum cs n = .bad k → DL K M (tLst (tCons (tC (.str (Str.ofString "wrong"))) (tCons t1 tNil))) σ H2 (resD (fun m : Nat => .int (m : Int)) (lNum cs n)) := fun e he hk => by
    rw [hk]
    exact dl_lst (da_cons (de_sc Evl.ev_c (d := .str "wrong") rfl) (da_cons (de_sc he (d := .int _) rfl) da_nil)) (by simp [resD])
  have go : ∀ {H2 : Hp} {te : TE} {σ : L2.St} {D : Ends}, Evl.Ex H H2 → DL K M te σ H2 (resD (fun m : Nat => .int (m : Int)) (lNum cs n)) → D.rt = Q → tRet te D σ H2 := fun e hl hD => s_retDL hl fun p us H3 n3 e3 h3 d3 => by
    rw [hD]
    exact q p us H3 (Evl.fresh_back e n3) (e.trans e3) h3 d3
  -- end == at
  refine Evl.q_when (Evl.et_test (Evl.ev_op (Evl.ev_var rfl) (Evl.ev_var rfl) (Evl.rv_eq rfl))) (fun hb H2 e2 => ?_) (fun hb H2 e2 => ?_)
  · have h0 : runL digs (cs.drop n) = 0 := by
      have := V.int.inj (of_decide_eq_true hb)
      omega
    refine go (e1.trans e2) (bad (e1.trans e2) (Evl.ev_var rfl) ?_) rfl
    rw [unf, h0, List.take_zero, if_pos rfl]
  have h0 : runL digs (cs.drop n) ≠ 0 := fun z => by
    have := of_decide_eq_false hb
    rw [z] at this
    exact this rfl
  have hne : ¬ (cs.drop n).take (runL digs (cs.drop n)) = [] := fun z => by
    rw [z] at hdl
    simp at hdl
    omega
  have hlt : n < cs.length := by omega
  obtain ⟨c, hc⟩ : ∃ c, cs[n]? = some c := ⟨_, List.getElem?_eq_getElem hlt⟩
  have hcd : c ∈ digs := by
    have := (runL_at digs (cs.drop n) 0 c (Nat.zero_le _) (by rw [List.getElem?_drop, Nat.add_zero]; exact hc)).mpr (by omega)
    exact this
  have hh := hat c hc hcd
  rw [if_neg hne, hh] at unf
  -- a zero ahead
  refine Evl.q_when (Evl.et_and (Evl.et_test (Evl.ev_op (ev_ixS (Evl.ev_var rfl) (Evl.ev_var rfl) (by omega) (atI_nat hc)) Evl.ev_c (Evl.rv_eq rfl))) (fun _ => Evl.et_test (Evl.ev_op (Evl.ev_var rfl) (Evl.ev_op (Evl.ev_var rfl) Evl.ev_c Evl.rv_I0) Evl.rv_I0))) (fun hb H3 e3 => ?_) (fun hb H3 e3 => ?_)
  · simp only [Bool.and_eq_true, decide_eq_true_eq] at hb
    have h48 : c = 48 := by
      have := S_inj ((V.str.inj hb.1).trans (show Str.ofString "0" = S [48] by decide +kernel))
      exact (List.cons.inj this).1
    refine go ((e1.trans e2).trans e3) (bad (k := n + 1) ((e1.trans e2).trans e3) (Evl.ev_is (Evl.ev_op (Evl.ev_var rfl) Evl.ev_c Evl.rv_I0) (congrArg V.int (by omega))) ?_) rfl
    rw [unf, if_pos ⟨by rw [h48], by omega⟩]
  have hn0 : ¬ (some c = some 48 ∧ 1 < runL digs (cs.drop n)) := fun z => by
    obtain ⟨z1, z2⟩ := z
    have : c = 48 := Option.some.inj z1
    subst this
    simp only [Bool.and_eq_false_iff, decide_eq_false_iff_not] at hb
    rcases hb with hb | hb
    · exact hb (congrArg V.str (by decide +kernel))
    · omega
  rw [if_neg hn0] at unf
  -- too long
  refine Evl.q_when (Evl.et_test (Evl.ev_op (Evl.ev_op (Evl.ev_var rfl) (Evl.ev_var rfl) Evl.rv_I0) Evl.ev_c Evl.rv_I0)) (fun hb H4 e4 => ?_) (fun hb H4 e4 => ?_)
  · have := of_decide_eq_true hb
    refine go (((e1.trans e2).trans e3).trans e4) (bad (k := n + 31) (((e1.trans e2).trans e3).trans e4) (Evl.ev_is (Evl.ev_op (Evl.ev_var rfl) Evl.ev_c Evl.rv_I0) (congrArg V.int (by omega))) ?_) rfl
    rw [unf, if_pos (by omega)]
  have h31 := of_decide_eq_false hb
  rw [if_neg (by omega)] at unf
  refine Evl.q_asg Evl.ev_c fun H5 e5 => ?_
  have e05 := (((e1.trans e2).trans e3).trans e4).trans e5
  -- the digits
  refine q_forS (cs := (cs.drop n).take (runL digs (cs.drop n))) (ev_slS (Evl.ev_var rfl) (Evl.eo_some (Evl.ev_var rfl)) (Evl.eo_some (Evl.ev_var rfl)) (by omega) (cutN (by omega)))
    (fun i σ' H' => ∃ y4 : Option V, σ' = [some (.str (S cs)), some (.int (n : Int)), some (.int ((n + runL digs (cs.drop n) : Nat) : Int)), some (.int ((PySem.NumText.digitsVal (((cs.drop n).take (runL digs (cs.drop n))).take i) : Nat) : Int)), y4] ∧ Evl.Ex H H')
    (fun H6 e6 => ⟨_, rfl, e05.trans e6⟩) (fun i d σ' H' hd hW => ?_) (fun σ' H' hW => ?_)
  · obtain ⟨y4, rfl, eH⟩ := hW
    obtain ⟨k, hk, rfl⟩ := digs_at (hmem d (List.mem_of_getElem? hd))
    obtain ⟨rest, hocc⟩ := occ_dig k hk
    dsimp only [L2.gName]
    refine ⟨_, rfl, _, _, rfl, rfl, .inr ⟨by decide, by decide⟩, rfl, _, rfl, _, _, k, rest, rfl, rfl, hocc, _, _, rfl, rfl, ?_⟩
    refine ⟨some (V.str (S [48 + k])), ?_, eH⟩
    have e2 : PySem.NumText.digitsVal (((cs.drop n).take (runL digs (cs.drop n))).take (i + 1)) = PySem.NumText.digitsVal (((cs.drop n).take (runL digs (cs.drop n))).take i) * 10 + k := by
      rw [List.take_add_one, hd]
      show PySem.NumText.digitsVal (_ ++ [48 + k]) = _
      rw [PySem.NumText.digitsVal_snoc]
      omega
    rw [e2]
    show [_, _, _, some (V.int ((PySem.NumText.digitsVal (((cs.drop n).take (runL digs (cs.drop n))).take i) : Nat) * 10 + ((k : Nat) : Int))), _] = _
    rw [show (((PySem.NumText.digitsVal (((cs.drop n).take (runL digs (cs.drop n))).take i) : Nat) : Int) * 10 + ((k : Nat) : Int)) = ((PySem.NumText.digitsVal (((cs.drop n).take (runL digs (cs.drop n))).take i) * 10 + k : Nat) : Int) by omega]
  · obtain ⟨y4, rfl, eH⟩ := hW
    rw [List.take_length]
    refine go eH ?_ rfl
    rw [unf]
    exact dl_lst (da_cons (de_sc (Evl.ev_var rfl) (d := .int _) rfl) (da_cons (de_sc (ev_endB (hM.ex eH) (Evl.ev_var rfl) (Evl.ev_var rfl) Evl.ev_c (by omega) h9) (d := .int _) rfl) da_nil)) (show 2 ≤ 1000 by decide)
end
end K04

set_option Elab.async false
set_option linter.all false
set_option maxRecDepth 100000
set_option maxHeartbeats 4000000
namespace RT
open TM TX SX RD
def lPrice (cs : List Nat) (n shop : Nat) : Rr Trm :=
  if cs[n]? = some 43 then (lNum cs (sk cs (n + 1))).map fun (m : Nat) => .price shop (m : Int)
  else if cs[n]? = some 45 then (lNum cs (sk cs (n + 1))).map fun (m : Nat) => .price shop (-(m : Int))
  else .ok (.price shop 0) n
def lHead (cs : List Nat) (n : Nat) (w : List Nat) : Rr Hd :=
  if w = rankc then (lNum cs n).map .rank else .ok (if w = leastc then .least else .most) n
def lOpen (cs : List Nat) (n : Nat) (w : List Nat) : Rr Hd := match lHead cs n w with
  | .bad k => .bad k
  | .ok h k => if cs[k]? = some 40 then .ok h (sk cs (k + 1)) else .bad k
/-- the word at n itself -/
def lWord (cs : List Nat) (n : Nat) : List Nat := (cs.drop n).take (runL letters (cs.drop n))
def lBegun (cs : List Nat) (n : Nat) : Rr (Trm ⊕ Hd) :=
  if cs[n]? = some 45 then (lNum cs (sk cs (n + 1))).map fun (m : Nat) => .inl (.plain (-(m : Int)))
  else if runL digs (cs.drop n) ≠ 0 then (lNum cs n).map fun (m : Nat) => .inl (.plain (m : Int))
  else match lWord cs n with
    | [c] => if c ∈ [97, 98, 99, 100, 101, 102] then (lPrice cs (sk cs (n + 1)) (c - 97)).map .inl else .bad n
    | wd => if wd = leastc ∨ wd = mostc ∨ wd = rankc then (lOpen cs (sk cs (n + wd.length)) wd).map .inr else .bad n
theorem lNum_ok {cs : List Nat} {n m k : Nat} (hn : n ≤ cs.length) (h : lNum cs n = .ok m k) : n < k ∧ k ≤ cs.length := by
  unfold lNum at h
  have hs := runL_le digs (cs.drop n)
  rw [List.length_drop] at hs
  have hdl : ((cs.drop n).take (runL digs (cs.drop n))).length = runL digs (cs.drop n) := by
    rw [List.length_take, List.length_drop]
    omega
  simp only [] at h
  split at h
  · cases h
  · rename_i h0
    have : 0 < ((cs.drop n).take (runL digs (cs.drop n))).length := List.length_pos_iff.mpr h0
    split at h
    · cases h
    · split at h
      · cases h
      · cases h
        have h1 := sk_le (cs := cs) (n := n + ((cs.drop n).take (runL digs (cs.drop n))).length) (by omega)
        have h2 := le_sk cs (n + ((cs.drop n).take (runL digs (cs.drop n))).length)
        omega
end RT
namespace K04
open PySem PySem.Spec PyProof.Rows L2 DK DD TM TX SX RD RT LS
theorem inV_sgn (x : List Nat) (al : List Nat) : inV (V.str (S x)) (al.map fun c => V.str (S [c])) = decide (∃ c ∈ al, x = [c]) := by
  have e : ∀ (a b : Str), eqV (.str b) (.str a) = decide (V.str a = V.str b) := fun a b => by
    show (b == a) = _
    by_cases h : a = b
    · subst h
      simp
    · rw [decide_eq_false (fun z => h (V.str.inj z))]
      exact beq_eq_false_iff_ne.mpr (Ne.symm h)
  unfold inV
  rw [List.any_map]
  by_cases h : ∃ c ∈ al, x = [c]
  · rw [decide_eq_true h]
    obtain ⟨c, hc, rfl⟩ := h
    rw [List.any_eq_true]
    exact ⟨c, hc, by simp [Function.comp, e]⟩
  · rw [decide_eq_false h, List.any_eq_false]
    intro c hc
    simp only [Function.comp, e, decide_eq_true_eq]
    intro z
    exact h ⟨c, hc, S_inj (V.str.inj z)⟩
theorem all_flat (al : List Nat) : (al.map fun c => V.str (S [c])).all flatV = true := by
  rw [List.all_map, List.all_eq_true]
  intro c _
  rfl
theorem dms_res {K : PySem.W.Frag} {M : List Addr} {H : Hp} {us : List V} {α : Type} {f : α → PyData} {r : Rr α} (h : Dms K M H us (resD f r)) : (∃ a k v, r = .ok a k ∧ us = [v, .int (k : Int)] ∧ Dm K M H v (f a)) ∨ (∃ k : Nat, r = .bad k ∧ us = [.str "wrong", .int (k : Int)]) := by
  cases r with
  | ok a k =>
    obtain ⟨v, u, rfl, h1, h2⟩ := dpa2 h
    obtain rfl := dpInt h2
    exact .inl ⟨a, k, v, rfl, rfl, h1⟩
  | bad k =>
    obtain ⟨v, u, rfl, h1, h2⟩ := dpa2 h
    obtain rfl := dpStr h1
    obtain rfl := dpInt h2
    exact .inr ⟨k, rfl, rfl⟩
section
variable {P : Program} {w : World} {K : PySem.W.Frag} {mg : Str → Option Value} {base : Heap}
/-- what stands at n alone -/
theorem ev_pk {σ : L2.St} {H : Hp} {t0 t1 t2 : TE} {cs : List Nat} {n : Nat} (h0 : Evl.Ev t0 σ H (.str (S cs))) (h1 : Evl.Ev t1 σ H (.int (n : Int))) (h2 : Evl.Ev t2 σ H (.int ((n : Int) + 1))) (hn : n ≤ cs.length) (h9 : cs.length ≤ 90000) :
    Evl.Ev (tSl rSlS t0 (tPart t1) (tPart t2)) σ H (.str (S (pk cs n))) := by
  rw [← take1p]
  exact ev_slS h0 (Evl.eo_some h1) (Evl.eo_some h2) (by omega) (cut1 hn)
abbrev RLPrice : List PyData → List PyData → Prop := fun ds rs => ∃ (cs : List Nat) (n shop : Nat), ds = [.str (S cs), .int (n : Int), .int (shop : Int)] ∧ n ≤ cs.length ∧ cs.length ≤ 90000 ∧ rs = resD enc (lPrice cs n shop)
theorem ok__law_price (T : Top K mg) : FnOk P w K mg base CX0 3 T._law_price.f T._law_price.fd ["text", "at", "shop"] (spRL K RLPrice) := by
  refine T._law_price.F.ok sc__law_price (fun vs H Q E h => ?_) (fun cdv A outer s H vs Q E hr h => ?_)
  · obtain ⟨M, ds, r, _, hv, ⟨_, _, _, rfl, _⟩, _⟩ := h
    exact dpa_len hv
  obtain ⟨M, ds, rs, hM, hv, ⟨cs, n, shop, rfl, hn, h9, rfl⟩, q⟩ := h
  obtain ⟨v0, v1, v2, rfl, h0, h1, h2⟩ := dpa3 hv
  obtain rfl := dpStr h0
  obtain rfl := dpInt h1
  obtain rfl := dpInt h2
  refine ⟨_, (pss_cons (ps_if (pt_cmpR op_notIn_seq (pe_slice sl_str (pv 0) (po_some (pv 1)) (po_some (pe_op op_add (pv 1) pe_int))) (pe_lst (pa_cons pe_str (pa_cons pe_str pa_nil))) (by with_unfolding_all rfl)) (pss_one (ps_ret (pe_lst (pa_cons (pe_tup (pa_cons pe_str (pa_cons (pv 2) (pa_cons pe_int pa_nil)))) (pa_cons (pv 1) pa_nil))))) pss_nil)
      (pss_cons (ps_set (i := 3) sc__law_price.nd rfl (Or.inl rfl) (pe_ix ix_str (pv 0) (pv 1) (fun _ _ => rfl)))
      (pss_cons (ps_set (i := 4) sc__law_price.nd rfl (Or.inl rfl) (pe_call (ok__law_number T) (hr.mono (by omega)) (by rfl) T._law_number.g T._law_number.F.kp T._law_number.b .nil pass0 (pa_cons (pv 0) (pa_cons (pe_call (ok__law_end T) (hr.mono (by omega)) (by rfl) T._law_end.g T._law_end.F.kp T._law_end.b .nil pass0 (pa_cons (pv 0) (pa_cons (pe_op op_add (pv 1) pe_int) (pa_cons pe_str pa_nil)))) pa_nil))))
      (pss_cons (ps_if (pt_cmpR op_eq (pe_ix ix_list (pv 4) pe_int (fun _ _ => rfl)) pe_str (nomark _)) (pss_one (ps_ret (pv 4))) pss_nil)
      (pss_one (ps_ret (pe_lst (pa_cons (pe_tup (pa_cons pe_str (pa_cons (pv 2) (pa_cons (pe_op op_mul (pe_ix ix_list (pv 4) pe_int (fun _ _ => rfl)) (pe_ix ix_list (pe_lst (pa_cons (pe_un un_neg pe_int) (pa_cons pe_int pa_nil))) (pe_callTy call_int1 (by rfl) T.n_int (by decide +kernel) (pa_cons (pe_cmpR op_eq (pv 3) pe_str (nomark _)) pa_nil)) (fun _ _ => rfl))) pa_nil)))) (pa_cons (pe_ix ix_list (pv 4) pe_int (fun _ _ => rfl)) pa_nil))))))))), ?_⟩
  -- text[at:at + 1] not in ['+', '-']
  refine Evl.q_when (b := !(decide (cs[n]? = some 43) || decide (cs[n]? = some 45))) ?_ (fun hb H1 e1 => ?_) (fun hb H1 e1 => ?_)
  · refine Evl.et_test (Evl.ev_opL (ev_pk (Evl.ev_var rfl) (Evl.ev_var rfl) (Evl.ev_op (Evl.ev_var rfl) Evl.ev_c Evl.rv_I0) hn h9) (Evl.el_lst (Evl.ea_cons Evl.ev_c (Evl.ea_cons Evl.ev_c Evl.ea_nil)) (by simp)) fun p H1 hp _ => ?_)
    rw [← pk_in]
    exact Evl.rv_niL (Evl.sq_of hp) rfl rfl
  · simp only [Bool.not_eq_true', Bool.or_eq_false_iff, decide_eq_false_iff_not] at hb
    have hG : lPrice cs n shop = .ok (.price shop 0) n := by
      unfold lPrice
      rw [if_neg hb.1, if_neg hb.2]
    rw [hG] at q
    refine s_retDL (K := K) (M := M) (dl_lst (da_cons (d := enc (.price shop 0)) (by
      rw [enc_eq]
      exact de_tup (K := K) (hM.ex e1) (da_cons (de_sc Evl.ev_c (d := .str "price") rfl) (da_cons (de_sc (Evl.ev_var rfl) (d := .int (shop : Int)) rfl) (da_cons (de_sc Evl.ev_c (d := .int 0) rfl) da_nil))) (show 3 ≤ 1000 by decide)) (da_cons (de_sc (Evl.ev_var rfl) (d := .int (n : Int)) rfl) da_nil)) (show 2 ≤ 1000 by decide)) fun p us H3 n3 e3 h3 d3 => ?_
    exact q p us H3 (Evl.fresh_back e1 n3) (e1.trans e3) h3 d3
  simp only [Bool.not_eq_false', Bool.or_eq_true, decide_eq_true_eq] at hb
  obtain ⟨c, hc, hcc⟩ : ∃ c : Nat, cs[n]? = some c ∧ (c = 43 ∨ c = 45) := by
    rcases hb with hb | hb
    · exact ⟨43, hb, .inl rfl⟩
    · exact ⟨45, hb, .inr rfl⟩
  have hlt : n < cs.length := (List.getElem?_eq_some_iff.mp hc).1
  have hG : lPrice cs n shop = (lNum cs (sk cs (n + 1))).map fun (m : Nat) => .price shop ((m : Int) * (if c = 43 then 1 else -1)) := by
    unfold lPrice
    rcases hcc with rfl | rfl
    · rw [if_pos hc]
      simp
    · rw [if_neg (by rw [hc]; simp), if_pos hc]
      simp
  rw [hG] at q
  -- sign, found
  refine Evl.q_asg (ev_ixS (Evl.ev_var rfl) (Evl.ev_var rfl) (by omega) (atI_nat hc)) fun H2 e2 => ?_
  have hM2 := hM.ex (e1.trans e2)
  have hsk := sk_le (cs := cs) (n := n + 1) (by omega)
  refine q_asgDL (dl_callR (E := E0) hM2 (da_cons (de_sc (Evl.ev_var rfl) (d := .str (S cs)) rfl) (da_cons (de_sc (ev_endB hM2 (n := n + 1) (Evl.ev_var rfl) (Evl.ev_is (Evl.ev_op (Evl.ev_var rfl) Evl.ev_c Evl.rv_I0) (congrArg V.int (by omega))) Evl.ev_c (by omega) h9) (d := .int ((sk cs (n + 1) : Nat) : Int)) rfl) da_nil)) (R := RLNum) ⟨cs, _, rfl, hsk, h9, rfl⟩) fun p us H3 n3 e3 h3 d3 => ?_
  have e13 := (e1.trans e2).trans e3
  rcases dms_res d3 with ⟨m, k, v, hm, rfl, hv⟩ | ⟨k, hm, rfl⟩
  · obtain rfl := dpInt hv
    rw [hm] at q
    refine Evl.q_when (b := false) (Evl.et_is (Evl.et_test (Evl.ev_op (Evl.ev_op (Evl.ev_var rfl) Evl.ev_c (Evl.rv_ixL (Evl.sq_of h3) rfl)) Evl.ev_c (Evl.rv_eq rfl))) rfl) (fun hb => nomatch hb) fun _ H4 e4 => ?_
    have h4 := e4 _ _ h3
    have e14 := e13.trans e4
    refine s_retDL (K := K) (M := M) (dl_lst (da_cons (d := enc (.price shop ((m : Int) * (if c = 43 then 1 else -1)))) (by
      rw [enc_eq]
      refine de_tup (K := K) (hM.ex e14) (da_cons (de_sc Evl.ev_c (d := .str "price") rfl) (da_cons (de_sc (Evl.ev_var rfl) (d := .int (shop : Int)) rfl) (da_cons (de_sc (d := .int ((m : Int) * (if c = 43 then 1 else -1))) ?_ rfl) da_nil))) (show 3 ≤ 1000 by decide)
      have hpick : Evl.Ev (tOp (rIxL K) (tLst (tCons (tUn (rU fun i => .int (-i)) (tC (.int 1))) (tCons (tC (.int 1)) tNil))) (tCB (fun xs H Q => (∃ i, xs = [V.int i] ∧ Q (V.int i) H) ∨ ∃ k, xs = [V.bl k] ∧ Q (V.int (if k = true then 1 else 0)) H) (tCons (tOp rEq (tVar 3) (tC (.str (Str.ofString "+")))) tNil))) [some (.str (S cs)), some (.int (n : Int)), some (.int (shop : Int)), some (.str (S [c])), some (.ref p)] H4 (.int (if c = 43 then 1 else -1)) := by
        refine Evl.ev_opL1 (xs := [.int (-1), .int 1]) (y := .int (if c = 43 then 1 else 0)) (Evl.el_lst (Evl.ea_cons (Evl.ev_un Evl.ev_c Evl.ru_neg) (Evl.ea_cons Evl.ev_c Evl.ea_nil)) (by simp)) (fun H1 e => ?_) (fun r H1 hr0 e => Evl.rv_ixL (Evl.sq_of hr0) ?_)
        · refine fun H6 e6 Q q6 => Evl.ev_op (Evl.ev_var rfl) Evl.ev_c (Evl.rv_eq rfl) H6 (Evl.Ex.refl _) _ fun H7 e7 => .inr ⟨_, rfl, ?_⟩
          have hd : decide (V.str (S [c]) = V.str (Str.ofString "+")) = decide (c = 43) := decide_eq_decide.mpr ((S_cong (b := [43]) (by decide +kernel)).trans (by simp))
          rw [hd]
          have q7 := q6 H7 e7
          by_cases h43 : c = 43 <;> simpa [h43] using q7
        · by_cases h43 : c = 43
          · rw [if_pos h43, if_pos h43]
            rfl
          · rw [if_neg h43, if_neg h43]
            rfl
      refine Evl.ev_op (Evl.ev_op (Evl.ev_var rfl) Evl.ev_c (Evl.rv_ixL (Evl.sq_of h4) rfl)) hpick (Evl.rv_I (.inr ?_))
      by_cases h43 : c = 43
      · rw [if_pos h43]
        decide
      · rw [if_neg h43]
        decide) (da_cons (de_sc (Evl.ev_op (Evl.ev_var rfl) Evl.ev_c (Evl.rv_ixL (Evl.sq_of h4) rfl)) (d := .int (k : Int)) rfl) da_nil)) (show 2 ≤ 1000 by decide)) fun p2 us H5 n5 e5 h5 d5 => ?_
    exact q p2 us H5 (Evl.fresh_back e14 n5) (e14.trans e5) h5 d5
  · rw [hm] at q
    refine Evl.q_when (b := true) (Evl.et_is (Evl.et_test (Evl.ev_op (Evl.ev_op (Evl.ev_var rfl) Evl.ev_c (Evl.rv_ixL (Evl.sq_of h3) rfl)) Evl.ev_c (Evl.rv_eq rfl))) (decide_eq_true rfl)) (fun _ H4 e4 => ?_) (fun hb => nomatch hb)
    exact Evl.s_ret (Evl.ev_var rfl) fun H5 e5 => q p _ H5 (Evl.fresh_back (e1.trans e2) n3) (e13.trans (e4.trans e5)) ((e4.trans e5) _ _ h3) (.cons (.str _) (.cons (.int _) .nil))
end
end K04

set_option Elab.async false
set_option linter.all false
set_option maxRecDepth 100000
set_option maxHeartbeats 4000000
namespace K04
open PySem PySem.Spec PyProof.Rows L2 DK DD TM TX SX RD RT LS
theorem hdL_dp {K : PySem.W.Frag} {M : List Addr} {H : Hp} (h : Hd) : (hdL h).length ≤ 2 := (hdL_len h).2
theorem resD_inl (r : Rr Trm) : resD (fun a => .tuple (encS a)) (r.map Sum.inl) = resD enc r := by
  cases r with
  | ok a k => simp [Rr.map, resD, encS, enc_eq]
  | bad k => rfl
theorem resD_inr (r : Rr Hd) : resD (fun a => .tuple (encS a)) (r.map Sum.inr) = resD (fun h => .tuple (hdL h)) r := by
  cases r with
  | ok a k => rfl
  | bad k => rfl
theorem pk_ne (cs : List Nat) (n c : Nat) {x : Str} (hx : x = S [c]) : (!decide (V.str (S (pk cs n)) = V.str x)) = !decide (cs[n]? = some c) := by rw [pk_eq cs n c hx]
section
variable {P : Program} {w : World} {K : PySem.W.Frag} {mg : Str → Option Value} {base : Heap}
abbrev RLOpen : List PyData → List PyData → Prop := fun ds rs => ∃ (cs : List Nat) (n : Nat) (wd : List Nat), ds = [.str (S cs), .int (n : Int), .str (S wd)] ∧ n ≤ cs.length ∧ cs.length ≤ 90000 ∧ (wd = leastc ∨ wd = mostc ∨ wd = rankc) ∧ rs = resD (fun h => .tuple (hdL h)) (lOpen cs n wd)
theorem ok__law_open (T : Top K mg) : FnOk P w K mg base CX0 3 T._law_open.f T._law_open.fd ["text", "at", "word"] (spRL K RLOpen) := by
  refine T._law_open.F.ok sc__law_open (fun vs H Q E h => ?_) (fun cdv A outer s H vs Q E hr h => ?_)
  · obtain ⟨M, ds, r, _, hv, ⟨_, _, _, rfl, _⟩, _⟩ := h
    exact dpa_len hv
  obtain ⟨M, ds, rs, hM, hv, ⟨cs, n, wd, rfl, hn, h9, hw, rfl⟩, q⟩ := h
  obtain ⟨v0, v1, v2, rfl, h0, h1, h2⟩ := dpa3 hv
  obtain rfl := dpStr h0
  obtain rfl := dpInt h1
  obtain rfl := dpStr h2
  refine ⟨_, (pss_cons (ps_set (i := 3) sc__law_open.nd rfl (Or.inl rfl) (pe_tup (pa_cons (pv 2) pa_nil)))
      (pss_cons (ps_if (pt_cmpR op_eq (pv 2) pe_str (nomark _)) (pss_cons (ps_set (i := 4) sc__law_open.nd rfl (Or.inl rfl) (pe_call (ok__law_number T) (hr.mono (by omega)) (by rfl) T._law_number.g T._law_number.F.kp T._law_number.b .nil pass0 (pa_cons (pv 0) (pa_cons (pv 1) pa_nil))))
      (pss_cons (ps_if (pt_cmpR op_eq (pe_ix ix_list (pv 4) pe_int (fun _ _ => rfl)) pe_str (nomark _)) (pss_one (ps_ret (pv 4))) pss_nil)
      (pss_one (ps_par (i := 3) (j := 1) (by rfl) sc__law_open.nd rfl rfl (by decide) rfl rfl (pa_cons (pe_tup (pa_cons (pv 2) (pa_cons (pe_ix ix_list (pv 4) pe_int (fun _ _ => rfl)) pa_nil))) (pa_cons (pe_ix ix_list (pv 4) pe_int (fun _ _ => rfl)) pa_nil)) (by rfl))))) pss_nil)
      (pss_cons (ps_if (pt_cmpR op_ne (pe_slice sl_str (pv 0) (po_some (pv 1)) (po_some (pe_op op_add (pv 1) pe_int))) pe_str (nomark _)) (pss_one (ps_ret (pe_lst (pa_cons pe_str (pa_cons (pv 1) pa_nil))))) pss_nil)
      (pss_one (ps_ret (pe_lst (pa_cons (pv 3) (pa_cons (pe_call (ok__law_end T) (hr.mono (by omega)) (by rfl) T._law_end.g T._law_end.F.kp T._law_end.b .nil pass0 (pa_cons (pv 0) (pa_cons (pe_op op_add (pv 1) pe_int) (pa_cons pe_str pa_nil)))) pa_nil)))))))), ?_⟩
  refine q_asgD (K := K) (M := M) (de_tup hM (da_cons (de_sc (Evl.ev_var rfl) (d := .str (S wd)) rfl) da_nil) (show 1 ≤ 1000 by decide)) fun v3 H1 e1 hd1 => ?_
  refine q_ifW (fun σ' H' => ∃ (h : Hd) (k : Nat) (v : V) (y4 : Option V), lHead cs n wd = .ok h k ∧ k ≤ cs.length ∧ σ' = [some (.str (S cs)), some (.int (k : Int)), some (.str (S wd)), some v, y4] ∧ Evl.Ex H H' ∧ Dm K M H' v (.tuple (hdL h)))
    (b := decide (wd = rankc)) (Evl.et_is (Evl.et_test (Evl.ev_op (Evl.ev_var rfl) Evl.ev_c (Evl.rv_eq rfl))) (decide_eq_decide.mpr (S_cong (b := rankc) (by decide +kernel)))) (fun hb H2 e2 N hN => ?_) (fun hb H2 e2 => ?_) (fun σ' H' hW => ?_)
  · -- rank
    have hwr : wd = rankc := of_decide_eq_true hb
    have e12 := e1.trans e2
    have hG : lHead cs n wd = (lNum cs n).map .rank := if_pos hwr
    have hM2 := hM.ex e12
    refine q_asgDL (dl_callR (E := E0) hM2 (da_cons (de_sc (Evl.ev_var rfl) (d := .str (S cs)) rfl) (da_cons (de_sc (Evl.ev_var rfl) (d := .int (n : Int)) rfl) da_nil)) (R := RLNum) ⟨cs, _, rfl, hn, h9, rfl⟩) fun p us H3 n3 e3 h3 d3 => ?_
    have e13 := e12.trans e3
    rcases dms_res d3 with ⟨m, k, v, hm, rfl, hv⟩ | ⟨k, hm, rfl⟩
    · obtain rfl := dpInt hv
      refine Evl.q_when (b := false) (Evl.et_is (Evl.et_test (Evl.ev_op (Evl.ev_op (Evl.ev_var rfl) Evl.ev_c (Evl.rv_ixL (Evl.sq_of h3) rfl)) Evl.ev_c (Evl.rv_eq rfl))) rfl) (fun hb => nomatch hb) fun _ H4 e4 => ?_
      have h4 := e4 _ _ h3
      have e14 := e13.trans e4
      dsimp only [L2.tPar]
      refine (de_tup (K := K) (M := M) (hM.ex e14) (da_cons (de_sc (Evl.ev_var rfl) (d := .str (S wd)) rfl) (da_cons (de_sc (Evl.ev_op (Evl.ev_var rfl) Evl.ev_c (Evl.rv_ixL (Evl.sq_of h4) rfl)) (d := .int (m : Int)) rfl) da_nil)) (show 2 ≤ 1000 by decide)) H4 (Evl.Ex.refl _) _ fun v5 H5 e5 hv5 => ?_
      refine (Evl.ev_op (Evl.ev_var rfl) Evl.ev_c (Evl.rv_ixL (Evl.sq_of h4) rfl) : Evl.Ev _ _ H4 (V.int (k : Int))) H5 e5 _ fun H6 e6 => ⟨v5, _, rfl, ?_⟩
      refine hN _ _ ⟨.rank m, k, v5, _, by rw [hG, hm]; rfl, (lNum_ok hn hm).2, rfl, e14.trans (e5.trans e6), ?_⟩
      have hx := dm_ex e6 hv5
      have hs : (PyData.str (S wd)) = .str "rank" := by
        rw [hwr]
        exact congrArg PyData.str (by decide +kernel)
      rw [hs] at hx
      exact hx
    · refine Evl.q_when (b := true) (Evl.et_is (Evl.et_test (Evl.ev_op (Evl.ev_op (Evl.ev_var rfl) Evl.ev_c (Evl.rv_ixL (Evl.sq_of h3) rfl)) Evl.ev_c (Evl.rv_eq rfl))) (decide_eq_true rfl)) (fun _ H4 e4 => ?_) (fun hb => nomatch hb)
      have hO : lOpen cs n wd = .bad k := by
        unfold lOpen
        rw [hG, hm]
        rfl
      rw [hO] at q
      exact Evl.s_ret (Evl.ev_var rfl) fun H5 e5 => q p _ H5 (Evl.fresh_back e12 n3) (e13.trans (e4.trans e5)) ((e4.trans e5) _ _ h3) (.cons (.str _) (.cons (.int _) .nil))
  · -- least, most
    have hwr : ¬ wd = rankc := of_decide_eq_false hb
    refine ⟨if wd = leastc then .least else .most, n, v3, _, if_neg hwr, hn, rfl, e1.trans e2, ?_⟩
    have hx := dm_ex e2 hd1
    have hs : (PyData.tuple [.str (S wd)]) = .tuple (hdL (if wd = leastc then .least else .most)) := by
      rcases hw with rfl | rfl | rfl
      · exact congrArg (fun z => PyData.tuple [PyData.str z]) (show S leastc = "least" by decide +kernel)
      · exact congrArg (fun z => PyData.tuple [PyData.str z]) (show S mostc = "most" by decide +kernel)
      · exact absurd rfl hwr
    rw [← hs]
    exact hx
  obtain ⟨h, k, v, y4, hh, hk, rfl, eH, hdv⟩ := hW
  refine Evl.q_when (b := !decide (cs[k]? = some 40)) (Evl.et_is (Evl.et_test (Evl.ev_op (ev_pk (Evl.ev_var rfl) (Evl.ev_var rfl) (Evl.ev_op (Evl.ev_var rfl) Evl.ev_c Evl.rv_I0) hk h9) Evl.ev_c (Evl.rv_ne rfl))) (pk_ne cs k 40 (by decide +kernel))) (fun hb H2 e2 => ?_) (fun hb H2 e2 => ?_)
  · have h40 : ¬ cs[k]? = some 40 := by simpa using hb
    have hO : lOpen cs n wd = .bad k := by
      unfold lOpen
      rw [hh]
      exact if_neg h40
    rw [hO] at q
    have e := eH.trans e2
    exact s_retDL (K := K) (M := M) (dl_lst (da_cons (de_sc Evl.ev_c (d := .str "wrong") rfl) (da_cons (de_sc (Evl.ev_var rfl) (d := .int (k : Int)) rfl) da_nil)) (show 2 ≤ 1000 by decide)) fun p us H3 n3 e3 h3 d3 => q p us H3 (Evl.fresh_back e n3) (e.trans e3) h3 d3
  · have h40 : cs[k]? = some 40 := by simpa using hb
    have hO : lOpen cs n wd = .ok h (sk cs (k + 1)) := by
      unfold lOpen
      rw [hh]
      exact if_pos h40
    rw [hO] at q
    have e := eH.trans e2
    have hlt := (List.getElem?_eq_some_iff.mp h40).1
    exact s_retDL (K := K) (M := M) (dl_lst (da_cons (de_v (dm_ex e2 hdv) (by rfl)) (da_cons (de_sc (ev_endB (hM.ex e) (n := k + 1) (Evl.ev_var rfl) (Evl.ev_is (Evl.ev_op (Evl.ev_var rfl) Evl.ev_c Evl.rv_I0) (congrArg V.int (by omega))) Evl.ev_c (by omega) h9) (d := .int ((sk cs (k + 1) : Nat) : Int)) rfl) da_nil)) (show 2 ≤ 1000 by decide)) fun p us H3 n3 e3 h3 d3 => q p us H3 (Evl.fresh_back e n3) (e.trans e3) h3 d3
theorem occ_shop {c : Nat} (h : c ∈ [97, 98, 99, 100, 101, 102]) : ∃ rest, Builtin.Str.occurrences (Str.ofString "abcdef") (S [c]) 0 (Str.ofString "abcdef").length 1 = (c - 97) :: rest := by
  have : ∀ c ∈ [97, 98, 99, 100, 101, 102], Builtin.Str.occurrences (Str.ofString "abcdef") (S [c]) 0 (Str.ofString "abcdef").length 1 = [c - 97] := by decide +kernel
  exact ⟨[], this c h⟩
abbrev RLBegun : List PyData → List PyData → Prop := fun ds rs => ∃ (cs : List Nat) (n : Nat), ds = [.str (S cs), .int (n : Int)] ∧ n ≤ cs.length ∧ cs.length ≤ 90000 ∧ rs = resD (fun a => .tuple (encS a)) (lBegun cs n)
theorem ok__law_begun (T : Top K mg) : FnOk P w K mg base CX0 4 T._law_begun.f T._law_begun.fd ["text", "at"] (spRL K RLBegun) := by
  refine T._law_begun.F.ok sc__law_begun (fun vs H Q E h => ?_) (fun cdv A outer s H vs Q E hr h => ?_)
  · obtain ⟨M, ds, r, _, hv, ⟨_, _, rfl, _⟩, _⟩ := h
    exact dpa_len hv
  obtain ⟨M, ds, rs, hM, hv, ⟨cs, n, rfl, hn, h9, rfl⟩, q⟩ := h
  obtain ⟨v0, v1, rfl, h0, h1⟩ := dpa2 hv
  obtain rfl := dpStr h0
  obtain rfl := dpInt h1
  refine ⟨_, (pss_cons (ps_if (pt_cmpR op_eq (pe_slice sl_str (pv 0) (po_some (pv 1)) (po_some (pe_op op_add (pv 1) pe_int))) pe_str (nomark _)) (pss_cons (ps_set (i := 2) sc__law_begun.nd rfl (Or.inl rfl) (pe_call (ok__law_number T) (hr.mono (by omega)) (by rfl) T._law_number.g T._law_number.F.kp T._law_number.b .nil pass0 (pa_cons (pv 0) (pa_cons (pe_call (ok__law_end T) (hr.mono (by omega)) (by rfl) T._law_end.g T._law_end.F.kp T._law_end.b .nil pass0 (pa_cons (pv 0) (pa_cons (pe_op op_add (pv 1) pe_int) (pa_cons pe_str pa_nil)))) pa_nil))))
      (pss_cons (ps_if (pt_cmpR op_eq (pe_ix ix_list (pv 2) pe_int (fun _ _ => rfl)) pe_str (nomark _)) (pss_one (ps_ret (pv 2))) pss_nil)
      (pss_one (ps_ret (pe_lst (pa_cons (pe_tup (pa_cons pe_str (pa_cons (pe_un un_neg (pe_ix ix_list (pv 2) pe_int (fun _ _ => rfl))) pa_nil))) (pa_cons (pe_ix ix_list (pv 2) pe_int (fun _ _ => rfl)) pa_nil))))))) pss_nil)
      (pss_cons (ps_if (pt_cmpR op_in_seq (pe_slice sl_str (pv 0) (po_some (pv 1)) (po_some (pe_op op_add (pv 1) pe_int))) (pe_callTy (call_list_strR rfl) (by rfl) T.n_list (by decide +kernel) (pa_cons pe_str pa_nil)) (by with_unfolding_all rfl)) (pss_cons (ps_set (i := 2) sc__law_begun.nd rfl (Or.inl rfl) (pe_call (ok__law_number T) (hr.mono (by omega)) (by rfl) T._law_number.g T._law_number.F.kp T._law_number.b .nil pass0 (pa_cons (pv 0) (pa_cons (pv 1) pa_nil))))
      (pss_cons (ps_if (pt_cmpR op_eq (pe_ix ix_list (pv 2) pe_int (fun _ _ => rfl)) pe_str (nomark _)) (pss_one (ps_ret (pv 2))) pss_nil)
      (pss_one (ps_ret (pe_lst (pa_cons (pe_tup (pa_cons pe_str (pa_cons (pe_ix ix_list (pv 2) pe_int (fun _ _ => rfl)) pa_nil))) (pa_cons (pe_ix ix_list (pv 2) pe_int (fun _ _ => rfl)) pa_nil))))))) pss_nil)
      (pss_cons (ps_set (i := 3) sc__law_begun.nd rfl (Or.inl rfl) (pe_call (ok__law_end T) (hr.mono (by omega)) (by rfl) T._law_end.g T._law_end.F.kp T._law_end.b .nil pass0 (pa_cons (pv 0) (pa_cons (pv 1) (pa_cons pe_str pa_nil)))))
      (pss_cons (ps_set (i := 4) sc__law_begun.nd rfl (Or.inl rfl) (pe_slice sl_str (pv 0) (po_some (pv 1)) (po_some (pv 3))))
      (pss_cons (ps_set (i := 5) sc__law_begun.nd rfl (Or.inl rfl) (pe_call (ok__law_end T) (hr.mono (by omega)) (by rfl) T._law_end.g T._law_end.F.kp T._law_end.b .nil pass0 (pa_cons (pv 0) (pa_cons (pv 3) (pa_cons pe_str pa_nil)))))
      (pss_cons (ps_if (pt_cmpR op_in_seq (pv 4) (pe_callTy (call_list_strR rfl) (by rfl) T.n_list (by decide +kernel) (pa_cons pe_str pa_nil)) (by with_unfolding_all rfl)) (pss_one (ps_ret (pe_call (ok__law_price T) (hr.mono (by omega)) (by rfl) T._law_price.g T._law_price.F.kp T._law_price.b .nil pass0 (pa_cons (pv 0) (pa_cons (pv 5) (pa_cons (pe_bm PySem.F.plainAttrs_str PySem.F.slot_str_index PySem.F.type_str_index mt_sindex pe_str (pa_cons (pv 4) pa_nil)) pa_nil)))))) pss_nil)
      (pss_cons (ps_if (pt_cmpR op_in_seq (pv 4) (pe_lst (pa_cons pe_str (pa_cons pe_str (pa_cons pe_str pa_nil)))) (by with_unfolding_all rfl)) (pss_one (ps_ret (pe_call (ok__law_open T) (hr.mono (by omega)) (by rfl) T._law_open.g T._law_open.F.kp T._law_open.b .nil pass0 (pa_cons (pv 0) (pa_cons (pv 5) (pa_cons (pv 4) pa_nil)))))) pss_nil)
      (pss_one (ps_ret (pe_lst (pa_cons pe_str (pa_cons (pv 1) pa_nil)))))))))))), ?_⟩
  -- a plain number that is read, from n3 on, its sign g
  have num : ∀ {D : Ends} {H3 : Hp} {p : Addr} {us : List V} {y3 y4 y5 : Option V} {n3 : Nat} {g : Int → Int} {tv : TE}, D.rt = Q → Evl.Ex H H3 → H p = none → H3 p = some (.lst us) → Dms K (p :: M) H3 us (resD (fun m : Nat => .int (m : Int)) (lNum cs n3)) →
      lBegun cs n = (lNum cs n3).map (fun (m : Nat) => .inl (.plain (g (m : Int)))) → (∀ (m : Int) (H4 : Hp), Evl.Ex H3 H4 → Evl.Ev (tOp (rIxL K) (tVar 2) (tC (.int 0))) [some (.str (S cs)), some (.int (n : Int)), some (.ref p), y3, y4, y5] H4 (.int m) → Evl.Ev tv [some (.str (S cs)), some (.int (n : Int)), some (.ref p), y3, y4, y5] H4 (.int (g m))) →
      tSeq (tIfS (tTest (tOp rEq (tOp (rIxL K) (tVar 2) (tC (.int 0))) (tC (.str (Str.ofString "wrong"))))) (tRet (tVar 2)) tNext) (tRet (tLst (tCons (tTup (tCons (tC (.str (Str.ofString "plain"))) (tCons tv tNil))) (tCons (tOp (rIxL K) (tVar 2) (tC (.int 1))) tNil)))) D [some (.str (S cs)), some (.int (n : Int)), some (.ref p), y3, y4, y5] H3 :=
    fun {D} {H3} {p} {us} {y3} {y4} {y5} {n3} {g} {tv} hD e13 np h3 d3 hG hev => by
      rw [hG] at q
      rcases dms_res d3 with ⟨m, k, v, hm, rfl, hv⟩ | ⟨k, hm, rfl⟩
      · obtain rfl := dpInt hv
        rw [hm] at q
        refine Evl.q_when (b := false) (Evl.et_is (Evl.et_test (Evl.ev_op (Evl.ev_op (Evl.ev_var rfl) Evl.ev_c (Evl.rv_ixL (Evl.sq_of h3) rfl)) Evl.ev_c (Evl.rv_eq rfl))) rfl) (fun hb => nomatch hb) fun _ H4 e4 => ?_
        have h4 := e4 _ _ h3
        have e14 := e13.trans e4
        refine s_retDL (K := K) (M := M) (dl_lst (da_cons (d := enc (.plain (g (m : Int)))) (by
          rw [enc_eq]
          exact de_tup (K := K) (hM.ex e14) (da_cons (de_sc Evl.ev_c (d := .str "plain") rfl) (da_cons (de_sc (hev _ H4 e4 (Evl.ev_op (Evl.ev_var rfl) Evl.ev_c (Evl.rv_ixL (Evl.sq_of h4) rfl))) (d := .int _) rfl) da_nil)) (show 2 ≤ 1000 by decide)) (da_cons (de_sc (Evl.ev_op (Evl.ev_var rfl) Evl.ev_c (Evl.rv_ixL (Evl.sq_of h4) rfl)) (d := .int (k : Int)) rfl) da_nil)) (show 2 ≤ 1000 by decide)) fun p2 us H5 n5 e5 h5 d5 => ?_
        rw [hD]
        refine q p2 us H5 (Evl.fresh_back e14 n5) (e14.trans e5) h5 ?_
        rw [enc_eq] at d5
        exact d5
      · rw [hm] at q
        refine Evl.q_when (b := true) (Evl.et_is (Evl.et_test (Evl.ev_op (Evl.ev_op (Evl.ev_var rfl) Evl.ev_c (Evl.rv_ixL (Evl.sq_of h3) rfl)) Evl.ev_c (Evl.rv_eq rfl))) (decide_eq_true rfl)) (fun _ H4 e4 => ?_) (fun hb => nomatch hb)
        refine Evl.s_ret (Evl.ev_var rfl) fun H5 e5 => ?_
        show D.rt _ _
        rw [hD]
        exact q p _ H5 np (e13.trans (e4.trans e5)) ((e4.trans e5) _ _ h3) (.cons (.str _) (.cons (.int _) .nil))
  -- '-'
  refine Evl.q_when (b := decide (cs[n]? = some 45)) (Evl.et_is (Evl.et_test (Evl.ev_op (ev_pk (Evl.ev_var rfl) (Evl.ev_var rfl) (Evl.ev_op (Evl.ev_var rfl) Evl.ev_c Evl.rv_I0) hn h9) Evl.ev_c (Evl.rv_eq rfl))) (pk_eq cs n 45 (by decide +kernel))) (fun hb H1 e1 => ?_) (fun hb H1 e1 => ?_)
  · have h45 : cs[n]? = some 45 := of_decide_eq_true hb
    have hlt := (List.getElem?_eq_some_iff.mp h45).1
    have hsk := sk_le (cs := cs) (n := n + 1) (by omega)
    refine q_asgDL (dl_callR (E := E0) (hM.ex e1) (da_cons (de_sc (Evl.ev_var rfl) (d := .str (S cs)) rfl) (da_cons (de_sc (ev_endB (hM.ex e1) (n := n + 1) (Evl.ev_var rfl) (Evl.ev_is (Evl.ev_op (Evl.ev_var rfl) Evl.ev_c Evl.rv_I0) (congrArg V.int (by omega))) Evl.ev_c (by omega) h9) (d := .int ((sk cs (n + 1) : Nat) : Int)) rfl) da_nil)) (R := RLNum) ⟨cs, _, rfl, hsk, h9, rfl⟩) fun p us H3 n3 e3 h3 d3 => ?_
    exact num (g := fun m => -m) rfl (e1.trans e3) (Evl.fresh_back e1 n3) h3 d3 (if_pos h45) fun m H4 e4 hev => Evl.ev_un hev Evl.ru_neg
  have h45 : ¬ cs[n]? = some 45 := of_decide_eq_false hb
  -- a digit
  refine Evl.q_when (b := decide (runL digs (cs.drop n) ≠ 0)) ?_ (fun hb H2 e2 => ?_) (fun hb H2 e2 => ?_)
  · have hin : inV (V.str (S (pk cs n))) (digs.map fun c => V.str (S [c])) = decide (runL digs (cs.drop n) ≠ 0) := by
      rw [inV_sgn]
      refine decide_eq_decide.mpr ?_
      unfold pk
      cases hc : cs[n]? with
      | none =>
        have : cs.length ≤ n := List.getElem?_eq_none_iff.mp hc
        have h0 : cs.drop n = [] := List.drop_eq_nil_of_le this
        rw [h0]
        simp [runL]
      | some c =>
        have := runL_at digs (cs.drop n) 0 c (Nat.zero_le _) (by rw [List.getElem?_drop, Nat.add_zero]; exact hc)
        constructor
        · rintro ⟨d, hd, he⟩
          have : c = d := (List.cons.inj he).1
          subst this
          have := ‹c ∈ digs ↔ _›.mp hd
          omega
        · intro h
          exact ⟨c, this.mpr (by omega), rfl⟩
    rw [← hin]
    refine Evl.et_test (Evl.ev_opL (ev_pk (Evl.ev_var rfl) (Evl.ev_var rfl) (Evl.ev_op (Evl.ev_var rfl) Evl.ev_c Evl.rv_I0) hn h9) (el_listS (Evl.ev_is Evl.ev_c (congrArg V.str hDIG)) (by decide)) fun p H1 hp _ => Evl.rv_isL (Evl.sq_of hp) rfl (all_flat _))
  · have hd : runL digs (cs.drop n) ≠ 0 := of_decide_eq_true hb
    have e12 := e1.trans e2
    refine q_asgDL (dl_callR (E := E0) (hM.ex e12) (da_cons (de_sc (Evl.ev_var rfl) (d := .str (S cs)) rfl) (da_cons (de_sc (Evl.ev_var rfl) (d := .int (n : Int)) rfl) da_nil)) (R := RLNum) ⟨cs, _, rfl, hn, h9, rfl⟩) fun p us H3 n3 e3 h3 d3 => ?_
    exact num (g := fun m => m) rfl (e12.trans e3) (Evl.fresh_back e12 n3) h3 d3 (by unfold lBegun; rw [if_neg h45, if_pos hd]) fun m H4 e4 hev => hev
  have hd : ¬ runL digs (cs.drop n) ≠ 0 := of_decide_eq_false hb
  have e12 := e1.trans e2
  have hs := runL_le letters (cs.drop n)
  rw [List.length_drop] at hs
  have hwl : (lWord cs n).length = runL letters (cs.drop n) := by
    unfold lWord
    rw [List.length_take, List.length_drop]
    omega
  -- end, word, after
  refine Evl.q_asg (ev_end (hM.ex e12) (Evl.ev_var rfl) (Evl.ev_var rfl) (Evl.ev_is Evl.ev_c (congrArg V.str hLET)) hn h9) fun H3 e3 => ?_
  refine Evl.q_asg (ev_slS (Evl.ev_var rfl) (Evl.eo_some (Evl.ev_var rfl)) (Evl.eo_some (Evl.ev_var rfl)) (by omega) (cutN (by omega))) fun H4 e4 => ?_
  have e14 := (e12.trans e3).trans e4
  refine Evl.q_asg (ev_endB (hM.ex e14) (Evl.ev_var rfl) (Evl.ev_var rfl) Evl.ev_c (by omega) h9) fun H5 e5 => ?_
  have e15 := e14.trans e5
  have hG : lBegun cs n = (match lWord cs n with
    | [c] => if c ∈ [97, 98, 99, 100, 101, 102] then (lPrice cs (sk cs (n + 1)) (c - 97)).map .inl else .bad n
    | wd => if wd = leastc ∨ wd = mostc ∨ wd = rankc then (lOpen cs (sk cs (n + wd.length)) wd).map .inr else .bad n) := by
    unfold lBegun
    rw [if_neg h45, if_neg hd] <;> rfl
  show tSeq _ _ _ [some (V.str (S cs)), some (V.int (n : Int)), none, some (V.int ((n + runL letters (cs.drop n) : Nat) : Int)), some (V.str (S (lWord cs n))), some (V.int ((sk cs (n + runL letters (cs.drop n)) : Nat) : Int))] _
  rw [← hwl]
  have hsk := sk_le (cs := cs) (n := n + (lWord cs n).length) (by omega)
  generalize lWord cs n = wd at hG hsk hwl
  -- a shop
  refine Evl.q_when (b := decide (∃ c ∈ ([97, 98, 99, 100, 101, 102] : List Nat), wd = [c])) ?_ (fun hb H6 e6 => ?_) (fun hb H6 e6 => ?_)
  · rw [← inV_sgn]
    refine Evl.et_test (Evl.ev_opL (Evl.ev_var rfl) (el_listS (cs := [97, 98, 99, 100, 101, 102]) (Evl.ev_is Evl.ev_c (congrArg V.str (by decide +kernel))) (by decide)) fun p H1 hp _ => Evl.rv_isL (Evl.sq_of hp) rfl (all_flat _))
  · obtain ⟨c, hc, rfl⟩ := of_decide_eq_true hb
    have hG2 : lBegun cs n = (lPrice cs (sk cs (n + 1)) (c - 97)).map .inl := by
      rw [hG]
      exact if_pos hc
    rw [hG2, resD_inl] at q
    obtain ⟨rest, hocc⟩ := occ_shop hc
    have e16 := e15.trans e6
    refine s_retDL (K := K) (M := M) (dl_callR (E := E0) (hM.ex e16) (da_cons (de_sc (Evl.ev_var rfl) (d := .str (S cs)) rfl) (da_cons (de_sc (Evl.ev_var rfl) (d := .int ((sk cs (n + 1) : Nat) : Int)) rfl) (da_cons (de_sc (u := .int ((c - 97 : Nat) : Int)) (d := .int ((c - 97 : Nat) : Int)) ?_ rfl) da_nil))) (R := RLPrice) ⟨cs, _, _, rfl, hsk, h9, rfl⟩) fun p us H7 n7 e7 h7 d7 => q p us H7 (Evl.fresh_back e16 n7) (e16.trans e7) h7 d7
    exact fun H7 e7 Q q7 => ⟨rfl, _, rfl, _, _, _, rest, rfl, rfl, hocc, q7 H7 (Evl.Ex.refl _)⟩
  have hns : ¬ ∃ c ∈ ([97, 98, 99, 100, 101, 102] : List Nat), wd = [c] := of_decide_eq_false hb
  have e16 := e15.trans e6
  have hG2 : lBegun cs n = if wd = leastc ∨ wd = mostc ∨ wd = rankc then (lOpen cs (sk cs (n + wd.length)) wd).map .inr else .bad n := by
    rw [hG]
    match wd, hns with
    | [], _ => rfl
    | [c], hns =>
      have : ¬ c ∈ [97, 98, 99, 100, 101, 102] := fun z => hns ⟨c, z, rfl⟩
      rw [if_neg (by simp)]
      exact if_neg this
    | _ :: _ :: _, _ => rfl
  have hin3 : inV (V.str (S wd)) [V.str "least", V.str "most", V.str "rank"] = decide (wd = leastc ∨ wd = mostc ∨ wd = rankc) := by
    have e : ∀ (a b : Str), eqV (.str b) (.str a) = decide (V.str a = V.str b) := fun a b => by
      show (b == a) = _
      by_cases h : a = b
      · subst h
        simp
      · rw [decide_eq_false (fun z => h (V.str.inj z))]
        exact beq_eq_false_iff_ne.mpr (Ne.symm h)
    unfold inV
    simp only [List.any_cons, List.any_nil, Bool.or_false]
    have d1 : decide (V.str (S wd) = V.str "least") = decide (wd = leastc) := decide_eq_decide.mpr (S_cong (a := wd) (b := leastc) (x := "least") (by decide +kernel))
    have d2 : decide (V.str (S wd) = V.str "most") = decide (wd = mostc) := decide_eq_decide.mpr (S_cong (a := wd) (b := mostc) (x := "most") (by decide +kernel))
    have d3 : decide (V.str (S wd) = V.str "rank") = decide (wd = rankc) := decide_eq_decide.mpr (S_cong (a := wd) (b := rankc) (x := "rank") (by decide +kernel))
    rw [e, e, e, d1, d2, d3]
    by_cases a1 : wd = leastc <;> by_cases a2 : wd = mostc <;> by_cases a3 : wd = rankc <;> simp [a1, a2, a3]
  refine Evl.q_when (b := decide (wd = leastc ∨ wd = mostc ∨ wd = rankc)) ?_ (fun hb H7 e7 => ?_) (fun hb H7 e7 => ?_)
  · rw [← hin3]
    exact Evl.et_test (Evl.ev_opL (Evl.ev_var rfl) (Evl.el_lst (Evl.ea_cons Evl.ev_c (Evl.ea_cons Evl.ev_c (Evl.ea_cons Evl.ev_c Evl.ea_nil))) (by simp)) fun p H1 hp _ => Evl.rv_isL (Evl.sq_of hp) rfl rfl)
  · have h3w := of_decide_eq_true hb
    rw [hG2, if_pos h3w, resD_inr] at q
    have e17 := e16.trans e7
    exact s_retDL (K := K) (M := M) (dl_callR (E := E0) (hM.ex e17) (da_cons (de_sc (Evl.ev_var rfl) (d := .str (S cs)) rfl) (da_cons (de_sc (Evl.ev_var rfl) (d := .int ((sk cs (n + wd.length) : Nat) : Int)) rfl) (da_cons (de_sc (Evl.ev_var rfl) (d := .str (S wd)) rfl) da_nil))) (R := RLOpen) ⟨cs, _, _, rfl, hsk, h9, h3w, rfl⟩) fun p us H8 n8 e8 h8 d8 => q p us H8 (Evl.fresh_back e17 n8) (e17.trans e8) h8 d8
  · have h3w := of_decide_eq_false hb
    rw [hG2, if_neg h3w] at q
    have e17 := e16.trans e7
    exact s_retDL (K := K) (M := M) (dl_lst (da_cons (de_sc Evl.ev_c (d := .str "wrong") rfl) (da_cons (de_sc (Evl.ev_var rfl) (d := .int (n : Int)) rfl) da_nil)) (show 2 ≤ 1000 by decide)) fun p us H8 n8 e8 h8 d8 => q p us H8 (Evl.fresh_back e17 n8) (e17.trans e8) h8 d8
end
end K04

set_option Elab.async false
set_option linter.all false
set_option maxRecDepth 100000
set_option maxHeartbeats 4000000
/-! The law's reader reads what the program's reader reads. -/
namespace K04
open TM TX SX RD RT PySem
/-- the program's reading and the law's, blanks behind passed over: a number cut off goes wrong at the next digit -/
inductive RelP {α : Type} (cs : List Nat) (P : α → Prop) : Rr α → Rr α → Prop
  | ok (a : α) (k : Nat) : RelP cs P (.ok a k) (.ok a (sk cs k))
  | bad (k : Nat) : RelP cs P (.bad k) (.bad k)
  | cut (a : α) (k c : Nat) (h : cs[k]? = some c) (hd : c ∈ digs) (hp : P a) : RelP cs P (.ok a k) (.bad k)
abbrev Rel {α : Type} (cs : List Nat) : Rr α → Rr α → Prop := RelP cs fun _ => True
theorem RelP.mapP {α β : Type} {cs : List Nat} {P : α → Prop} {P' : β → Prop} {r l : Rr α} (f : α → β) (h : RelP cs P r l) (hP : ∀ a, P a → P' (f a)) : RelP cs P' (r.map f) (l.map f) := by
  cases h with
  | ok a k => exact .ok _ _
  | bad k => exact .bad _
  | cut a k c h hd hp => exact .cut _ _ c h hd (hP _ hp)
theorem RelP.map {α β : Type} {cs : List Nat} {r l : Rr α} (f : α → β) (h : Rel cs r l) : Rel cs (r.map f) (l.map f) := h.mapP f fun _ h => h
abbrev isL (a : Trm ⊕ Hd) : Prop := ∃ t, a = .inl t
theorem skip_eq0 {cs : List Nat} {c : Nat} {r : List Nat} (h : cs = c :: r) (hc : c ≠ 32) : skip cs = 0 := by
  subst h
  simp [skip, hc]
theorem sk_stay {cs : List Nat} {k c : Nat} (h : cs[k]? = some c) (hc : c ≠ 32) : sk cs k = k := by
  obtain ⟨h1, h2⟩ := List.getElem?_eq_some_iff.mp h
  unfold sk
  rw [skip_eq0 (List.drop_eq_getElem_cons h1) (by rw [h2]; exact hc)]
  rfl
theorem digs32 {c : Nat} (h : c ∈ digs) : c ≠ 32 ∧ c ≠ 40 ∧ c ≠ 41 ∧ c ≠ 44 := by
  obtain ⟨d, hd, rfl⟩ := digs_at h
  omega
theorem take_at {al cs : List Nat} {n j : Nat} (h : j < runL al (cs.drop n)) : ∃ c, cs[n + j]? = some c ∧ c ∈ al := by
  have hl := runL_le al (cs.drop n)
  rw [List.length_drop] at hl
  have hlt : n + j < cs.length := by omega
  refine ⟨cs[n + j], List.getElem?_eq_getElem hlt, ?_⟩
  exact (runL_at al (cs.drop n) j _ (by omega) (by rw [List.getElem?_drop]; exact List.getElem?_eq_getElem hlt)).mpr h
theorem rel_num (cs : List Nat) (m : Nat) : Rel cs (gNum cs m) (lNum cs (sk cs m)) := by
  unfold gNum lNum
  have hdl : ((cs.drop (sk cs m)).take (runL digs (cs.drop (sk cs m)))).length = runL digs (cs.drop (sk cs m)) := by
    have := runL_le digs (cs.drop (sk cs m))
    rw [List.length_take]
    omega
  have hat : ∀ j, j < ((cs.drop (sk cs m)).take (runL digs (cs.drop (sk cs m)))).length → ∃ c, cs[sk cs m + j]? = some c ∧ c ∈ digs := fun j hj => take_at (by omega)
  simp only []
  generalize (cs.drop (sk cs m)).take (runL digs (cs.drop (sk cs m))) = ds at hat
  by_cases h0 : ds = []
  · rw [if_pos h0, if_pos h0]
    exact .bad _
  rw [if_neg h0, if_neg h0]
  by_cases h1 : ds.head? = some 48 ∧ 1 < ds.length
  · rw [if_pos h1]
    have hc : cutG ds = [48] := if_pos h1.1
    rw [hc]
    obtain ⟨c, hc1, hc2⟩ := hat 1 h1.2
    exact .cut _ _ c hc1 hc2 True.intro
  rw [if_neg h1]
  by_cases h2 : 31 < ds.length
  · rw [if_pos h2]
    have hn : ¬ ds.head? = some 48 := fun z => h1 ⟨z, by omega⟩
    have hc : cutG ds = ds.take 31 := if_neg hn
    rw [hc]
    have hl : (ds.take 31).length = 31 := by
      rw [List.length_take]
      omega
    rw [hl]
    obtain ⟨c, hc1, hc2⟩ := hat 31 h2
    exact .cut _ _ c hc1 hc2 True.intro
  rw [if_neg h2]
  have hc : cutG ds = ds := by
    unfold cutG
    by_cases h3 : ds.head? = some 48
    · rw [if_pos h3]
      match ds, h3, h0, h1 with
      | [c], h3, _, _ =>
        have : c = 48 := Option.some.inj h3
        rw [this]
      | _ :: _ :: _, h3, _, h1 => exact absurd ⟨h3, by simp⟩ h1
    · rw [if_neg h3, List.take_of_length_le (by omega)]
  rw [hc]
  exact .ok _ _
theorem rel_price (cs : List Nat) (m s : Nat) : Rel cs ((gAdd cs m).map fun i => Trm.price s i) (lPrice cs (sk cs m) s) := by
  unfold gAdd lPrice
  by_cases h1 : cs[sk cs m]? = some 43
  · rw [if_pos h1, if_pos h1]
    have := (rel_num cs (sk cs m + 1)).map fun (m : Nat) => Trm.price s (m : Int)
    generalize gNum cs (sk cs m + 1) = r at this
    cases r <;> exact this
  rw [if_neg h1, if_neg h1]
  by_cases h2 : cs[sk cs m]? = some 45
  · rw [if_pos h2, if_pos h2]
    have := (rel_num cs (sk cs m + 1)).map fun (m : Nat) => Trm.price s (-(m : Int))
    generalize gNum cs (sk cs m + 1) = r at this
    cases r <;> exact this
  rw [if_neg h2, if_neg h2]
  have := RelP.ok (cs := cs) (P := fun _ => True) (Trm.price s 0) (sk cs m)
  rw [sk_sk] at this
  exact this
/-- the program's start of a term, an opening bracket read, too -/
def gOpen (cs : List Nat) (n : Nat) : Rr (Trm ⊕ Hd) := match gStart cs n with
  | .ok (.inr h) k => (match gSign [40] cs k with
    | .bad j => .bad j
    | .ok _ j => .ok (.inr h) j)
  | r => r
def opn (cs : List Nat) (g : Rr Hd) : Rr (Trm ⊕ Hd) := match g with | .ok h k => (match gSign [40] cs k with | .bad j => .bad j | .ok _ j => .ok (.inr h : Trm ⊕ Hd) j) | .bad k => .bad k
theorem rel_open (cs : List Nat) (m : Nat) (h : Rr Hd) (wd : List Nat) (hl : lHead cs (sk cs m) wd = h) (g : Rr Hd) (hr : Rel cs g h) :
    RelP cs isL (opn cs g) ((lOpen cs (sk cs m) wd).map .inr) := by
  unfold lOpen opn
  rw [hl]
  cases hr with
  | bad k => exact .bad _
  | ok a k =>
    dsimp only
    unfold gSign
    cases hc : cs[sk cs k]? with
    | none => exact .bad _
    | some c =>
      dsimp only
      by_cases h40 : c = 40
      · subst h40
        rw [if_pos (by simp), if_pos rfl]
        exact .ok _ _
      · rw [if_neg (by simpa using h40), if_neg (fun z => h40 (Option.some.inj z))]
        exact .bad _
  | cut a k c hc hd _ =>
    dsimp only
    have h32 := digs32 hd
    unfold gSign
    rw [sk_stay hc h32.1, hc]
    dsimp only
    rw [if_neg (by simpa using h32.2.1)]
    exact .bad _
theorem lWord_eq (cs : List Nat) (m : Nat) : gWord cs m = lWord cs (sk cs m) := rfl
theorem sk_le' (cs : List Nat) (n : Nat) : n ≤ sk cs n := le_sk cs n
theorem rel_begun (cs : List Nat) (m : Nat) : RelP cs isL (gOpen cs m) (lBegun cs (sk cs m)) := by
  unfold gOpen gStart
  rw [lWord_eq]
  have hwl : ∀ c r, lWord cs (sk cs m) = c :: r → cs[sk cs m]? = some c ∧ c ∈ letters := fun c r h => by
    have hl : 0 < runL letters (cs.drop (sk cs m)) := by
      by_cases z : runL letters (cs.drop (sk cs m)) = 0
      · unfold lWord at h
        rw [z] at h
        cases h
      · omega
    obtain ⟨d, hd, hdl⟩ := take_at hl
    have h2 := (List.getElem?_eq_some_iff.mp hd)
    obtain ⟨h3, h4⟩ := h2
    simp only [Nat.add_zero] at hd h3 h4
    unfold lWord at h
    rw [List.drop_eq_getElem_cons h3, h4] at h
    have hr1 : runL letters (d :: cs.drop (sk cs m + 1)) = runL letters (cs.drop (sk cs m + 1)) + 1 := by simp [runL, hdl]
    rw [hr1, List.take_succ_cons] at h
    have : d = c := (List.cons.inj h).1
    subst this
    exact ⟨hd, hdl⟩
  have nodig : ∀ c r, lWord cs (sk cs m) = c :: r → ¬ cs[sk cs m]? = some 45 ∧ ¬ runL digs (cs.drop (sk cs m)) ≠ 0 := fun c r h => by
    obtain ⟨h1, h2⟩ := hwl c r h
    obtain ⟨i, hi, rfl⟩ := List.mem_map.mp h2
    have hi26 := List.mem_range.mp hi
    refine ⟨fun z => ?_, fun z => ?_⟩
    · rw [h1] at z
      have := Option.some.inj z
      omega
    · obtain ⟨d, hd, hdd⟩ := take_at (al := digs) (cs := cs) (n := sk cs m) (j := 0) (by omega)
      rw [Nat.add_zero, h1] at hd
      obtain ⟨j, hj, hjd⟩ := digs_at hdd
      have := Option.some.inj hd
      omega
  unfold lBegun
  by_cases w0 : lWord cs (sk cs m) = []
  · rw [if_pos w0]
    have hp : Rel cs (gPlain cs (sk cs m)) (if cs[sk cs m]? = some 45 then (lNum cs (sk cs (sk cs m + 1))).map fun (m : Nat) => -(m : Int)
      else if runL digs (cs.drop (sk cs m)) ≠ 0 then (lNum cs (sk cs m)).map fun (m : Nat) => (m : Int) else .bad (sk cs m)) := by
      unfold gPlain
      rw [sk_sk]
      by_cases h1 : cs[sk cs m]? = some 45
      · rw [if_pos h1, if_pos h1]
        exact (rel_num cs (sk cs m + 1)).map _
      rw [if_neg h1, if_neg h1]
      have hn := (rel_num cs (sk cs m)).map fun (m : Nat) => (m : Int)
      rw [sk_sk] at hn
      by_cases h2 : runL digs (cs.drop (sk cs m)) ≠ 0
      · rw [if_pos h2]
        exact hn
      · rw [if_neg h2]
        have z : runL digs (cs.drop (sk cs m)) = 0 := by omega
        have : lNum cs (sk cs m) = .bad (sk cs m) := by
          unfold lNum
          rw [z]
          rfl
        rw [this] at hn
        exact hn
    have hq := hp.mapP (P' := isL) (fun i => (Sum.inl (Trm.plain i) : Trm ⊕ Hd)) fun a _ => ⟨_, rfl⟩
    have e2 : (match (gPlain cs (sk cs m)).map (fun i => (Sum.inl (Trm.plain i) : Trm ⊕ Hd)) with
        | .ok (.inr h) k => (match gSign [40] cs k with | .bad j => .bad j | .ok _ j => .ok (.inr h) j)
        | r => r) = (gPlain cs (sk cs m)).map (fun i => (Sum.inl (Trm.plain i) : Trm ⊕ Hd)) := by
      cases gPlain cs (sk cs m) <;> rfl
    rw [e2]
    by_cases h1 : cs[sk cs m]? = some 45
    · rw [if_pos h1] at hq ⊢
      generalize lNum cs (sk cs (sk cs m + 1)) = r at hq ⊢
      cases r <;> exact hq
    rw [if_neg h1] at hq ⊢
    by_cases h2 : runL digs (cs.drop (sk cs m)) ≠ 0
    · rw [if_pos h2] at hq ⊢
      generalize lNum cs (sk cs m) = r at hq ⊢
      cases r <;> exact hq
    · rw [if_neg h2] at hq ⊢
      rw [w0]
      exact hq
  rw [if_neg w0]
  obtain ⟨c0, r0, hcr⟩ : ∃ c r, lWord cs (sk cs m) = c :: r := by
    cases h : lWord cs (sk cs m) with
    | nil => exact absurd h w0
    | cons c r => exact ⟨c, r, rfl⟩
  obtain ⟨nd1, nd2⟩ := nodig c0 r0 hcr
  rw [if_neg nd1, if_neg nd2]
  clear hcr hwl nodig nd1 nd2 w0
  generalize lWord cs (sk cs m) = wd
  by_cases wl : wd = leastc
  · subst wl
    rw [if_pos rfl]
    have := rel_open cs (sk cs m + 5) (.ok .least (sk cs (sk cs m + 5))) leastc (by unfold lHead; rw [if_neg (by decide), if_pos rfl]) (.ok .least (sk cs m + 5)) (.ok _ _)
    exact this
  rw [if_neg wl]
  by_cases wm : wd = mostc
  · subst wm
    rw [if_pos rfl]
    have := rel_open cs (sk cs m + 4) (.ok .most (sk cs (sk cs m + 4))) mostc (by unfold lHead; rw [if_neg (by decide), if_neg (by decide)]) (.ok .most (sk cs m + 4)) (.ok _ _)
    exact this
  rw [if_neg wm]
  by_cases wr : wd = rankc
  · subst wr
    rw [if_pos rfl]
    have hx := rel_open cs (sk cs m + 4) ((lNum cs (sk cs (sk cs m + 4))).map .rank) rankc (by unfold lHead; rw [if_pos rfl]) ((gNum cs (sk cs m + 4)).map .rank) ((rel_num cs (sk cs m + 4)).map _)
    generalize gNum cs (sk cs m + 4) = r at hx ⊢
    cases r <;> exact hx
  rw [if_neg wr]
  match wd, wl, wm, wr with
  | [], _, _, _ => exact .bad _
  | [c], wl, wm, wr =>
    dsimp only
    by_cases hc : c ∈ [97, 98, 99, 100, 101, 102]
    · rw [if_pos hc, if_pos hc]
      have hx := (rel_price cs (sk cs m + 1) (c - 97)).mapP (P' := isL) (fun t => (Sum.inl t : Trm ⊕ Hd)) fun a _ => ⟨_, rfl⟩
      generalize gAdd cs (sk cs m + 1) = r at hx ⊢
      cases r <;> exact hx
    · rw [if_neg hc, if_neg hc]
      exact .bad _
  | a :: b :: r, wl, wm, wr =>
    dsimp only
    rw [if_neg (by rintro (z | z | z) <;> contradiction)]
    exact .bad _
def lClose (cs : List Nat) : Pl → Trm → Nat → Rr (Trm ⊕ Pl)
  | [], x, n => .ok (.inl x) n
  | (h, ps) :: pl, x, n => if cs[n]? = some 44 then .ok (.inr ((h, ps ++ [x]) :: pl)) (sk cs (n + 1)) else if cs[n]? = some 41 then lClose cs pl (.node h (ps ++ [x])) (sk cs (n + 1)) else .bad n
def lEnd (cs : List Nat) (f : Pl → Nat → Rr Trm) : Rr (Trm ⊕ Pl) → Rr Trm
  | .bad j => .bad j
  | .ok (.inl t) j => if j = cs.length then .ok t j else .bad j
  | .ok (.inr pl) j => f pl j
def lLoop (cs : List Nat) : Nat → Pl → Nat → Rr Trm
  | 0, _, n => .bad n
  | f + 1, pl, n => match lBegun cs n with
    | .bad k => .bad k
    | .ok (.inr h) k => lLoop cs f ((h, []) :: pl) k
    | .ok (.inl u) k => lEnd cs (lLoop cs f) (lClose cs pl u k)
theorem rel_close (cs : List Nat) : ∀ (pl : Pl) (x : Trm) (k : Nat), (∃ a j, gClose cs pl x k = .ok a j ∧ lClose cs pl x (sk cs k) = .ok a (sk cs j)) ∨ (∃ j, gClose cs pl x k = .bad j ∧ lClose cs pl x (sk cs k) = .bad j)
  | [], x, k => .inl ⟨_, _, rfl, rfl⟩
  | (h, ps) :: pl, x, k => by
    unfold gClose lClose gSign
    cases hc : cs[sk cs k]? with
    | none => exact .inr ⟨_, rfl, rfl⟩
    | some c =>
      dsimp only
      by_cases h44 : c = 44
      · subst h44
        exact .inl ⟨_, _, rfl, rfl⟩
      by_cases h41 : c = 41
      · subst h41
        exact rel_close cs pl (.node h (ps ++ [x])) (sk cs k + 1)
      rw [if_neg (by simp [h44, h41]), if_neg (fun z => h44 (Option.some.inj z)), if_neg (fun z => h41 (Option.some.inj z))]
      exact .inr ⟨_, rfl, rfl⟩
theorem gClose_le {cs : List Nat} : ∀ {pl : Pl} {x : Trm} {k : Nat} {a : Trm ⊕ Pl} {j : Nat}, k ≤ cs.length → gClose cs pl x k = .ok a j → k ≤ j ∧ j ≤ cs.length
  | [], x, k, a, j, hk, h => by
    unfold gClose at h
    cases h
    exact ⟨Nat.le_refl _, hk⟩
  | (h1, ps) :: pl, x, k, a, j, hk, h => by
    unfold gClose at h
    cases hg : gSign [44, 41] cs k with
    | bad i =>
      rw [hg] at h
      cases h
    | ok c i =>
      rw [hg] at h
      obtain ⟨g1, g2, _⟩ := gSign_lt hg
      dsimp only at h
      split at h
      · cases h
        exact ⟨by omega, g2⟩
      · have := gClose_le g2 h
        omega
/-- with what the program ends -/
def gFin (cs : List Nat) : Rr Trm → Rr Trm
  | .bad k => .bad k
  | .ok t k => if sk cs k = cs.length then .ok t cs.length else .bad (sk cs k)
theorem close_cut {cs : List Nat} {k c : Nat} (h : cs[k]? = some c) (hd : c ∈ digs) (pl : Pl) (u : Trm) (f : Pl → Nat → Rr Trm) :
    gFin cs (match gClose cs pl u k with | .bad j => .bad j | .ok (.inl t) j => .ok t j | .ok (.inr pl') j => f pl' j) = .bad k := by
  have h32 := digs32 hd
  have hlt := (List.getElem?_eq_some_iff.mp h).1
  cases pl with
  | nil =>
    unfold gClose
    dsimp only [gFin]
    rw [sk_stay h h32.1, if_neg (by omega)]
  | cons e pl =>
    obtain ⟨h1, ps⟩ := e
    unfold gClose gSign
    rw [sk_stay h h32.1, h]
    dsimp only
    rw [if_neg (by simp [h32.2.2.1, h32.2.2.2])]
    rfl
theorem rel_loop (cs : List Nat) : ∀ (f : Nat) (pl : Pl) (n : Nat), n ≤ cs.length → cs.length < f + n → lLoop cs f pl (sk cs n) = gFin cs (gLoop cs f pl n)
  | 0, pl, n, hn, hf => by omega
  | f + 1, pl, n, hn, hf => by
    have hb := rel_begun cs n
    unfold lLoop gLoop
    unfold gOpen at hb
    cases hs : gStart cs n with
    | bad k =>
      rw [hs] at hb
      generalize lBegun cs (sk cs n) = l at hb
      cases hb
      rfl
    | ok a k =>
      rw [hs] at hb
      have hle := gStart_le hn hs
      cases a with
      | inr h =>
        dsimp only at hb ⊢
        cases hg : gSign [40] cs k with
        | bad j =>
          rw [hg] at hb
          generalize lBegun cs (sk cs n) = l at hb
          cases hb
          rfl
        | ok c j =>
          rw [hg] at hb
          have hl2 := gSign_lt hg
          generalize lBegun cs (sk cs n) = l at hb
          cases hb with
          | ok =>
            dsimp only
            exact rel_loop cs f _ j hl2.2.1 (by omega)
          | cut a k' c' hc hd hp =>
            obtain ⟨t, ht⟩ := hp
            cases ht
      | inl u =>
        dsimp only at hb ⊢
        generalize lBegun cs (sk cs n) = l at hb
        cases hb with
        | cut a k' c' hc hd hp => exact (close_cut hc hd pl u (gLoop cs f)).symm
        | ok =>
          dsimp only
          rcases rel_close cs pl u k with ⟨a, j, h1, h2⟩ | ⟨j, h1, h2⟩
          · rw [h1, h2]
            have hcl := gClose_le (by omega) h1
            cases a with
            | inl t =>
              dsimp only [lEnd, gFin]
              by_cases he : sk cs j = cs.length
              · rw [if_pos he, if_pos he, he]
              · rw [if_neg he, if_neg he]
            | inr pl' =>
              dsimp only [lEnd]
              exact rel_loop cs f pl' j (by omega) (by omega)
          · rw [h1, h2]
            rfl
end K04

set_option Elab.async false
set_option linter.all false
set_option maxRecDepth 100000
set_option maxHeartbeats 4000000
namespace K04
open PySem PySem.Spec PyProof.Rows L2 DK DD TM TX SX RD RT LS
theorem lPrice_le {cs : List Nat} {n s k : Nat} {t : Trm} (hn : n ≤ cs.length) (h : lPrice cs n s = .ok t k) : n ≤ k ∧ k ≤ cs.length := by
  unfold lPrice at h
  have go : ∀ f : Nat → Trm, n < cs.length → (lNum cs (sk cs (n + 1))).map f = .ok t k → n ≤ k ∧ k ≤ cs.length := fun f hlt h => by
    obtain ⟨i, hi, _⟩ := map_ok h
    have h1 := sk_le (cs := cs) (n := n + 1) (by omega)
    have h2 := le_sk cs (n + 1)
    have := lNum_ok h1 hi
    omega
  split at h
  · rename_i hc
    exact go _ (List.getElem?_eq_some_iff.mp hc).1 h
  · split at h
    · rename_i hc
      exact go _ (List.getElem?_eq_some_iff.mp hc).1 h
    · cases h
      exact ⟨Nat.le_refl _, hn⟩
theorem lOpen_le {cs : List Nat} {n k : Nat} {wd : List Nat} {h0 : Hd} (hn : n ≤ cs.length) (h : lOpen cs n wd = .ok h0 k) : n < k ∧ k ≤ cs.length := by
  unfold lOpen at h
  cases hh : lHead cs n wd with
  | bad j =>
    rw [hh] at h
    cases h
  | ok h1 j =>
    rw [hh] at h
    dsimp only at h
    have hj : n ≤ j ∧ j ≤ cs.length := by
      unfold lHead at hh
      split at hh
      · obtain ⟨i, hi, _⟩ := map_ok hh
        have := lNum_ok hn hi
        omega
      · cases hh
        exact ⟨Nat.le_refl _, hn⟩
    split at h
    · rename_i hc
      have hlt := (List.getElem?_eq_some_iff.mp hc).1
      cases h
      have h1 := sk_le (cs := cs) (n := j + 1) (by omega)
      have h2 := le_sk cs (j + 1)
      omega
    · cases h
theorem lBegun_lt {cs : List Nat} {n k : Nat} {a : Trm ⊕ Hd} (hn : n ≤ cs.length) (h : lBegun cs n = .ok a k) : n < k ∧ k ≤ cs.length := by
  unfold lBegun at h
  split at h
  · rename_i hc
    have hlt := (List.getElem?_eq_some_iff.mp hc).1
    obtain ⟨i, hi, _⟩ := map_ok h
    have h1 := sk_le (cs := cs) (n := n + 1) (by omega)
    have h2 := le_sk cs (n + 1)
    have := lNum_ok h1 hi
    omega
  split at h
  · obtain ⟨i, hi, _⟩ := map_ok h
    have := lNum_ok hn hi
    omega
  have hwl : (lWord cs n).length ≤ cs.length - n := by
    have := runL_le letters (cs.drop n)
    unfold lWord
    rw [List.length_take]
    rw [List.length_drop] at this ⊢
    omega
  split at h
  · rename_i c hw
    rw [hw, List.length_singleton] at hwl
    split at h
    · obtain ⟨i, hi, _⟩ := map_ok h
      have h1 := sk_le (cs := cs) (n := n + 1) (by omega)
      have h2 := le_sk cs (n + 1)
      have := lPrice_le h1 hi
      omega
    · cases h
  · split at h
    · obtain ⟨i, hi, _⟩ := map_ok h
      have h1 := sk_le (cs := cs) (n := n + (lWord cs n).length) (by omega)
      have h2 := le_sk cs (n + (lWord cs n).length)
      have := lOpen_le h1 hi
      omega
    · cases h
def encP (e : Hd × List Trm) : PyData := .list [.tuple (hdL e.1), .tuple (e.2.map enc)]
theorem lay_hd (h : Hd) : PyData.canLayAll0 (hdL h) = true := by
  cases h with
  | least => decide +kernel
  | most => decide +kernel
  | rank k => simp only [hdL, PyData.canLayAll0, PyData.canLay0, Bool.and_true]; decide +kernel
theorem lay_pl : ∀ pl : Pl, PyData.canLayAll0 (pl.map encP) = true
  | [] => rfl
  | e :: pl => by
    simp only [List.map_cons, PyData.canLayAll0, encP, PyData.canLay0, lay_hd, canLay_encs, lay_pl pl, Bool.and_true]
theorem eqv_nil : ∀ ds : List PyData, PyData.eqv (.list ds) (.list []) = ds.isEmpty
  | [] => rfl
  | _ :: _ => rfl
theorem lay_S (a : Trm ⊕ Hd) : (PyData.tuple (encS a)).canLay0 = true := by
  cases a with
  | inl t =>
    have := (lay_enc t).1
    rw [enc_eq] at this
    exact this
  | inr h => exact lay_hd h
theorem cut_last (us : List V) (x : V) : cutV (us ++ [x]) none (some (-1)) = us := by
  unfold cutV
  rw [HT.sIx_none]
  have : HT.sIx (us ++ [x]).length (us ++ [x]).length (some (-1)) = us.length := by
    show (if (-1 : Int) < 0 then ((-1 : Int) + ((us ++ [x]).length : Int)).toNat else min (-1 : Int).toNat (us ++ [x]).length) = us.length
    rw [if_pos (by decide), List.length_append, List.length_singleton]
    omega
  rw [this]
  simp
theorem lPrice_leaf {cs : List Nat} {n s k : Nat} {t : Trm} (h : lPrice cs n s = .ok t k) : TM.leaf t = true := by
  unfold lPrice at h
  split at h
  · obtain ⟨i, _, rfl⟩ := map_ok h
    rfl
  · split at h
    · obtain ⟨i, _, rfl⟩ := map_ok h
      rfl
    · cases h
      rfl
theorem lBegun_leaf {cs : List Nat} {n k : Nat} {t : Trm} (h : lBegun cs n = .ok (.inl t) k) : TM.leaf t = true := by
  unfold lBegun at h
  split at h
  · obtain ⟨i, _, hi⟩ := map_ok h
    cases hi
    rfl
  split at h
  · obtain ⟨i, _, hi⟩ := map_ok h
    cases hi
    rfl
  split at h
  · split at h
    · obtain ⟨i, hi, he⟩ := map_ok h
      cases he
      exact lPrice_leaf hi
    · cases h
  · split at h
    · obtain ⟨i, _, hi⟩ := map_ok h
      cases hi
    · cases h
def fit' (pl : Pl) (n : Nat) : Prop := pl.length ≤ n ∧ ∀ e ∈ pl, e.2.length ≤ n
theorem fit'.mono {pl : Pl} {n m : Nat} (h : fit' pl n) (hm : n ≤ m) : fit' pl m := ⟨Nat.le_trans h.1 hm, fun e he => Nat.le_trans (h.2 e he) hm⟩
/-- what _law_due returns -/
def dueD : Rr Trm → PyData
  | .ok t _ => .list [.str "good", enc t]
  | .bad k => .list [.str "wrong", .int (k : Int)]
abbrev RDue : List PyData → PyData → Prop := fun ds r => ∃ cs : List Nat, ds = [.str (S cs)] ∧ cs.length ≤ 90000 ∧ r = dueD (lLoop cs (cs.length + 1) [] (sk cs 0))
section
variable {P : Program} {w : World} {K : PySem.W.Frag} {mg : Str → Option Value} {base : Heap}
theorem ok__law_due (T : Top K mg) : FnOk P w K mg base CX0 5 T._law_due.f T._law_due.fd ["text"] (spR K RDue) := by
  refine T._law_due.F.ok sc__law_due (fun vs H Q E h => ?_) (fun cdv A outer s H vs Q E hr h => ?_)
  · obtain ⟨M, ds, r, _, hv, ⟨_, rfl, _⟩, _⟩ := h
    exact dpa_len hv
  obtain ⟨M, ds, r, hM, hv, ⟨cs, rfl, h9, rfl⟩, q⟩ := h
  obtain ⟨v0, rfl, h0⟩ := dpa1 hv
  obtain rfl := dpStr h0
  refine ⟨_, (pss_cons (ps_set (i := 1) sc__law_due.nd rfl (Or.inl rfl) (pe_call (ok__law_end T) (hr.mono (by omega)) (by rfl) T._law_end.g T._law_end.F.kp T._law_end.b .nil pass0 (pa_cons (pv 0) (pa_cons pe_int (pa_cons pe_str pa_nil)))))
      (pss_cons (ps_set (i := 2) sc__law_due.nd rfl (Or.inl rfl) (pe_lst pa_nil))
      (pss_cons (ps_while PassesOwn.never (pt_cmpR op_ge (pv 1) pe_int (nomark _)) (pss_cons (ps_set (i := 3) sc__law_due.nd rfl (Or.inl rfl) (pe_call (ok__law_begun T) (hr.mono (by omega)) (by rfl) T._law_begun.g T._law_begun.F.kp T._law_begun.b .nil pass0 (pa_cons (pv 0) (pa_cons (pv 1) pa_nil))))
      (pss_cons (ps_if (pt_cmpR (op_eqM (hu64 hr)) (pe_ix ix_list (pv 3) pe_int (fun _ _ => rfl)) pe_str (nomark _)) (pss_one (ps_ret (pe_lst (pa_cons pe_str (pa_cons (pe_ix ix_list (pv 3) pe_int (fun _ _ => rfl)) pa_nil))))) pss_nil)
      (pss_cons (ps_asg (pv 3) (pg_unl rfl (pgs_cons (pg_name (i := 4) sc__law_due.nd rfl (Or.inl rfl)) (pgs_cons (pg_name (i := 1) sc__law_due.nd rfl (Or.inl rfl)) pgs_nil))))
      (pss_one (ps_if (PW.pt (pw_or (pt_cmpR op_eq (pe_callB (r := Evl.rLenS K) call_len_seq (by rfl) T.n_len PySem.boot_len (pa_cons (pv 4) pa_nil)) pe_int (nomark _)) (pw_or1 (pt_cmpR op_eq (pe_ix ix_tup (pv 4) pe_int (fun _ _ => rfl)) pe_str (nomark _))))) (pss_one (ps_expr (pe_bm PySem.F.plainAttrs_list PySem.F.slot_list_append PySem.F.type_list_append mt_append (pv 2) (pa_cons (pe_lst (pa_cons (pv 4) (pa_cons (pe_tup pa_nil) pa_nil))) pa_nil)))) (pss_cons (ps_set (i := 5) sc__law_due.nd rfl (Or.inl rfl) pe_bl)
      (pss_one (ps_while PassesOwn.never (pt_not (pt_val (pv 5))) (pss_cons (ps_if (pt_cmpR (op_eqM (hu64 hr)) (pv 2) (pe_lst pa_nil) (nomark _)) (pss_one (ps_ret (pe_ix ix_list (pe_lst (pa_cons (pe_lst (pa_cons pe_str (pa_cons (pv 1) pa_nil))) (pa_cons (pe_lst (pa_cons pe_str (pa_cons (pv 4) pa_nil))) pa_nil))) (pe_callTy call_int1 (by rfl) T.n_int (by decide +kernel) (pa_cons (pe_cmpR op_eq (pv 1) (pe_callB call_len_str (by rfl) T.n_len PySem.boot_len (pa_cons (pv 0) pa_nil)) (nomark _)) pa_nil)) (fun _ _ => rfl)))) pss_nil)
      (pss_cons (ps_asg (pe_lst (pa_cons (pe_ix ix_list (pe_ix ix_list (pv 2) (pe_un un_neg pe_int) (fun _ _ => rfl)) pe_int (fun _ _ => rfl)) (pa_cons (pe_op op_catA (pe_ix ix_list (pe_ix ix_list (pv 2) (pe_un un_neg pe_int) (fun _ _ => rfl)) pe_int (fun _ _ => rfl)) (pe_tup (pa_cons (pv 4) pa_nil))) pa_nil))) (pg_sub (pv 2) (pe_un un_neg pe_int) set_list))
      (pss_cons (ps_set (i := 5) sc__law_due.nd rfl (Or.inl rfl) (pe_cmpR op_eq (pe_slice sl_str (pv 0) (po_some (pv 1)) (po_some (pe_op op_add (pv 1) pe_int))) pe_str (nomark _)))
      (pss_cons (ps_if (PW.pt (pw_and (pt_not (pt_val (pv 5))) (pw_and1 (pt_cmpR op_ne (pe_slice sl_str (pv 0) (po_some (pv 1)) (po_some (pe_op op_add (pv 1) pe_int))) pe_str (nomark _))))) (pss_one (ps_ret (pe_lst (pa_cons pe_str (pa_cons (pv 1) pa_nil))))) pss_nil)
      (pss_cons (ps_set (i := 1) sc__law_due.nd rfl (Or.inl rfl) (pe_call (ok__law_end T) (hr.mono (by omega)) (by rfl) T._law_end.g T._law_end.F.kp T._law_end.b .nil pass0 (pa_cons (pv 0) (pa_cons (pe_op op_add (pv 1) pe_int) (pa_cons pe_str pa_nil)))))
      (pss_one (ps_if (pt_not (pt_val (pv 5))) (pss_cons (ps_set (i := 4) sc__law_due.nd rfl (Or.inl rfl) (pe_op op_catA (pe_ix ix_list (pe_ix ix_list (pv 2) (pe_un un_neg pe_int) (fun _ _ => rfl)) pe_int (fun _ _ => rfl)) (pe_tup (pa_cons (pe_ix ix_list (pe_ix ix_list (pv 2) (pe_un un_neg pe_int) (fun _ _ => rfl)) pe_int (fun _ _ => rfl)) pa_nil))))
      (pss_one (ps_set (i := 2) sc__law_due.nd rfl (Or.inl rfl) (pe_slice sl_list (pv 2) po_none (po_some (pe_un un_neg pe_int)))))) pss_nil))))))))))))))))
      (pss_one (ps_ret (pe_lst (pa_cons pe_str (pa_cons pe_int pa_nil)))))))), ?_⟩
  generalize hR : lLoop cs (cs.length + 1) [] (sk cs 0) = R at q
  refine Evl.q_asg (ev_endB hM (n := 0) (Evl.ev_var rfl) Evl.ev_c Evl.ev_c (by omega) h9) fun H1 e1 => ?_
  refine q_asgDL (K := K) (M := M) (dl_lst da_nil (show 0 ≤ 1000 by decide)) fun p0 us0 H2 n2 e2 h2 d2 => ?_
  have e12 := e1.trans e2
  have hs0 := sk_le (cs := cs) (n := 0) (by omega)
  refine Evl.q_while (fun m σ' H' => ∃ (p : Addr) (us : List V) (pl : Pl) (n f : Nat) (y3 y4 y5 : Option V), σ' = [some (.str (S cs)), some (.int (n : Int)), some (.ref p), y3, y4, y5] ∧ H p = none ∧ Evl.Ex H H' ∧ H' p = some (.lst us) ∧ Dms K (p :: M) H' us (pl.reverse.map encP) ∧
      n ≤ cs.length ∧ fit' pl n ∧ cs.length < f + n ∧ R = lLoop cs f pl n ∧ m = cs.length + 1 - n) (cs.length + 1 - sk cs 0)
    ⟨p0, us0, [], sk cs 0, cs.length + 1, none, none, none, rfl, Evl.fresh_back e1 n2, e12, h2, d2, hs0, ⟨Nat.zero_le _, fun e he => by cases he⟩, by omega, hR.symm, rfl⟩ (fun m σ' H' hW => ?_)
  obtain ⟨p, us, pl, n, f, y3, y4, y5, rfl, np, eH, hp, hd, hn, hfit, hf, rfl, rfl⟩ := hW
  refine ⟨true, Evl.et_is (Evl.et_test (Evl.ev_op (Evl.ev_var rfl) Evl.ev_c Evl.rv_I0)) (decide_eq_true (by omega)), fun _ H3 e3 => ?_, fun hb => nomatch hb⟩
  refine ⟨fun σ2 H2 => ∃ m', m' < cs.length + 1 - n ∧ _, fun σ2 H2 z => z, ?_⟩
  have pM : p ∉ M := fun z => hM p z np
  have eH3 := eH.trans e3
  have hp3 := e3 _ _ hp
  have hd3 := dms_ex e3 hd
  have hM3 : Dom (p :: M) H3 := (hM.ex eH3).cons (by rw [hp3]; exact fun z => nomatch z)
  -- found
  refine q_asgDL (M := p :: M) (dl_callR (E := E0) hM3 (da_cons (de_sc (Evl.ev_var rfl) (d := .str (S cs)) rfl) (da_cons (de_sc (Evl.ev_var rfl) (d := .int (n : Int)) rfl) da_nil)) (R := RLBegun) ⟨cs, n, rfl, hn, h9, rfl⟩) fun pf uf H4 n4 e4 h4 d4 => ?_
  have eH4 := eH3.trans e4
  have hp4 := e4 _ _ hp3
  have hd4 := dms_ex e4 hd3
  obtain ⟨f, rfl⟩ : ∃ g, f = g + 1 := ⟨f - 1, by omega⟩
  rcases dms_res d4 with ⟨a, k, v, hm, rfl, hv⟩ | ⟨k, hm, rfl⟩
  case inr =>
    have hR : lLoop cs (f + 1) pl n = .bad k := by
      unfold lLoop
      rw [hm]
    rw [hR] at q
    refine Evl.q_when (b := true) (Evl.et_is (Evl.et_test (ev_eqM (K := K) (M := M) (d := .str "wrong") (e := .str "wrong") (de_sc (Evl.ev_op (Evl.ev_var rfl) Evl.ev_c (Evl.rv_ixL (Evl.sq_of h4) rfl)) rfl) (de_sc Evl.ev_c rfl) (by decide +kernel) (by decide +kernel) (by decide))) (by decide +kernel)) (fun _ H5 e5 => ?_) (fun hb => nomatch hb)
    have eH5 := eH4.trans e5
    refine s_retD (K := K) (M := M) (de_dl (hM.ex eH5) (dl_lst (da_cons (de_sc Evl.ev_c (d := .str "wrong") rfl) (da_cons (de_sc (Evl.ev_op (Evl.ev_var rfl) Evl.ev_c (Evl.rv_ixL (Evl.sq_of (e5 _ _ h4)) rfl)) (d := .int (k : Int)) rfl) da_nil)) (show 2 ≤ 1000 by decide))) fun v H6 e6 hv6 => q v H6 (eH5.trans e6) hv6
  obtain ⟨hk1, hk2⟩ := lBegun_lt hn hm
  refine Evl.q_when (b := false) (Evl.et_is (Evl.et_test (ev_eqM (K := K) (M := M) (d := .tuple (encS a)) (e := .str "wrong") (de_ev (Evl.ev_op (Evl.ev_var rfl) Evl.ev_c (Evl.rv_ixL (Evl.sq_of h4) rfl)) (dm_less (dm_less hv))) (de_sc Evl.ev_c rfl) (lay_S a) (by decide +kernel) (Nat.le_trans (Nat.min_le_right _ _) (by decide)))) rfl) (fun hb => nomatch hb) fun _ H5 e5 => ?_
  have eH5 := eH4.trans e5
  have hp5 := e5 _ _ hp4
  have hd5 := dms_ex e5 hd4
  have hM5 : Dom (p :: M) H5 := (hM.ex eH5).cons (by rw [hp5]; exact fun z => nomatch z)
  have hvp : Dm K (p :: M) H5 v (.tuple (encS a)) := dm_ex e5 (dm_less hv)
  -- term, at = found
  refine ⟨_, rfl, pf, _, rfl, .inl (.inl (e5 _ _ h4)), rfl, _, _, rfl, _, _, rfl, rfl, ?_⟩
  have hus : us.length = pl.length := by
    have := dpa_len hd
    rw [List.length_map, List.length_reverse] at this
    exact this
  have hlenT : ∀ {σ : L2.St} {H6 : Hp}, σ[4]? = some (some v) → Evl.Ex H5 H6 → Evl.Ev (tCB (Evl.rLenS K) (tCons (tVar 4) tNil)) σ H6 (.int ((encS a).length : Int)) := fun hs e => ev_lenD (K := K) (M := p :: M) (de_v (dm_ex e hvp) hs) (.inl rfl)
  dsimp only [L2.gName]
  cases a with
  | inr h =>
    have hR : lLoop cs (f + 1) pl n = lLoop cs f ((h, []) :: pl) k := by
      rw [lLoop, hm]
    refine Evl.s_if (b := true) ?_ (fun _ H6 e6 => ?_) (fun hb => nomatch hb)
    · cases h with
      | least => exact Evl.et_is (Evl.et_or (a := true) (b := false) (Evl.et_is (Evl.et_test (Evl.ev_op (hlenT rfl (Evl.Ex.refl _)) Evl.ev_c (Evl.rv_eq rfl))) rfl) (fun hb => nomatch hb)) rfl
      | most => exact Evl.et_is (Evl.et_or (a := true) (b := false) (Evl.et_is (Evl.et_test (Evl.ev_op (hlenT rfl (Evl.Ex.refl _)) Evl.ev_c (Evl.rv_eq rfl))) rfl) (fun hb => nomatch hb)) rfl
      | rank r => exact Evl.et_is (Evl.et_or (a := false) (b := true) (Evl.et_is (Evl.et_test (Evl.ev_op (hlenT rfl (Evl.Ex.refl _)) Evl.ev_c (Evl.rv_eq rfl))) rfl) (fun _ => Evl.et_is (Evl.et_test (Evl.ev_op (ev_sc (K := K) (M := p :: M) (de_ixT (de_v hvp (by rfl)) Evl.ev_c (d := .str "rank") rfl) rfl) Evl.ev_c (Evl.rv_eq rfl))) (decide_eq_true rfl))) rfl
    · have hp6 := e6 _ _ hp5
      refine s_appD (K := K) (M := p :: M) (d := encP (h, [])) hp6 rfl (de_dl (hM5.ex e6) (dl_lst (da_cons (de_v (dm_ex e6 hvp) (by rfl)) (da_cons (de_tup (hM5.ex e6) da_nil (show 0 ≤ 1000 by decide)) da_nil)) (show 2 ≤ 1000 by decide))) (by have := hfit.1; omega) fun v2 H7 e7 hv2 => ?_
      have eM : ExM (p :: M) H7 (upd H7 p (.lst (us ++ [v2]))) := ExM.mut (by simp)
      refine ⟨cs.length + 1 - k, by omega, p, us ++ [v2], (h, []) :: pl, k, f, _, _, _, rfl, np, (eH5.trans (e6.trans e7)).mut np, upd_same, ?_, hk2, ?_, by omega, hR, rfl⟩
      · rw [List.reverse_cons, List.map_append]
        exact dms_exM eM (dpa_app (dms_ex (e6.trans e7) hd5) (.cons hv2 .nil))
      · refine ⟨by have := hfit.1; simp; omega, fun e he => ?_⟩
        rcases List.mem_cons.mp he with rfl | he
        · simp
        · have := hfit.2 e he
          omega
  | inl u =>
    have hleaf := lBegun_leaf hm
    have hR : lLoop cs (f + 1) pl n = lEnd cs (lLoop cs f) (lClose cs pl u k) := by
      rw [lLoop, hm]
    have henc : PyData.tuple (encS (.inl u)) = enc u := (enc_eq u).symm
    refine Evl.s_if (b := false) ?_ (fun hb => nomatch hb) (fun _ H6 e6 => ?_)
    · match u, hleaf with
      | .price s i, _ => exact Evl.et_is (Evl.et_or (a := false) (b := false) (Evl.et_is (Evl.et_test (Evl.ev_op (hlenT rfl (Evl.Ex.refl _)) Evl.ev_c (Evl.rv_eq rfl))) rfl) (fun _ => Evl.et_is (Evl.et_test (Evl.ev_op (ev_sc (K := K) (M := p :: M) (de_ixT (de_v hvp (by rfl)) Evl.ev_c (d := .str "price") rfl) rfl) Evl.ev_c (Evl.rv_eq rfl))) rfl)) rfl
      | .plain i, _ => exact Evl.et_is (Evl.et_or (a := false) (b := false) (Evl.et_is (Evl.et_test (Evl.ev_op (hlenT rfl (Evl.Ex.refl _)) Evl.ev_c (Evl.rv_eq rfl))) rfl) (fun _ => Evl.et_is (Evl.et_test (Evl.ev_op (ev_sc (K := K) (M := p :: M) (de_ixT (de_v hvp (by rfl)) Evl.ev_c (d := .str "plain") rfl) rfl) Evl.ev_c (Evl.rv_eq rfl))) rfl)) rfl
    rw [henc] at hvp
    clear hlenT hm
    generalize lLoop cs (f + 1) pl n = RR at q hR ⊢
    -- done = False; while not done
    refine Evl.q_asg Evl.ev_c fun H7 e7 => ?_
    have eH7 := eH5.trans (e6.trans e7)
    refine Evl.s_while (fun m σ' H' => ∃ (p : Addr) (us : List V) (pl : Pl) (x : Trm) (v : V) (j : Nat) (dn : Bool) (y3 : Option V), σ' = [some (.str (S cs)), some (.int (j : Int)), some (.ref p), y3, some v, some (.bl dn)] ∧ H p = none ∧ Evl.Ex H H' ∧ H' p = some (.lst us) ∧ Dms K (p :: M) H' us (pl.reverse.map encP) ∧ Dm K (p :: M) H' v (enc x) ∧
        k ≤ j ∧ j ≤ cs.length ∧ fit' pl j ∧ (dn = false → RR = lEnd cs (lLoop cs f) (lClose cs pl x j) ∧ m = pl.length + 1) ∧ (dn = true → RR = lLoop cs f pl j ∧ m = 0)) (pl.length + 1)
      ⟨p, us, pl, u, v, k, false, _, rfl, np, eH7, (e6.trans e7) _ _ hp5, dms_ex (e6.trans e7) hd5, dm_ex (e6.trans e7) hvp, Nat.le_refl _, hk2, hfit.mono (by omega), fun _ => ⟨hR, rfl⟩, fun hb => nomatch hb⟩ (fun m σ' H' hW => ?_)
    obtain ⟨p, us, pl, x, v, j, dn, y3, rfl, np, eH, hp, hd, hx, hkj, hj, hfit, hdn0, hdn1⟩ := hW
    refine ⟨!dn, Evl.et_not (Evl.et_B (Evl.ev_var rfl)), fun hb H8 e8 => ?_, fun hb H8 e8 => ?_⟩
    case refine_2 =>
      have hdt : dn = true := by simpa using hb
      obtain ⟨hr1, _⟩ := hdn1 hdt
      exact ⟨cs.length + 1 - j, by omega, p, us, pl, j, f, _, _, _, rfl, np, eH.trans e8, e8 _ _ hp, dms_ex e8 hd, hj, hfit, by omega, hr1, rfl⟩
    have hdf : dn = false := by simpa using hb
    subst hdf
    obtain ⟨hr0, rfl⟩ := hdn0 rfl
    clear hdn0 hdn1
    refine ⟨fun σ2 H2 => ∃ m', m' < pl.length + 1 ∧ _, fun σ2 H2 z => z, ?_⟩
    have pM : p ∉ M := fun z => hM p z np
    have eH8 := eH.trans e8
    have hp8 := e8 _ _ hp
    have hd8 := dms_ex e8 hd
    have hx8 := dm_ex e8 hx
    have hM8 := hM.ex eH8
    have hP : Dm K M H8 (.ref p) (.list (pl.reverse.map encP)) := .lst (Evl.sq_of (mi_of pM hp8)) (dms_less hd8)
    -- piles == []
    have hnilE : (PyData.eqv (.list (pl.reverse.map encP)) (.list [])) = pl.isEmpty := by
      rw [eqv_nil]
      cases pl with
      | nil => rfl
      | cons e l => simp
    refine Evl.q_when (b := pl.isEmpty) (Evl.et_is (Evl.et_test (ev_eqM (K := K) (M := M) (de_v hP (by rfl)) (de_dl hM8 (dl_lst da_nil (show 0 ≤ 1000 by decide))) (by rw [PyData.canLay0]; exact lay_pl _) (by decide) (Nat.le_trans (Nat.min_le_right _ _) (by decide)))) hnilE) (fun hb H9 e9 => ?_) (fun hb H9 e9 => ?_)
    · have hnil : pl = [] := by simpa using hb
      subst hnil
      have hR2 : RR = if j = cs.length then .ok x j else .bad j := by
        rw [hr0]
        rfl
      have hxM := dm_less (dm_ex e9 hx8)
      have hM9 := hM8.ex e9
      have eH9 := eH8.trans e9
      have hidx : Evl.Ev (tCB (fun xs H Q => (∃ i, xs = [V.int i] ∧ Q (V.int i) H) ∨ ∃ k, xs = [V.bl k] ∧ Q (V.int (if k = true then 1 else 0)) H) (tCons (tOp rEq (tVar 1) (tCB (fun xs H Q => ∃ z, xs = [V.str z] ∧ z.length ≤ sizeLine ∧ Q (V.int z.length) H) (tCons (tVar 0) tNil))) tNil)) [some (.str (S cs)), some (.int (j : Int)), some (.ref p), y3, some v, some (.bl false)] H9 (.int (if j = cs.length then 1 else 0)) := fun H6 e6 Q q6 => Evl.ev_op (Evl.ev_var rfl) (ev_lenS (y := cs) (Evl.ev_var rfl) (by omega)) (Evl.rv_eq rfl) H6 e6 _ fun H7 e7 => .inr ⟨_, rfl, by
        have q7 := q6 H7 e7
        by_cases hz : j = cs.length
        · simpa [hz] using q7
        · have : ¬ (j : Int) = (cs.length : Int) := by omega
          simpa [hz, this] using q7⟩
      refine s_retD (K := K) (M := M) (d := dueD RR) (de_ixL (de_dl hM9 (da_dl2 hM9 (dl_lst (da_cons (de_sc Evl.ev_c (d := .str "wrong") rfl) (da_cons (de_sc (Evl.ev_var rfl) (d := .int (j : Int)) rfl) da_nil)) (show 2 ≤ 1000 by decide)) (dl_lst (da_cons (de_sc Evl.ev_c (d := .str "good") rfl) (da_cons (de_v hxM (by rfl)) da_nil)) (show 2 ≤ 1000 by decide)))) hidx ?_) fun v9 H10 e10 hv10 => q v9 H10 (eH9.trans e10) hv10
      rw [hR2]
      by_cases hz : j = cs.length
      · rw [if_pos hz, if_pos hz]
        rfl
      · rw [if_neg hz, if_neg hz]
        rfl
    -- the pile's last
    obtain ⟨⟨h, ps⟩, pl', rfl⟩ : ∃ e l, pl = e :: l := by
      cases pl with
      | nil => cases hb
      | cons e l => exact ⟨e, l, rfl⟩
    clear hb hnilE hP
    rw [List.reverse_cons, List.map_append] at hd8
    obtain ⟨us', vt, rfl, hd', hvt⟩ := dpa_snoc hd8
    have hus' : us'.length = pl'.length := by
      have := dpa_len hd'
      rw [List.length_map, List.length_reverse] at this
      exact this
    have hfl := hfit.1
    have hfp := hfit.2 (h, ps) (by simp)
    simp only [List.length_cons] at hfl hfp
    have hMp8 : Dom (p :: M) H8 := hM8.cons (by rw [hp8]; exact fun z => nomatch z)
    have hMp9 := hMp8.ex e9
    have eH9 := eH8.trans e9
    have hp9 := e9 _ _ hp8
    have hd9 := dms_ex e9 hd'
    have hvt9 : Dm K (p :: M) H9 vt (encP (h, ps)) := dm_ex e9 hvt
    have hx9 := dm_ex e9 hx8
    have top : ∀ {σ : L2.St}, σ[2]? = some (some (.ref p)) → DE K (p :: M) (tOp (rIxL K) (tVar 2) (tUn (rU fun i => V.int (-i)) (tC (.int 1)))) σ H9 (encP (h, ps)) := fun hs => de_ev (Evl.ev_op (Evl.ev_var hs) (Evl.ev_un Evl.ev_c Evl.ru_neg) (Evl.rv_ixL (Evl.sq_of hp9) (atI_last us' vt))) hvt9
    have hset : DE K (p :: M) (tLst (tCons (tOp (rIxL K) (tOp (rIxL K) (tVar 2) (tUn (rU fun i => V.int (-i)) (tC (.int 1)))) (tC (.int 0))) (tCons (tOp (rCatA K) (tOp (rIxL K) (tOp (rIxL K) (tVar 2) (tUn (rU fun i => V.int (-i)) (tC (.int 1)))) (tC (.int 1))) (tTup (tCons (tVar 4) tNil))) tNil))) [some (.str (S cs)), some (.int (j : Int)), some (.ref p), y3, some v, some (.bl false)] H9 (encP (h, ps ++ [x])) := by
      refine de_dl hMp9 (dl_lst (da_cons (de_ixL (top rfl) Evl.ev_c (d := .tuple (hdL h)) rfl) (da_cons (d := .tuple ((ps ++ [x]).map enc)) ?_ da_nil)) (show 2 ≤ 1000 by decide))
      rw [List.map_append]
      exact de_catA hMp9 (de_ixL (top rfl) Evl.ev_c (d := .tuple (ps.map enc)) rfl) (de_tup hMp9 (da_cons (de_v hx9 (by rfl)) da_nil) (show 1 ≤ 1000 by decide)) (by rw [List.length_map]; simp; omega)
    refine q_setLast hp9 rfl hset fun v2 H10 e10 hv2 => ?_
    have eM : ExM (p :: M) H10 (upd H10 p (.lst (us' ++ [v2]))) := ExM.mut (by simp)
    have eH11 : Evl.Ex H (upd H10 p (.lst (us' ++ [v2]))) := (eH9.trans e10).mut np
    have hp11 : upd H10 p (.lst (us' ++ [v2])) p = some (.lst (us' ++ [v2])) := upd_same
    have hd11 := dms_exM eM (dms_ex e10 hd9)
    have hv11 : Dm K (p :: M) (upd H10 p (.lst (us' ++ [v2]))) v2 (encP (h, ps ++ [x])) := dm_exM eM hv2
    have hx11 := dm_exM eM (dm_ex e10 hx9)
    generalize upd H10 p (.lst (us' ++ [v2])) = H11 at eM eH11 hp11 hd11 hv11 hx11
    have hM11 := hM.ex eH11
    have hMp11 : Dom (p :: M) H11 := hM11.cons (by rw [hp11]; exact fun z => nomatch z)
    -- done
    refine Evl.q_asg (v := .bl (decide (cs[j]? = some 44))) (Evl.ev_is (Evl.ev_op (ev_pk (Evl.ev_var rfl) (Evl.ev_var rfl) (Evl.ev_op (Evl.ev_var rfl) Evl.ev_c Evl.rv_I0) hj h9) Evl.ev_c (Evl.rv_eq rfl)) (congrArg V.bl (pk_eq cs j 44 (by decide +kernel)))) fun H12 e12 => ?_
    have eH12 := eH11.trans e12
    refine Evl.q_when (b := !decide (cs[j]? = some 44) && !decide (cs[j]? = some 41)) (Evl.et_and (Evl.et_not (Evl.et_B (Evl.ev_var rfl))) (fun _ => Evl.et_is (Evl.et_test (Evl.ev_op (ev_pk (Evl.ev_var rfl) (Evl.ev_var rfl) (Evl.ev_op (Evl.ev_var rfl) Evl.ev_c Evl.rv_I0) hj h9) Evl.ev_c (Evl.rv_ne rfl))) (pk_ne cs j 41 (by decide +kernel)))) (fun hb H13 e13 => ?_) (fun hb H13 e13 => ?_)
    · simp only [Bool.and_eq_true, Bool.not_eq_true', decide_eq_false_iff_not] at hb
      have hR2 : RR = .bad j := by
        rw [hr0]
        unfold lClose
        rw [if_neg hb.1, if_neg hb.2]
        rfl
      have eH13 := eH12.trans e13
      rw [hR2] at q
      exact s_retD (K := K) (M := M) (de_dl (hM.ex eH13) (dl_lst (da_cons (de_sc Evl.ev_c (d := .str "wrong") rfl) (da_cons (de_sc (Evl.ev_var rfl) (d := .int (j : Int)) rfl) da_nil)) (show 2 ≤ 1000 by decide))) fun v H6 e6 hv6 => q v H6 (eH13.trans e6) hv6
    have hcc : cs[j]? = some 44 ∨ cs[j]? = some 41 := by
      simp only [Bool.and_eq_false_iff, Bool.not_eq_false', decide_eq_true_eq] at hb
      exact hb
    have hjl : j < cs.length := by
      rcases hcc with h | h <;> exact (List.getElem?_eq_some_iff.mp h).1
    have eH13 := eH12.trans e13
    -- at
    refine Evl.q_asg (ev_endB (hM.ex eH13) (n := j + 1) (Evl.ev_var rfl) (Evl.ev_is (Evl.ev_op (Evl.ev_var rfl) Evl.ev_c Evl.rv_I0) (congrArg V.int (by omega))) Evl.ev_c (by omega) h9) fun H14 e14 => ?_
    have hs1 := sk_le (cs := cs) (n := j + 1) (by omega)
    have hs2 := le_sk cs (j + 1)
    have e1114 := (e12.trans e13).trans e14
    have eH14 := eH13.trans e14
    have hp14 := e1114 _ _ hp11
    have hd14 := dms_ex e1114 hd11
    have hv14 := dm_ex e1114 hv11
    have hx14 := dm_ex e1114 hx11
    have hfit2 : fit' ((h, ps ++ [x]) :: pl') (sk cs (j + 1)) := ⟨by simp only [List.length_cons]; omega, fun e he => by
      rcases List.mem_cons.mp he with rfl | he
      · simp only [List.length_append, List.length_singleton]
        omega
      · have := hfit.2 e (List.mem_cons_of_mem _ he)
        omega⟩
    refine Evl.s_when (b := !decide (cs[j]? = some 44)) (Evl.et_not (Evl.et_B (Evl.ev_var rfl))) (fun hb H15 e15 => ?_) (fun hb H15 e15 => ?_)
    · -- a bracket closed
      have h44 : ¬ cs[j]? = some 44 := by simpa using hb
      have h41 : cs[j]? = some 41 := hcc.resolve_left h44
      have hp15 := e15 _ _ hp14
      have hMp15 : Dom (p :: M) H15 := (hM.ex (eH14.trans e15)).cons (by rw [hp15]; exact fun z => nomatch z)
      have hv15 := dm_ex e15 hv14
      have top2 : ∀ {σ : L2.St}, σ[2]? = some (some (.ref p)) → DE K (p :: M) (tOp (rIxL K) (tVar 2) (tUn (rU fun i => V.int (-i)) (tC (.int 1)))) σ H15 (encP (h, ps ++ [x])) := fun hs => de_ev (Evl.ev_op (Evl.ev_var hs) (Evl.ev_un Evl.ev_c Evl.ru_neg) (Evl.rv_ixL (Evl.sq_of hp15) (atI_last us' v2))) hv15
      refine q_asgD (K := K) (M := p :: M) (d := enc (.node h (ps ++ [x]))) (by
        rw [enc_node]
        exact de_catA hMp15 (de_ixL (top2 rfl) Evl.ev_c (d := .tuple (hdL h)) rfl) (de_tup hMp15 (da_cons (de_ixL (top2 rfl) Evl.ev_c (d := .tuple ((ps ++ [x]).map enc)) rfl) da_nil) (show 1 ≤ 1000 by decide)) (by have := (hdL_len h).2; simp only [List.length_singleton]; omega)) fun vx H16 e16 hvx => ?_
      have eH16 := (eH14.trans e15).trans e16
      have hp16 := e16 _ _ hp15
      have hd16 := dms_ex (e15.trans e16) hd14
      refine dl_list (K := K) (M := M) (hM.ex eH16) (Evl.ev_var rfl) hp16 (ds := pl'.reverse.map encP ++ [encP (h, ps ++ [x])]) (dpa_app hd16 (.cons (dm_ex e16 hv15) .nil)) Evl.eo_none (Evl.eo_some (Evl.ev_un Evl.ev_c Evl.ru_neg)) (cut_last us' v2) hd16 H16 (Evl.Ex.refl _) _ fun p2 us2 H17 n17 e17 h17 d17 => ?_
      refine ⟨pl'.length + 1, by simp, p2, us2, pl', .node h (ps ++ [x]), vx, sk cs (j + 1), false, y3, ?_, Evl.fresh_back eH16 n17, eH16.trans e17, h17, d17, ?_, by omega, hs1, ⟨by omega, fun e he => by have := hfit.2 e (List.mem_cons_of_mem _ he); omega⟩, fun _ => ⟨?_, rfl⟩, fun hb => nomatch hb⟩
      · rw [decide_eq_false h44]
        rfl
      · exact dm_ex e17 (dm_add n17 (dm_less hvx)) |> fun z => z
      · rw [hr0]
        conv => lhs; unfold lClose
        rw [if_neg h44, if_pos h41]
    · -- a comma
      have h44 : cs[j]? = some 44 := by simpa using hb
      refine ⟨0, by omega, p, us' ++ [v2], (h, ps ++ [x]) :: pl', x, v, sk cs (j + 1), true, y3, ?_, np, eH14.trans e15, e15 _ _ hp14, ?_, dm_ex e15 hx14, by omega, hs1, hfit2, (fun hb => nomatch hb), fun _ => ⟨?_, rfl⟩⟩
      · rw [decide_eq_true h44]
        rfl
      · rw [List.reverse_cons, List.map_append]
        exact dpa_app (dms_ex e15 hd14) (.cons (dm_ex e15 hv14) .nil)
      · rw [hr0]
        unfold lClose
        rw [if_pos h44]
        rfl
end
end K04

set_option Elab.async false
set_option linter.all false
set_option maxRecDepth 100000
set_option maxHeartbeats 4000000
namespace K04
open PySem PySem.Spec PyProof.Rows L2 DK DD TM TX SX RD RT LS
/-- the law's count -/
def cI : Nat → Trm → Int
  | 0, _ => -1000
  | l + 1, t => if form t = true then 1 + ((kids t).map (cI l)).sum else -1000
theorem sum_good {l : Nat} {g : Trm → Prop} : ∀ ts : List Trm, (∀ t ∈ ts, g t → cI l t = (cnt t : Int)) → (∀ t ∈ ts, ¬ g t → cI l t ≤ (cnt t : Int) - 1001) →
    ((∀ t ∈ ts, g t) → (ts.map (cI l)).sum = (cnts ts : Int)) ∧ ((¬ ∀ t ∈ ts, g t) → (ts.map (cI l)).sum ≤ (cnts ts : Int) - 1001)
  | [], _, _ => ⟨fun _ => rfl, fun h => absurd (fun t ht => nomatch ht) h⟩
  | t :: ts, h1, h2 => by
    obtain ⟨a, b⟩ := sum_good ts (fun u hu => h1 u (List.mem_cons_of_mem _ hu)) (fun u hu => h2 u (List.mem_cons_of_mem _ hu))
    have g1 := h1 t (by simp)
    have g2 := h2 t (by simp)
    simp only [List.map_cons, List.sum_cons, cnts]
    constructor
    · intro h
      rw [g1 (h t (by simp)), a fun u hu => h u (List.mem_cons_of_mem _ hu)]
      omega
    · intro h
      by_cases hg : g t
      · have := b fun hh => h fun u hu => by
          rcases List.mem_cons.mp hu with rfl | hu
          · exact hg
          · exact hh u hu
        rw [g1 hg]
        omega
      · have := g2 hg
        by_cases hh : ∀ u ∈ ts, g u
        · rw [a hh]
          omega
        · have := b hh
          omega
theorem cI_good : ∀ (l : Nat) (t : Trm), ((dep t ≤ l ∧ fr t = true) → cI l t = (cnt t : Int)) ∧ (¬ (dep t ≤ l ∧ fr t = true) → cI l t ≤ (cnt t : Int) - 1001)
  | 0, t => by
    have := dep_pos t
    have := cnt_pos t
    unfold cI
    exact ⟨fun h => by omega, fun _ => by omega⟩
  | l + 1, t => by
    have ih := fun u => cI_good l u
    have hs := sum_good (l := l) (g := fun u => dep u ≤ l ∧ fr u = true) (kids t) (fun u _ => (ih u).1) (fun u _ => (ih u).2)
    have hc := cnt_kids t
    have hd := dep_iff t l
    have hf := fr_iff t
    have hp := cnt_pos t
    unfold cI
    by_cases hform : form t = true
    · rw [if_pos hform]
      have hiff : (dep t ≤ l + 1 ∧ fr t = true) ↔ ∀ u ∈ kids t, dep u ≤ l ∧ fr u = true := by
        rw [hd, hf]
        exact ⟨fun h u hu => ⟨h.1 u hu, h.2.2 u hu⟩, fun h => ⟨fun u hu => (h u hu).1, hform, fun u hu => (h u hu).2⟩⟩
      rw [hiff]
      refine ⟨fun h => ?_, fun h => ?_⟩
      · rw [hs.1 h]
        omega
      · have := hs.2 h
        omega
    · rw [if_neg hform]
      refine ⟨fun h => absurd (hf.mp h.2).1 hform, fun _ => by omega⟩
theorem cI_ok {t : Trm} (h : cnt t ≤ 1000) : (decide (0 < cI 6 t) && decide (cI 6 t < 41)) = decide (okT t) := by
  obtain ⟨a, b⟩ := cI_good 6 t
  have hp := cnt_pos t
  by_cases hg : dep t ≤ 6 ∧ fr t = true
  · rw [a hg, decide_eq_true (show (0 : Int) < (cnt t : Int) by omega), Bool.true_and]
    refine decide_eq_decide.mpr ⟨fun z => ⟨by omega, hg.1, hg.2⟩, fun z => by have := z.1; omega⟩
  · have := b hg
    rw [decide_eq_false (show ¬ (0 : Int) < cI 6 t by omega), Bool.false_and, decide_eq_false fun z => hg ⟨z.2.1, z.2.2⟩]
section
variable {P : Program} {w : World} {K : PySem.W.Frag} {mg : Str → Option Value} {base : Heap}
abbrev RWhole : List PyData → PyData → Prop := fun ds r => ∃ i lo hi : Int, ds = [.int i, .int lo, .int hi] ∧ r = .bool (decide (lo ≤ i) && decide (i ≤ hi))
theorem ok__law_is_whole (T : Top K mg) : FnOk P w K mg base CX0 1 T._law_is_whole.f T._law_is_whole.fd ["value", "low", "high"] (spR K RWhole) := by
  refine T._law_is_whole.F.ok sc__law_is_whole (fun vs H Q E h => ?_) (fun cdv A outer s H vs Q E hr h => ?_)
  · obtain ⟨M, ds, r, _, hv, ⟨_, _, _, rfl, _⟩, _⟩ := h
    exact dpa_len hv
  obtain ⟨M, ds, r, hM, hv, ⟨i, lo, hi, rfl, rfl⟩, q⟩ := h
  obtain ⟨v, v1, v2, rfl, hd, h1, h2⟩ := dpa3 hv
  obtain rfl := dpInt hd
  obtain rfl := dpInt h1
  obtain rfl := dpInt h2
  refine ⟨_, (pss_one (ps_ret (pe_and (pe_callB call_isi (by rfl) T.n_isinstance (by decide +kernel) (pa_cons (pv 0) (pa_cons (pe_bltn (v := .ty "int") rfl T.n_int (by decide +kernel) rfl) pa_nil))) (pe_and (pe_not (pe_callB call_isi (by rfl) T.n_isinstance (by decide +kernel) (pa_cons (pv 0) (pa_cons (pe_bltn (v := .ty "bool") rfl T.n_bool (by decide +kernel) rfl) pa_nil)))) (pe_and (pe_cmpR op_ge (pv 0) (pv 1) (nomark _)) (pe_one (pe_cmpR op_le (pv 0) (pv 2) (nomark _)))))))), ?_⟩
  exact Evl.s_ret (Evl.ev_is (Evl.ev_andV (ev_isi (K := K) (M := M) (de_v hd (by rfl)) (b := true) (kit_int (.int i))) (fun _ => Evl.ev_andV (Evl.ev_notV (ev_isi (K := K) (M := M) (de_v hd (by rfl)) (b := false) (kit_bool (.int i)))) (fun _ => Evl.ev_andV (Evl.ev_op (Evl.ev_var rfl) (Evl.ev_var rfl) Evl.rv_I0) (fun _ => Evl.ev_op (Evl.ev_var rfl) (Evl.ev_var rfl) Evl.rv_I0)))) rfl) fun H1 e => q _ H1 e (.bl _)
/-- [-1000, 1][int(b)] -/
theorem ev_pick01 {σ : L2.St} {H : Hp} {tb : TE} {b : Bool} (h : Evl.Ev tb σ H (.bl b)) : Evl.Ev (tOp (rIxL K) (tLst (tCons (tUn (rU fun i => .int (-i)) (tC (.int 1000))) (tCons (tC (.int 1)) tNil))) (tCB (fun xs H Q => (∃ i, xs = [V.int i] ∧ Q (V.int i) H) ∨ ∃ k, xs = [V.bl k] ∧ Q (V.int (if k = true then 1 else 0)) H) (tCons tb tNil))) σ H (.int (if b = true then 1 else -1000)) := by
  refine Evl.ev_opL1 (xs := [.int (-1000), .int 1]) (y := .int (if b = true then 1 else 0)) (Evl.el_lst (Evl.ea_cons (Evl.ev_un Evl.ev_c Evl.ru_neg) (Evl.ea_cons Evl.ev_c Evl.ea_nil)) (by simp)) (fun H1 e => ?_) (fun r H1 hr0 e => Evl.rv_ixL (Evl.sq_of hr0) ?_)
  · exact fun H6 e6 Q q6 => h.mono e H6 e6 _ fun H7 e7 => .inr ⟨_, rfl, q6 H7 e7⟩
  · cases b <;> rfl
abbrev RCount (L : Nat) : List PyData → PyData → Prop := fun ds r => ∃ (t : Trm) (l : Nat), ds = [enc t, .int (l : Int)] ∧ l < L ∧ r = .int (cI l t)
theorem ok__law_count (T : Top K mg) : ∀ L : Nat, FnOk P w K mg base CX0 (L + 2) T._law_count.f T._law_count.fd ["value", "levels"] (spR K (RCount L))
  | 0 => by
    have no : ∀ vs H Q E, ¬ spR K (RCount 0) vs H Q E := fun vs H Q E h => by
      obtain ⟨_, _, _, _, _, ⟨_, _, _, h, _⟩, _⟩ := h
      omega
    exact ⟨fun vs H Q E h => absurd h (no vs H Q E), fun A outer s H args us vs Q E _ _ _ _ h => absurd h (no vs H Q E)⟩
  | L + 1 => by
    have IH := ok__law_count T L
    refine T._law_count.F.ok sc__law_count (fun vs H Q E h => ?_) (fun cdv A outer s H vs Q E hr h => ?_)
    · obtain ⟨M, ds, r, _, hv, ⟨_, _, rfl, _⟩, _⟩ := h
      exact dpa_len hv
    obtain ⟨M, ds, r, hM, hv, ⟨t, l, rfl, hl, rfl⟩, q⟩ := h
    obtain ⟨v, v1, rfl, hd, h1⟩ := dpa2 hv
    obtain rfl := dpInt h1
    refine ⟨_, (pss_cons (ps_if (PW.pt (pw_or (pt_cmpR op_eq (pv 1) pe_int (nomark _)) (pw_or (pt_not (pt_val (pe_callB call_isi (by rfl) T.n_isinstance (by decide +kernel) (pa_cons (pv 0) (pa_cons (pe_bltn (v := .ty "tuple") rfl T.n_tuple (by decide +kernel) rfl) pa_nil))))) (pw_or (pt_cmpR (op_eqM (hu64 hr)) (pv 0) (pe_tup pa_nil) (nomark _)) (pw_or1 (pt_not (pt_val (pe_callB call_isi (by rfl) T.n_isinstance (by decide +kernel) (pa_cons (pe_ix ix_tup (pv 0) pe_int (fun _ _ => rfl)) (pa_cons (pe_bltn (v := .ty "str") rfl T.n_str (by decide +kernel) rfl) pa_nil)))))))))) (pss_one (ps_ret (pe_un un_neg pe_int))) pss_nil)
      (pss_cons (ps_if (pt_cmpR op_eq (pe_ix ix_tup (pv 0) pe_int (fun _ _ => rfl)) pe_str (nomark _)) (pss_one (ps_ret (pe_ix ix_list (pe_lst (pa_cons (pe_un un_neg pe_int) (pa_cons pe_int pa_nil))) (pe_callTy call_int1 (by rfl) T.n_int (by decide +kernel) (pa_cons (pe_and (pe_cmpR op_eq (pe_callB (r := Evl.rLenS K) call_len_seq (by rfl) T.n_len PySem.boot_len (pa_cons (pv 0) pa_nil)) pe_int (nomark _)) (pe_one (pe_call (ok__law_is_whole T) (hr.mono (by omega)) (by rfl) T._law_is_whole.g T._law_is_whole.F.kp T._law_is_whole.b .nil pass0 (pa_cons (pe_ix ix_tup (pv 0) (pe_un un_neg pe_int) (fun _ _ => rfl)) (pa_cons (pe_un un_neg (pe_op op_powW pe_int pe_int)) (pa_cons (pe_op op_powW pe_int pe_int) pa_nil)))))) pa_nil)) (fun _ _ => rfl)))) pss_nil)
      (pss_cons (ps_if (PW.pt (pw_or (pt_cmpR op_notIn_seq (pe_callB (r := Evl.rLenS K) call_len_seq (by rfl) T.n_len PySem.boot_len (pa_cons (pv 0) pa_nil)) (pe_lst (pa_cons pe_int (pa_cons pe_int pa_nil))) (by with_unfolding_all rfl)) (pw_or1 (PW.pt (pw_and (pt_cmpR op_eq (pe_ix ix_tup (pv 0) pe_int (fun _ _ => rfl)) pe_str (nomark _)) (pw_and1 (pt_cmpR op_eq (pe_callB (r := Evl.rLenS K) call_len_seq (by rfl) T.n_len PySem.boot_len (pa_cons (pv 0) pa_nil)) pe_int (nomark _)))))))) (pss_one (ps_ret (pe_un un_neg pe_int))) pss_nil)
      (pss_cons (ps_if (pt_cmpR op_eq (pe_ix ix_tup (pv 0) pe_int (fun _ _ => rfl)) pe_str (nomark _)) (pss_one (ps_ret (pe_ix ix_list (pe_lst (pa_cons (pe_un un_neg pe_int) (pa_cons pe_int pa_nil))) (pe_callTy call_int1 (by rfl) T.n_int (by decide +kernel) (pa_cons (pe_and (pe_call (ok__law_is_whole T) (hr.mono (by omega)) (by rfl) T._law_is_whole.g T._law_is_whole.F.kp T._law_is_whole.b .nil pass0 (pa_cons (pe_ix ix_tup (pv 0) pe_int (fun _ _ => rfl)) (pa_cons pe_int (pa_cons pe_int pa_nil)))) (pe_one (pe_call (ok__law_is_whole T) (hr.mono (by omega)) (by rfl) T._law_is_whole.g T._law_is_whole.F.kp T._law_is_whole.b .nil pass0 (pa_cons (pe_ix ix_tup (pv 0) pe_int (fun _ _ => rfl)) (pa_cons (pe_un un_neg (pe_op op_powW pe_int pe_int)) (pa_cons (pe_op op_powW pe_int pe_int) pa_nil)))))) pa_nil)) (fun _ _ => rfl)))) pss_nil)
      (pss_cons (ps_if (PW.pt (pw_or (pt_cmpR op_notIn_seq (pe_ix ix_tup (pv 0) pe_int (fun _ _ => rfl)) (pe_lst (pa_cons pe_str (pa_cons pe_str (pa_cons pe_str pa_nil)))) (by with_unfolding_all rfl)) (pw_or1 (pt_cmpR op_ne (pe_callB (r := Evl.rLenS K) call_len_seq (by rfl) T.n_len PySem.boot_len (pa_cons (pv 0) pa_nil)) (pe_op op_add pe_int (pe_callTy call_int1 (by rfl) T.n_int (by decide +kernel) (pa_cons (pe_cmpR op_eq (pe_ix ix_tup (pv 0) pe_int (fun _ _ => rfl)) pe_str (nomark _)) pa_nil))) (nomark _))))) (pss_one (ps_ret (pe_un un_neg pe_int))) pss_nil)
      (pss_cons (ps_set (i := 2) sc__law_count.nd rfl (Or.inl rfl) (pe_ix ix_tup (pv 0) (pe_un un_neg pe_int) (fun _ _ => rfl)))
      (pss_cons (ps_if (PW.pt (pw_or (pt_not (pt_val (pe_callB call_isi (by rfl) T.n_isinstance (by decide +kernel) (pa_cons (pv 2) (pa_cons (pe_bltn (v := .ty "tuple") rfl T.n_tuple (by decide +kernel) rfl) pa_nil))))) (pw_or (pt_cmpR op_lt (pe_callB (r := Evl.rLenS K) call_len_seq (by rfl) T.n_len PySem.boot_len (pa_cons (pv 2) pa_nil)) pe_int (nomark _)) (pw_or1 (pt_cmpR op_gt (pe_callB (r := Evl.rLenS K) call_len_seq (by rfl) T.n_len PySem.boot_len (pa_cons (pv 2) pa_nil)) pe_int (nomark _)))))) (pss_one (ps_ret (pe_un un_neg pe_int))) pss_nil)
      (pss_cons (ps_if (PW.pt (pw_and (pt_cmpR op_eq (pe_ix ix_tup (pv 0) pe_int (fun _ _ => rfl)) pe_str (nomark _)) (pw_and1 (pt_not (pt_val (pe_call (ok__law_is_whole T) (hr.mono (by omega)) (by rfl) T._law_is_whole.g T._law_is_whole.F.kp T._law_is_whole.b .nil pass0 (pa_cons (pe_ix ix_tup (pv 0) pe_int (fun _ _ => rfl)) (pa_cons pe_int (pa_cons (pe_callB (r := Evl.rLenS K) call_len_seq (by rfl) T.n_len PySem.boot_len (pa_cons (pv 2) pa_nil)) pa_nil))))))))) (pss_one (ps_ret (pe_un un_neg pe_int))) pss_nil)
      (pss_one (ps_ret (pe_op op_add pe_int (pe_callB (cr_sum rfl) (by rfl) T.n_sum (by decide +kernel) (pa_cons (pe_lc (own := [("part", 3)]) (g := gName 3) (tt := tYes) rfl sc__law_count.nd (pi_tup (pv 2)) (blkOk_by (N := N__law_count) (sc := defScope s__law_count) (by decide +kernel)) (fun _ _ _ _ _ => (pg_name (i := 3) sc__law_count.nd rfl (Or.inl rfl))) (fun _ _ _ _ _ => pts_nil) (fun _ _ _ _ _ => (pe_call (IH) (hr.mono (by omega)) (by rfl) T._law_count.g T._law_count.F.kp T._law_count.b .nil pass0 (pa_cons (pv 3) (pa_cons (pe_op op_sub (pv 1) pe_int) pa_nil))))) pa_nil))))))))))))), ?_⟩
    have out : ∀ {D : Ends} {te : TE} {σ : L2.St} {H1 : Hp} {i : Int}, D.rt = Q → Evl.Ex H H1 → Evl.Ev te σ H1 (.int i) → cI l t = i → tRet te D σ H1 := fun hD e hev hi => Evl.s_ret hev fun H2 e2 => by
      rw [hD]
      exact q _ H2 (e.trans e2) (by rw [hi]; exact .int _)
    have hlt : ∀ {H1 : Hp} {σ : L2.St}, Evl.Ex H H1 → σ[0]? = some (some v) → Evl.Ev (tCB (Evl.rLenS K) (tCons (tVar 0) tNil)) σ H1 (.int ((encL t).length : Int)) := fun e hs => ev_lenD (K := K) (M := M) (d := .tuple (encL t)) (by rw [← enc_eq]; exact de_v (dm_ex e hd) hs) (.inl rfl)
    have hwd : ∀ {H1 : Hp} {σ : L2.St}, Evl.Ex H H1 → σ[0]? = some (some v) → Evl.Ev (tOp (rIxT K) (tVar 0) (tC (.int 0))) σ H1 (.str (word t)) := fun e hs => ev_word (Evl.ev_var hs) (dm_ex e hd)
    -- the first look
    refine Evl.q_when (b := decide (l = 0)) ?_ (fun hb H1 e1 => ?_) (fun hb H1 e1 => ?_)
    · by_cases h0 : l = 0
      · rw [decide_eq_true h0]
        refine Evl.et_is (Evl.et_or (a := true) (b := false) (Evl.et_is (Evl.et_test (Evl.ev_op (Evl.ev_var rfl) Evl.ev_c (Evl.rv_eq rfl))) (decide_eq_true (by rw [h0]; rfl))) (fun hb => nomatch hb)) rfl
      · rw [decide_eq_false h0]
        have hne : PyData.eqv (.tuple (encL t)) (.tuple []) = false := by
          have := (encL_len t).2
          match encL t, this with
          | _ :: _, _ => rfl
        refine Evl.et_is (Evl.et_or (a := false) (b := false) (Evl.et_is (Evl.et_test (Evl.ev_op (Evl.ev_var rfl) Evl.ev_c (Evl.rv_eq rfl))) (decide_eq_false fun z => h0 (by have := V.int.inj z; omega))) (fun _ => Evl.et_is (Evl.et_or (a := false) (b := false) (Evl.et_is (Evl.et_not (Evl.et_B (ev_isi (K := K) (M := M) (d := .tuple (encL t)) (by rw [← enc_eq]; exact de_v hd (by rfl)) (kit_tuple _)))) rfl)
          (fun _ => Evl.et_is (Evl.et_or (a := false) (b := false) (Evl.et_is (Evl.et_test (ev_eqM (K := K) (M := M) (d := .tuple (encL t)) (by rw [← enc_eq]; exact de_v hd (by rfl)) (de_tup hM da_nil (show 0 ≤ 1000 by decide)) (by rw [← enc_eq]; exact (lay_enc t).1) (by decide) (Nat.le_trans (Nat.min_le_right _ _) (by decide)))) hne)
            (fun _ => Evl.et_is (Evl.et_not (Evl.et_B (ev_isi (K := K) (M := M) (d := .str (word t)) (de_sc (hwd (Evl.Ex.refl _) rfl) rfl) (b := true) (by simp only [tyN]; decide +kernel)))) rfl)) rfl)) rfl)) rfl
    · have h0 : l = 0 := of_decide_eq_true hb
      exact out rfl e1 (Evl.ev_un Evl.ev_c Evl.ru_neg) (by rw [h0]; rfl)
    have h0 : ¬ l = 0 := of_decide_eq_false hb
    obtain ⟨l, rfl⟩ : ∃ k, l = k + 1 := ⟨l - 1, by omega⟩
    have hc : cI (l + 1) t = if form t = true then 1 + ((kids t).map (cI l)).sum else -1000 := rfl
    have cmp : ∀ {x : Str}, Evl.EvT (tTest (tOp rEq (tOp (rIxT K) (tVar 0) (tC (.int 0))) (tC (.str x)))) [some v, some (.int ((l + 1 : Nat) : Int)), none, none] H1 (decide (V.str (word t) = V.str x)) := Evl.et_test (Evl.ev_op (hwd e1 rfl) Evl.ev_c (Evl.rv_eq rfl))
    have wh : ∀ {H2 : Hp} {σ : L2.St} {i lo hi : Int} {t0 t1 t2 : TE} {E : XK}, Evl.Ex H H2 → Evl.Ev t0 σ H2 (.int i) → Evl.Ev t1 σ H2 (.int lo) → Evl.Ev t2 σ H2 (.int hi) → Evl.Ev (tCall (spR K RWhole) [] E (tCons t0 (tCons t1 (tCons t2 tNil)))) σ H2 (.bl (decide (lo ≤ i) && decide (i ≤ hi))) := fun e a b c =>
      ev_sc (de_callR (hM.ex e) (da_cons (de_sc a (d := .int _) rfl) (da_cons (de_sc b (d := .int _) rfl) (da_cons (de_sc c (d := .int _) rfl) da_nil))) (R := RWhole) ⟨_, _, _, rfl, rfl⟩) rfl
    have p30 : ∀ {σ : L2.St} {H : Hp}, Evl.Ev (tOp (rI CPowW fun i j => .int (i ^ j.toNat)) (tC (.int 10)) (tC (.int 30))) σ H (.int (10 ^ 30)) := Evl.ev_is (Evl.ev_op Evl.ev_c Evl.ev_c (Evl.rv_I ⟨by decide, by decide +kernel⟩)) (by decide +kernel)
    have m30 : ∀ {σ : L2.St} {H : Hp}, Evl.Ev (tUn (rU fun i => .int (-i)) (tOp (rI CPowW fun i j => .int (i ^ j.toNat)) (tC (.int 10)) (tC (.int 30)))) σ H (.int (-(10 ^ 30))) := Evl.ev_un p30 Evl.ru_neg
    have dT : ∀ {H1 : Hp} {σ : L2.St}, Evl.Ex H H1 → σ[0]? = some (some v) → DE K M (tVar 0) σ H1 (.tuple (encL t)) := fun e hs => by
      rw [← enc_eq]
      exact de_v (dm_ex e hd) hs
    have notin : ∀ {H2 : Hp} {σ : L2.St} {n : Nat}, Evl.Ev (tCB (Evl.rLenS K) (tCons (tVar 0) tNil)) σ H2 (.int (n : Int)) → Evl.EvT (tTest (tOp (rIn K true) (tCB (Evl.rLenS K) (tCons (tVar 0) tNil)) (tLst (tCons (tC (.int 2)) (tCons (tC (.int 3)) tNil))))) σ H2 (!inV (.int (n : Int)) [.int 2, .int 3]) := fun hn =>
      Evl.et_test (Evl.ev_opL hn (Evl.el_lst (Evl.ea_cons Evl.ev_c (Evl.ea_cons Evl.ev_c Evl.ea_nil)) (by simp)) fun p H1 hp _ => Evl.rv_niL (Evl.sq_of hp) rfl rfl)
    cases t with
    | plain n =>
      refine Evl.q_when (b := true) (Evl.et_is cmp rfl) (fun _ H2 e2 => ?_) (fun hb => nomatch hb)
      have e12 := e1.trans e2
      refine out rfl e12 (ev_pick01 (b := true && num n) (Evl.ev_andV (Evl.ev_is (Evl.ev_op (hlt e12 rfl) Evl.ev_c (Evl.rv_eq rfl)) rfl) (fun _ => wh e12 (ev_sc (de_ixT (dT e12 rfl) (Evl.ev_un Evl.ev_c Evl.ru_neg) (d := .int n) rfl) rfl) m30 p30))) (by rw [hc]; simp [form, kids])
    | price s a =>
      refine Evl.q_when (b := false) (Evl.et_is cmp rfl) (fun hb => nomatch hb) (fun _ H2 e2 => ?_)
      have e12 := e1.trans e2
      refine Evl.q_when (b := false) (Evl.et_is (Evl.et_or (a := false) (b := false) (Evl.et_is (notin (hlt e12 rfl)) rfl) (fun _ => Evl.et_is (Evl.et_and (a := true) (b := false) (Evl.et_is (Evl.et_test (Evl.ev_op (hwd e12 rfl) Evl.ev_c (Evl.rv_eq rfl))) rfl) (fun _ => Evl.et_is (Evl.et_test (Evl.ev_op (hlt e12 rfl) Evl.ev_c (Evl.rv_eq rfl))) rfl)) rfl)) rfl) (fun hb => nomatch hb) (fun _ H3 e3 => ?_)
      have e13 := e12.trans e3
      refine Evl.q_when (b := true) (Evl.et_is (Evl.et_test (Evl.ev_op (hwd e13 rfl) Evl.ev_c (Evl.rv_eq rfl))) rfl) (fun _ H4 e4 => ?_) (fun hb => nomatch hb)
      have e14 := e13.trans e4
      refine out rfl e14 (ev_pick01 (b := form (.price s a)) (Evl.ev_is (Evl.ev_andV (wh e14 (ev_sc (de_ixT (dT e14 rfl) Evl.ev_c (d := .int (s : Int)) rfl) rfl) Evl.ev_c Evl.ev_c) (fun _ => wh e14 (ev_sc (de_ixT (dT e14 rfl) Evl.ev_c (d := .int a) rfl) rfl) m30 p30)) rfl)) (by rw [hc]; simp [kids])
    | node h ps =>
      refine Evl.q_when (b := false) (Evl.et_is cmp (by cases h <;> rfl)) (fun hb => nomatch hb) (fun _ H2 e2 => ?_)
      have e12 := e1.trans e2
      refine Evl.q_when (b := false) (Evl.et_is (Evl.et_or (a := false) (b := false) (Evl.et_is (notin (hlt e12 rfl)) (by cases h <;> rfl)) (fun _ => Evl.et_is (Evl.et_and (a := false) (b := false) (Evl.et_is (Evl.et_test (Evl.ev_op (hwd e12 rfl) Evl.ev_c (Evl.rv_eq rfl))) (by cases h <;> rfl)) (fun hb => nomatch hb)) rfl)) rfl) (fun hb => nomatch hb) (fun _ H3 e3 => ?_)
      have e13 := e12.trans e3
      refine Evl.q_when (b := false) (Evl.et_is (Evl.et_test (Evl.ev_op (hwd e13 rfl) Evl.ev_c (Evl.rv_eq rfl))) (by cases h <;> rfl)) (fun hb => nomatch hb) (fun _ H4 e4 => ?_)
      have e14 := e13.trans e4
      have hint : Evl.Ev (tCB (fun xs H Q => (∃ i, xs = [V.int i] ∧ Q (V.int i) H) ∨ ∃ k, xs = [V.bl k] ∧ Q (V.int (if k = true then 1 else 0)) H) (tCons (tOp rEq (tOp (rIxT K) (tVar 0) (tC (.int 0))) (tC (.str (Str.ofString "rank")))) tNil)) [some v, some (.int ((l + 1 : Nat) : Int)), none, none] H4 (.int (match h with | .rank _ => 1 | _ => 0)) := fun H6 e6 Q q6 => Evl.ev_op (hwd e14 rfl) Evl.ev_c (Evl.rv_eq rfl) H6 e6 _ fun H7 e7 => .inr ⟨_, rfl, by
        have q7 := q6 H7 e7
        cases h <;> exact q7⟩
      refine Evl.q_when (b := false) (Evl.et_is (Evl.et_or (a := false) (b := false) (Evl.et_is (Evl.et_test (Evl.ev_opL (hwd e14 rfl) (Evl.el_lst (Evl.ea_cons Evl.ev_c (Evl.ea_cons Evl.ev_c (Evl.ea_cons Evl.ev_c Evl.ea_nil))) (by simp)) fun p H1 hp _ => Evl.rv_niL (Evl.sq_of hp) rfl rfl)) (by cases h <;> rfl))
        (fun _ => Evl.et_is (Evl.et_test (Evl.ev_op (hlt e14 rfl) (Evl.ev_op Evl.ev_c hint Evl.rv_I0) (Evl.rv_ne rfl))) (by cases h <;> rfl))) rfl) (fun hb => nomatch hb) (fun _ H5 e5 => ?_)
      have e15 := e14.trans e5
      refine q_asgD (de_ixT (dT e15 rfl) (Evl.ev_un Evl.ev_c Evl.ru_neg) (encL_kids (t := .node h ps) rfl)) fun vp H6 e6 hvp => ?_
      have e16 := e15.trans e6
      have hlp : ∀ {H1 : Hp} {σ : L2.St}, Evl.Ex H6 H1 → σ[2]? = some (some vp) → Evl.Ev (tCB (Evl.rLenS K) (tCons (tVar 2) tNil)) σ H1 (.int (ps.length : Int)) := fun e hs => Evl.ev_is (ev_lenD (K := K) (M := M) (de_v (dm_ex e hvp) hs) (.inl rfl)) (by rw [List.length_map]; rfl)
      refine Evl.q_when (b := (decide ((ps.length : Int) < 1) || decide ((6 : Int) < (ps.length : Int)))) (Evl.et_is (Evl.et_or (a := false) (Evl.et_is (Evl.et_not (Evl.et_B (ev_isi (K := K) (M := M) (de_v hvp (by rfl)) (kit_tuple _)))) rfl) (fun _ => Evl.et_or (Evl.et_test (Evl.ev_op (hlp (Evl.Ex.refl _) rfl) Evl.ev_c Evl.rv_I0)) (fun _ => Evl.et_test (Evl.ev_op (hlp (Evl.Ex.refl _) rfl) Evl.ev_c Evl.rv_I0)))) rfl) (fun hb H7 e7 => ?_) (fun hb H7 e7 => ?_)
      · refine out rfl (e16.trans e7) (Evl.ev_un Evl.ev_c Evl.ru_neg) ?_
        rw [hc, if_neg]
        simp only [Bool.or_eq_true, decide_eq_true_eq] at hb
        intro z
        cases h <;> simp [form] at z <;> omega
      have e17 := e16.trans e7
      simp only [Bool.or_eq_false_iff, decide_eq_false_iff_not] at hb
      refine Evl.q_when (b := !form (.node h ps)) (Evl.et_is (Evl.et_and (a := match h with | .rank _ => true | _ => false) (b := match h with | .rank k => !(decide ((1 : Int) ≤ (k : Int)) && decide ((k : Int) ≤ (ps.length : Int))) | _ => false) (Evl.et_is (Evl.et_test (Evl.ev_op (hwd e17 rfl) Evl.ev_c (Evl.rv_eq rfl))) (by cases h <;> rfl))
        (fun hk => ?_)) ?_) (fun hb H8 e8 => ?_) (fun hb H8 e8 => ?_)
      · cases h with
        | least => cases hk
        | most => cases hk
        | rank k => exact Evl.et_not (Evl.et_B (wh e17 (ev_sc (de_ixT (dT e17 rfl) Evl.ev_c (d := .int (k : Int)) rfl) rfl) Evl.ev_c (hlp e7 rfl)))
      · cases h with
        | least => simp [form]; omega
        | most => simp [form]; omega
        | rank k =>
          have h1 : decide ((1 : Int) ≤ (ps.length : Int)) = true := decide_eq_true (by omega)
          have h2 : decide ((ps.length : Int) ≤ 6) = true := decide_eq_true (by omega)
          simp only [form, h1, h2, Bool.true_and]
      · refine out rfl (e17.trans e8) (Evl.ev_un Evl.ev_c Evl.ru_neg) ?_
        rw [hc, if_neg]
        simpa using hb
      · have hform : form (.node h ps) = true := by simpa using hb
        have e18 := e17.trans e8
        refine out rfl e18 (i := 1 + ((kids (.node h ps)).map (cI l)).sum) ?_ (by rw [hc, if_pos hform])
        refine Evl.ev_op Evl.ev_c ?_ Evl.rv_I0
        refine ev_sumL (K := K) (M := M) (is := ps.map (cI l)) ?_
        rw [List.map_map]
        exact dl_lcT (K := K) (M := M) (l := ps) (enc := enc) (f := fun u => .int (cI l u)) (hM.ex e18) (de_v (dm_ex (e7.trans e8) hvp) (by rfl)) (by omega) (fun _ => rfl) (fun u hu x H10 D _ _ hM10 hx =>
          de_callR hM10 (da_cons (de_v hx (by rfl)) (da_cons (de_sc (d := .int (l : Int)) (Evl.ev_is (Evl.ev_op (Evl.ev_var rfl) Evl.ev_c Evl.rv_I0) (congrArg V.int (by omega))) rfl) da_nil)) (R := RCount L) ⟨u, l, rfl, by omega, rfl⟩)
abbrev RIsT : List PyData → PyData → Prop := fun ds r => ∃ t : Trm, ds = [enc t] ∧ cnt t ≤ 1000 ∧ r = .bool (decide (okT t))
theorem ok__law_is_term (T : Top K mg) : FnOk P w K mg base CX0 10 T._law_is_term.f T._law_is_term.fd ["value"] (spR K RIsT) := by
  refine T._law_is_term.F.ok sc__law_is_term (fun vs H Q E h => ?_) (fun cdv A outer s H vs Q E hr h => ?_)
  · obtain ⟨M, ds, r, _, hv, ⟨_, rfl, _⟩, _⟩ := h
    exact dpa_len hv
  obtain ⟨M, ds, r, hM, hv, ⟨t, rfl, h1000, rfl⟩, q⟩ := h
  obtain ⟨v, rfl, hd⟩ := dpa1 hv
  refine ⟨_, (pss_cons (ps_set (i := 1) sc__law_is_term.nd rfl (Or.inl rfl) (pe_call (ok__law_count T 7) (hr.mono (by omega)) (by rfl) T._law_count.g T._law_count.F.kp T._law_count.b .nil pass0 (pa_cons (pv 0) (pa_cons pe_int pa_nil))))
      (pss_one (ps_ret (pe_and (pe_cmpR op_gt (pv 1) pe_int (nomark _)) (pe_one (pe_cmpR op_lt (pv 1) pe_int (nomark _))))))), ?_⟩
  refine Evl.q_asg (ev_sc (de_callR (E := E0) hM (da_cons (de_v hd (by rfl)) (da_cons (de_sc (d := .int ((6 : Nat) : Int)) Evl.ev_c rfl) da_nil)) (R := RCount 7) ⟨t, 6, rfl, by decide, rfl⟩) rfl) fun H1 e1 => ?_
  exact Evl.s_ret (Evl.ev_is (Evl.ev_andV (Evl.ev_op (Evl.ev_var rfl) Evl.ev_c Evl.rv_I0) (fun _ => Evl.ev_op (Evl.ev_var rfl) Evl.ev_c Evl.rv_I0)) (congrArg V.bl (cI_ok h1000))) fun H2 e2 => q _ H2 (e1.trans e2) (.bl _)
end
end K04

set_option Elab.async false
set_option linter.all false
set_option maxRecDepth 100000
set_option maxHeartbeats 4000000
namespace K04
open PySem PySem.Spec PyProof.Rows L2 DK DD TM TX SX RD RT LS XC2
/-- what else is asked of the errors -/
structure Exs (K : PySem.W.Frag) (mg : Str → Option Value) (T : Top K mg) where
  S : Addr
  gS : mg "SpinError" = some (.ref S)
  kit : Kit K [T.InvalidTerm.C, T.o_InvalidText.C] S
  n_ValueError : mg "ValueError" = none
theorem tyx_ex {K : PySem.W.Frag} {H H' : Hp} {v : V} {t : Value} (e : Evl.Ex H H') (h : TyX K H v t) : TyX K H' v t := by
  cases h with
  | base b =>
    cases b with
    | non => exact .base .non
    | bl x => exact .base (.bl x)
    | int i => exact .base (.int i)
    | str x => exact .base (.str x)
    | flt x => exact .base (.flt x)
    | lst h => exact .base (.lst (e _ _ h))
    | frz h => exact .base (.frz (e _ _ h))
    | tup h => exact .base (.tup (e _ _ h))
    | dK h => exact .base (.dK (e _ _ h))
    | dT h => exact .base (.dT (e _ _ h))
    | ins h cl ha hn htk hm => exact .base (.ins (e _ _ h) cl ha hn htk hm)
  | byt b => exact .byt b
  | set h => exact .set (e _ _ h)
  | kList h c => exact .kList h c
  | kTuple h c => exact .kTuple h c
  | kDict h c => exact .kDict h c
  | fTuple h => exact .fTuple (e _ _ h)
  | fDict h => exact .fDict (e _ _ h)
theorem mk_bad0 {te : TE} {σ : L2.St} {H H2 : Hp} {E : XK} {CT : Addr} {k : Nat} (hev : Evl.Ev te σ H2 (.int (k : Int))) (e' : Evl.Ex H H2) (hb : ∀ d H', H d = none → Evl.Ex H H' → H' d = some (.xd [("at", .int (k : Int))]) → E (.ref CT) (some d) H') :
    tMkO CT (spIT CT) [] (tCons te tNil) σ H2 fun cls d H' => E cls d H' := hev H2 (Evl.Ex.refl _) _ fun H2 e2 => by
  have e := e'.trans e2
  refine ⟨(show 1 ≤ 1000 by decide), fun a ha => ⟨a, .int (k : Int), rfl, upd_same, fun d H' hd hda hbb hdx hax => ⟨rfl, d, _, hax, hdx, ?_, ?_⟩⟩⟩
  · rw [upd_ne hda] at hd
    exact hd
  · rw [upd_ne hda] at hd
    have keep : ∀ b o, H2 b = some o → L2.upd (L2.del H' a) d (.xd [("at", .int (k : Int))]) b = some o := fun b o hbo => by
      have hba : b ≠ a := fun z => by
        rw [z, ha] at hbo
        cases hbo
      have hbd : b ≠ d := fun z => by
        rw [z, hd] at hbo
        cases hbo
      rw [upd_ne hbd]
      unfold L2.del
      simp only [hba, if_false]
      rw [hbb b hbd hba, upd_ne hba]
      exact hbo
    exact hb d _ (Evl.fresh_back e hd) (fun b o hbo => keep b o (e b o hbo)) upd_same
open Classical in
/-- what _law_read returns of a text -/
noncomputable def readD (cs : List Nat) : PyData := match gRead cs with
  | .ok t _ => if okT t then .list [.str "good", enc t] else .list [.str "none", .none]
  | .bad k => .list [.str "wrong", .int (k : Int)]
section
variable {P : Program} {w : World} {K : PySem.W.Frag} {mg : Str → Option Value} {base : Heap}
/-- read_term of a value that is no text -/
def spReadV (K : PySem.W.Frag) (CT : Addr) : Sp := fun vs H Q E => ∃ (v : V) (tn : String), vs = [v] ∧ TyX K H v (.type tn) ∧ kitB tn "str" = some false ∧
  (∀ d H', H d = none → Evl.Ex H H' → H' d = some (.xd [("at", .int ((0 : Nat) : Int))]) → E (.ref CT) (some d) H')
theorem ok_read_termV (T : Top K mg) : FnOk P w K mg base (CX P w) 9 T.read_term.f T.read_term.fd ["text"] (spReadV K T.o_InvalidText.C) := by
  refine T.read_term.F.okX sc_read_term (fun vs H Q E h => ?_) (fun cdv A outer s H vs Q E hr h => ?_)
  · obtain ⟨_, _, rfl, _⟩ := h
    rfl
  obtain ⟨v, tn, rfl, hty, hk, qE⟩ := h
  refine ⟨_, (pss_cons (ps_if (pt_not (pt_val (pe_callB call_isi (by rfl) T.n_isinstance (by decide +kernel) (pa_cons (pv 0) (pa_cons (pe_bltn (v := .ty "str") rfl T.n_str (by decide +kernel) rfl) pa_nil))))) (pss_one (ps_raise rfl (takes_of rfl rfl rfl rfl) (pmk_oex T.o_InvalidText.T T.o_InvalidText.iC T.o_InvalidText.tI (ok_InvalidText T) (hr.mono (by omega)) T.o_InvalidText.b .nil pass0 (by rfl) T.o_InvalidText.g (pa_cons pe_int pa_nil)))) pss_nil)
      (pss_cons (ps_set (i := 1) sc_read_term.nd rfl (Or.inl rfl) (pe_make T.R_mk (ok_Reader_init T) (hr.mono (by omega)) (by rfl) T.R.g T.R_init.b .nil pass0 (pa_cons (pv 0) pa_nil)))
      (pss_cons (ps_set (i := 2) sc_read_term.nd rfl (Or.inl rfl) (pe_call (ok__read_whole T) (hr.mono (by omega)) (by rfl) T._read_whole.g T._read_whole.F.kp T._read_whole.b .nil (passE (takes_of rfl rfl rfl rfl)) (pa_cons (pv 1) pa_nil)))
      (pss_cons (ps_if (pt_cmpR op_ne (pe_meth0 (pv 1) T.R.cl T.R_peek.m (ok_Reader_peek T) (hr.mono (by omega)) T.R_peek.b .nil pass0) pe_str (nomark _)) (pss_one (ps_raise rfl (takes_of rfl rfl rfl rfl) (pmk_oex T.o_InvalidText.T T.o_InvalidText.iC T.o_InvalidText.tI (ok_InvalidText T) (hr.mono (by omega)) T.o_InvalidText.b .nil pass0 (by rfl) T.o_InvalidText.g (pa_cons (pe_fld (pv 1) rfl) pa_nil)))) pss_nil)
      (pss_cons (ps_expr (pe_call (ok_check_term T) (hr.mono (by omega)) (by rfl) T.check_term.g T.check_term.F.kp T.check_term.b .nil (passE (takes_of rfl rfl rfl rfl)) (pa_cons (pv 2) pa_nil)))
      (pss_one (ps_ret (pv 2)))))))), ?_⟩
  refine ⟨v, rfl, ⟨v, .ty "str", .type tn, .type "str", false, rfl, .ty "str", hty, kit_ty hk, false, rfl, ?_⟩⟩
  dsimp only
  rw [if_pos (by decide)]
  exact mk_bad0 (k := 0) Evl.ev_c (Evl.Ex.refl _) qE
def spReadB (K : PySem.W.Frag) (CT CI : Addr) : Sp := fun vs H Q E => spRead K CT CI vs H Q E ∨ spReadV K CT vs H Q E
theorem ok_read_termB (T : Top K mg) : FnOk P w K mg base (CX P w) 9 T.read_term.f T.read_term.fd ["text"] (spReadB K T.o_InvalidText.C T.InvalidTerm.C) := fn_or (ok_read_term T) (ok_read_termV T)
/-- _law_read(value) -/
def spLRead (K : PySem.W.Frag) : Sp := fun vs H Q _ => ∃ (M : List Addr) (r : PyData), Dom M H ∧ ((∃ cs, vs = [.str (S cs)] ∧ cs.length ≤ 90000 ∧ r = readD cs) ∨ (∃ v tn, vs = [v] ∧ TyX K H v (.type tn) ∧ kitB tn "str" = some false ∧ r = .list [.str "wrong", .int ((0 : Nat) : Int)])) ∧
  ∀ v H', Evl.Ex H H' → Dm K M H' v r → Q v H'
theorem ok__law_read (T : Top K mg) (X : Exs K mg T) : FnOk P w K mg base CX0 11 T._law_read.f T._law_read.fd ["text"] (spLRead K) := by
  refine T._law_read.F.ok sc__law_read (fun vs H Q E h => ?_) (fun cdv A outer s H vs Q E hr h => ?_)
  · obtain ⟨M, r, _, ⟨_, rfl, _⟩ | ⟨_, _, rfl, _⟩, _⟩ := h <;> rfl
  obtain ⟨M, r, hM, harg, q⟩ := h
  refine ⟨_, (pss_cons (ps_set (i := 1) sc__law_read.nd rfl (Or.inl rfl) pe_non)
      (pss_cons (ps_set (i := 2) sc__law_read.nd rfl (Or.inl rfl) pe_non)
      (pss_cons (ps_kept (i := 3) rfl rfl sc__law_read.nd rfl rfl rfl (by decide) X.gS rfl (fun W pn xe tk _ => (pss_one (ps_set (i := 2) sc__law_read.nd rfl (Or.inl rfl) (pe_callS (ok_read_termB T) (hr.mono (by omega)) (by rfl) T.read_term.g T.read_term.F.kp T.read_term.b (fun σ => passAt tk σ) (pa_cons (pv 0) pa_nil))))) (fun a oe cls d pn _ _ => (pss_one (ps_set (i := 1) sc__law_read.nd rfl (Or.inl rfl) (pv 3)))))
      (pss_cons (ps_if (pt_cmpR op_isN (pv 1) pe_non (nomark _)) (pss_one (ps_ret (pe_lst (pa_cons pe_str (pa_cons (pv 2) pa_nil))))) pss_nil)
      (pss_cons (ps_if (PW.pt (pw_and (pt_val (pe_callB call_isC (by rfl) T.n_isinstance (by decide +kernel) (pa_cons (pv 1) (pa_cons (pe_glob (v := .ref T.InvalidTerm.C) rfl T.InvalidTerm.g rfl) pa_nil)))) (pw_and (pt_not (pt_val (pe_callB call_isC (by rfl) T.n_isinstance (by decide +kernel) (pa_cons (pv 1) (pa_cons (pe_glob (v := .ref T.o_InvalidText.C) rfl T.o_InvalidText.g rfl) pa_nil))))) (pw_and1 (pt_val (pe_callB call_isC (by rfl) T.n_isinstance (by decide +kernel) (pa_cons (pv 1) (pa_cons (pe_bltn (v := .ty "ValueError") rfl X.n_ValueError (by decide +kernel) rfl) pa_nil)))))))) (pss_one (ps_ret (pe_lst (pa_cons pe_str (pa_cons pe_non pa_nil))))) pss_nil)
      (pss_cons (ps_if (PW.pt (pw_or (pt_not (pt_val (pe_callB call_isC (by rfl) T.n_isinstance (by decide +kernel) (pa_cons (pv 1) (pa_cons (pe_glob (v := .ref T.o_InvalidText.C) rfl T.o_InvalidText.g rfl) pa_nil))))) (pw_or (pt_val (pe_callB call_isC (by rfl) T.n_isinstance (by decide +kernel) (pa_cons (pv 1) (pa_cons (pe_glob (v := .ref T.InvalidTerm.C) rfl T.InvalidTerm.g rfl) pa_nil)))) (pw_or1 (pt_not (pt_val (pe_callB call_isC (by rfl) T.n_isinstance (by decide +kernel) (pa_cons (pv 1) (pa_cons (pe_bltn (v := .ty "ValueError") rfl X.n_ValueError (by decide +kernel) rfl) pa_nil))))))))) (pss_one (ps_ret (pe_lst (pa_cons pe_str (pa_cons pe_non pa_nil))))) pss_nil)
      (pss_one (ps_ret (pe_lst (pa_cons pe_str (pa_cons (pe_xc (pv 1)) pa_nil))))))))))), ?_⟩
  have eI := X.kit.em 0 _ rfl
  have eT := X.kit.em 1 _ rfl
  obtain ⟨x, rfl⟩ : ∃ x, vs = [x] := by
    rcases harg with ⟨_, rfl, _⟩ | ⟨_, _, rfl, _⟩ <;> exact ⟨_, rfl⟩
  refine Evl.q_asg Evl.ev_c fun H1 e1 => ?_
  refine Evl.q_asg Evl.ev_c fun H2 e2 => ?_
  have e12 := e1.trans e2
  refine q_word (fun σ' H' => Evl.Ex H H' ∧ ((∃ v t, σ' = [some x, some .non, some v, none] ∧ r = .list [.str "good", enc t] ∧ Dm K M H' v (enc t)) ∨
      (∃ (a C : Addr) (fs : List (Str × V)) (i : Nat), σ' = [some x, some (.ref a), some .non, none] ∧ [T.InvalidTerm.C, T.o_InvalidText.C][i]? = some C ∧ CxV H' a C fs ∧ (i = 0 → r = .list [.str "none", .none]) ∧ (i = 1 → ∃ k : Nat, fs = ([("at", V.int (k : Int))] : List (Str × V)) ∧ r = .list [.str "wrong", .int (k : Int)]))))
    (fun N hN => ?_) (fun σ' H' hW => ?_)
  · have badT : ∀ {k : Nat} {d : Addr} {H' : Hp}, r = .list [.str "wrong", .int (k : Int)] → Evl.Ex H H' → H' d = some (.xd [("at", .int (k : Int))]) → ∀ a, H' a = none → N [some x, some (.ref a), some .non, none] (upd H' a (ExC (.ref T.o_InvalidText.C) (some d) a)) := fun hr e hd a na =>
      hN _ _ ⟨e.trans (Evl.Ex.new na), .inr ⟨a, T.o_InvalidText.C, _, 1, rfl, rfl, .inr ⟨_, upd_same, by rw [upd_ne (ne_of_none hd na)]; exact hd⟩, (fun z => nomatch z), fun _ => ⟨_, rfl, hr⟩⟩⟩
    rcases harg with ⟨cs, hx, h9, hr⟩ | ⟨v, tn, hx, hty, hk, hr⟩
    · obtain rfl : x = .str (S cs) := (List.cons.inj hx).1
      refine ⟨_, rfl, .inl ⟨M, cs, rfl, h9, hM.ex e12, fun t k v H' hg hok e hv => ?_, fun t k H' hg hok e => ?_, fun k d H' hg hd e hdx => ?_⟩⟩
      · have hr2 : r = .list [.str "good", enc t] := by
          rw [hr]
          unfold readD
          rw [hg]
          exact if_pos hok
        exact hN _ _ ⟨e12.trans e, .inl ⟨v, t, rfl, hr2, hv⟩⟩
      · have hr2 : r = .list [.str "none", .none] := by
          rw [hr]
          unfold readD
          rw [hg]
          exact if_neg hok
        refine ⟨eI, fun a na => ⟨_, rfl, ?_⟩⟩
        exact hN _ _ ⟨(e12.trans e).trans (Evl.Ex.new na), .inr ⟨a, T.InvalidTerm.C, [], 0, rfl, rfl, .inl ⟨rfl, upd_same⟩, fun _ => hr2, fun z => nomatch z⟩⟩
      · have hr2 : r = .list [.str "wrong", .int (k : Int)] := by
          rw [hr]
          unfold readD
          rw [hg]
        exact ⟨eT, fun a na => ⟨_, rfl, badT hr2 (e12.trans e) hdx a na⟩⟩
    · obtain rfl : x = v := (List.cons.inj hx).1
      refine ⟨_, rfl, .inr ⟨x, tn, rfl, tyx_ex e12 hty, hk, fun d H' hd e hdx => ?_⟩⟩
      exact ⟨eT, fun a na => ⟨_, rfl, badT hr (e12.trans e) hdx a na⟩⟩
  obtain ⟨eH, hW⟩ := hW
  rcases hW with ⟨v, t, rfl, hr, hv⟩ | ⟨a, C, fs, i, rfl, hC, hc, h0, h1⟩
  · refine Evl.q_when (b := true) (Evl.et_test (Evl.ev_is (Evl.ev_op (Evl.ev_var rfl) Evl.ev_c (fun H1 _ Q q => ⟨rfl, q H1 (Evl.Ex.refl _)⟩)) rfl)) (fun _ H3 e3 => ?_) (fun hb => nomatch hb)
    rw [hr] at q
    have eH3 := eH.trans e3
    exact s_retD (K := K) (M := M) (de_dl (hM.ex eH3) (dl_lst (da_cons (de_sc Evl.ev_c (d := .str "good") rfl) (da_cons (de_v (dm_ex e3 hv) (by rfl)) da_nil)) (show 2 ≤ 1000 by decide))) fun v6 H6 e6 hv6 => q v6 H6 (eH3.trans e6) hv6
  · refine Evl.q_when (b := false) (Evl.et_test (Evl.ev_is (Evl.ev_op (Evl.ev_var rfl) Evl.ev_c (fun H1 _ Q q => ⟨rfl, q H1 (Evl.Ex.refl _)⟩)) rfl)) (fun hb => nomatch hb) (fun _ H3 e3 => ?_)
    have eH3 := eH.trans e3
    have hc3 := hc.ex e3
    have kI : ∀ {H4 : Hp}, Evl.Ex H3 H4 → Evl.EvT (tB (tCB (rIsC K) (tCons (tVar 1) (tCons (tC (.ref T.InvalidTerm.C)) tNil)))) [some x, some (.ref a), some .non, none] H4 (decide (i = 0)) := fun e => Evl.et_B (ev_isC (Evl.ev_var rfl) (hc3.ex e) (X.kit.xc i C hC) (.own _) (X.kit.ll i 0 C _ hC rfl))
    have kT : ∀ {H4 : Hp}, Evl.Ex H3 H4 → Evl.EvT (tB (tCB (rIsC K) (tCons (tVar 1) (tCons (tC (.ref T.o_InvalidText.C)) tNil)))) [some x, some (.ref a), some .non, none] H4 (decide (i = 1)) := fun e => Evl.et_B (ev_isC (Evl.ev_var rfl) (hc3.ex e) (X.kit.xc i C hC) (.own _) (X.kit.ll i 1 C _ hC rfl))
    have kV : ∀ {H4 : Hp}, Evl.Ex H3 H4 → Evl.EvT (tB (tCB (rIsC K) (tCons (tVar 1) (tCons (tC (.ty "ValueError")) tNil)))) [some x, some (.ref a), some .non, none] H4 true := fun e => Evl.et_B (ev_isC (Evl.ev_var rfl) (hc3.ex e) (X.kit.xc i C hC) (.ty _) (X.kit.lv i C hC))
    have hi : i = 0 ∨ i = 1 := by
      have := (List.getElem?_eq_some_iff.mp hC).1
      simp only [List.length_cons, List.length_nil] at this
      omega
    have e0 := Evl.Ex.refl H3
    rcases hi with rfl | rfl
    · refine Evl.q_when (b := true) (Evl.et_is (Evl.et_and (kI e0) (fun _ => Evl.et_and (Evl.et_not (kT e0)) (fun _ => kV e0))) rfl) (fun _ H4 e4 => ?_) (fun hb => nomatch hb)
      rw [h0 rfl] at q
      have eH4 := eH3.trans e4
      exact s_retD (K := K) (M := M) (de_dl (hM.ex eH4) (dl_lst (da_cons (de_sc Evl.ev_c (d := .str "none") rfl) (da_cons (de_sc Evl.ev_c (d := .none) rfl) da_nil)) (show 2 ≤ 1000 by decide))) fun v6 H6 e6 hv6 => q v6 H6 (eH4.trans e6) hv6
    · refine Evl.q_when (b := false) (Evl.et_is (Evl.et_and (b := true) (kI e0) (fun hb => nomatch hb)) rfl) (fun hb => nomatch hb) (fun _ H4 e4 => ?_)
      refine Evl.q_when (b := false) (Evl.et_is (Evl.et_or (Evl.et_not (kT e4)) (fun _ => Evl.et_or (kI e4) (fun _ => Evl.et_not (kV e4)))) rfl) (fun hb => nomatch hb) (fun _ H5 e5 => ?_)
      obtain ⟨k, rfl, hr⟩ := h1 rfl
      rw [hr] at q
      have e35 := e4.trans e5
      have eH5 := eH3.trans e35
      exact s_retD (K := K) (M := M) (de_dl (hM.ex eH5) (dl_lst (da_cons (de_sc Evl.ev_c (d := .str "wrong") rfl) (da_cons (de_sc (ev_xc (Evl.ev_var rfl) (hc3.ex e35) (X.kit.xc 1 C hC) (by cases hC; exact T.nof1) (v := .int (k : Int)) (by simp [List.lookup])) (d := .int (k : Int)) rfl) da_nil)) (show 2 ≤ 1000 by decide))) fun v6 H6 e6 hv6 => q v6 H6 (eH5.trans e6) hv6
end
end K04

set_option Elab.async false
set_option linter.all false
set_option maxRecDepth 100000
set_option maxHeartbeats 4000000
namespace K04
open PySem PySem.Spec PyProof.Rows L2 DK DD TM TX SX RD RT LS XC2
/-- how many brackets open and commas stand in a text -/
def nbr (cs : List Nat) : Nat := (cs.filter fun c => decide (c = 40 ∨ c = 44)).length
theorem nbr_app (a b : List Nat) : nbr (a ++ b) = nbr a + nbr b := by simp [nbr]
theorem nbr_le (a : List Nat) : nbr a ≤ a.length := List.length_filter_le _ _
theorem nbr_drop {cs : List Nat} {n k : Nat} (h : n ≤ k) : nbr (cs.drop k) ≤ nbr (cs.drop n) := by
  obtain ⟨d, rfl⟩ : ∃ d, k = n + d := ⟨k - n, by omega⟩
  rw [← List.drop_drop]
  have := nbr_app ((cs.drop n).take d) ((cs.drop n).drop d)
  rw [List.take_append_drop] at this
  omega
theorem nbr_at {cs : List Nat} {k c : Nat} (h : cs[k]? = some c) (hc : c = 40 ∨ c = 44) : nbr (cs.drop (k + 1)) + 1 = nbr (cs.drop k) := by
  obtain ⟨h1, h2⟩ := List.getElem?_eq_some_iff.mp h
  rw [List.drop_eq_getElem_cons h1, h2]
  unfold nbr
  rw [List.filter_cons, if_pos (decide_eq_true hc)]
  rfl
theorem nbr_sub {cs : List Nat} : nbr (cs.drop 0) = nbr cs := rfl
def pw : Pl → Nat
  | [] => 0
  | e :: pl => cnts e.2 + 1 + pw pl
theorem gStart_cnt {cs : List Nat} {n k : Nat} {u : Trm} (h : gStart cs n = .ok (.inl u) k) : cnt u = 1 := by
  have := gStart_leaf h
  match u, this with
  | .price _ _, _ => rfl
  | .plain _, _ => rfl
theorem gSign_some {al cs : List Nat} {n c k : Nat} (h : gSign al cs n = .ok c k) : cs[sk cs n]? = some c ∧ k = sk cs n + 1 ∧ c ∈ al := by
  unfold gSign at h
  cases hg : cs[sk cs n]? with
  | none => rw [hg] at h; cases h
  | some d =>
    rw [hg] at h
    dsimp only at h
    split at h
    · rename_i hd
      cases h
      exact ⟨rfl, rfl, hd⟩
    · cases h
theorem gClose_cnt {cs : List Nat} : ∀ {pl : Pl} {x : Trm} {n : Nat} {a : Trm ⊕ Pl} {j : Nat}, gClose cs pl x n = .ok a j →
    (∀ t, a = .inl t → cnt t = pw pl + cnt x) ∧ (∀ pl', a = .inr pl' → pw pl' = pw pl + cnt x ∧ nbr (cs.drop j) + 1 ≤ nbr (cs.drop n))
  | [], x, n, a, j, h => by
    unfold gClose at h
    cases h
    exact ⟨(fun t ht => by (cases ht; simp [pw])), (fun pl' h => by cases h)⟩
  | (h1, ps) :: pl, x, n, a, j, h => by
    unfold gClose at h
    cases hg : gSign [44, 41] cs n with
    | bad i =>
      rw [hg] at h
      cases h
    | ok c i =>
      rw [hg] at h
      obtain ⟨g1, g2, g3⟩ := gSign_some hg
      have hle := le_sk cs n
      dsimp only at h
      split at h
      · rename_i h44
        cases h
        refine ⟨(fun t ht => nomatch ht), fun pl' h => ?_⟩
        cases h
        have e1 := nbr_at g1 (.inr h44)
        have e2 := nbr_drop (cs := cs) hle
        rw [g2]
        simp only [pw, cnts_app, cnts]
        omega
      · have ih := gClose_cnt h
        have e2 := nbr_drop (cs := cs) (show n ≤ i by omega)
        simp only [TM.cnt, cnts_app, cnts, pw] at ih ⊢
        refine ⟨(fun t ht => by (have := ih.1 t ht; omega)), fun pl' h => ?_⟩
        have := ih.2 pl' h
        omega
theorem gLoop_cnt {cs : List Nat} : ∀ {f : Nat} {pl : Pl} {n : Nat} {t : Trm} {k : Nat}, n ≤ cs.length → gLoop cs f pl n = .ok t k → cnt t ≤ pw pl + 1 + nbr (cs.drop n)
  | 0, pl, n, t, k, hn, h => by
    unfold gLoop at h
    cases h
  | f + 1, pl, n, t, k, hn, h => by
    unfold gLoop at h
    cases hs : gStart cs n with
    | bad i =>
      rw [hs] at h
      cases h
    | ok a i =>
      rw [hs] at h
      have hle := gStart_le hn hs
      have e0 := nbr_drop (cs := cs) (show n ≤ i by omega)
      cases a with
      | inl u =>
        dsimp only at h
        have hu := gStart_cnt hs
        cases hc : gClose cs pl u i with
        | bad j =>
          rw [hc] at h
          cases h
        | ok b j =>
          rw [hc] at h
          have hcc := gClose_cnt hc
          have hcl := gClose_le hle.2 hc
          cases b with
          | inl t' =>
            cases h
            have := hcc.1 t rfl
            omega
          | inr pl' =>
            have := hcc.2 pl' rfl
            have ih := gLoop_cnt hcl.2 h
            omega
      | inr hd =>
        dsimp only at h
        cases hg : gSign [40] cs i with
        | bad j =>
          rw [hg] at h
          cases h
        | ok c j =>
          rw [hg] at h
          obtain ⟨g1, g2, g3⟩ := gSign_some hg
          have hlt := (List.getElem?_eq_some_iff.mp g1).1
          have hsk := le_sk cs i
          have ih := gLoop_cnt (n := j) (by omega) h
          have h40 : c = 40 := by simpa using g3
          have e1 := nbr_at g1 (.inl h40)
          have e2 := nbr_drop (cs := cs) hsk
          rw [← g2] at e1
          simp only [pw, cnts] at ih
          omega
theorem gRead_cnt {cs : List Nat} {t : Trm} {k : Nat} (h : gRead cs = .ok t k) : cnt t ≤ 1 + nbr cs := by
  unfold gRead at h
  cases hg : gLoop cs (cs.length + 1) [] 0 with
  | bad j =>
    rw [hg] at h
    cases h
  | ok u j =>
    rw [hg] at h
    dsimp only at h
    split at h
    · cases h
      have := gLoop_cnt (Nat.zero_le _) hg
      simp only [pw, List.drop_zero] at this
      omega
    · cases h
theorem due_read (cs : List Nat) : dueD (lLoop cs (cs.length + 1) [] (sk cs 0)) = dueD (gRead cs) := by
  rw [rel_loop cs (cs.length + 1) [] 0 (Nat.zero_le _) (by omega)]
  unfold gRead
  cases gLoop cs (cs.length + 1) [] 0 with
  | bad j => rfl
  | ok u j =>
    dsimp only [gFin]
    split <;> rfl
/-! the text of a term -/
theorem nbr_dg (m : Nat) : nbr (dg m) = 0 := by
  unfold nbr
  rw [List.length_eq_zero_iff, List.filter_eq_nil_iff]
  intro c hc
  obtain ⟨d, hd, rfl⟩ := digs_at (dg_digs m c hc)
  simp
  omega
theorem nbr_hd (h : Hd) : nbr (hdc h) = 0 := by
  cases h with
  | least => rfl
  | most => rfl
  | rank k =>
    show nbr ([114, 97, 110, 107, 32] ++ dg k) = 0
    rw [nbr_app, nbr_dg]
    rfl
mutual
theorem nbr_wrc : ∀ t : Trm, fr t = true → nbr (wrc t) + 1 = cnt t
  | .price s a, h => by
    have hs : s ≤ 5 := by
      simp [fr, form] at h
      omega
    have h1 : nbr (addc a) = 0 := by
      unfold addc
      split
      · rfl
      · rw [nbr_app, nbr_dg]
        split <;> rfl
    have h2 : nbr (wrc (.price s a)) = nbr [97 + s] + nbr (addc a) := by
      rw [← nbr_app]
      rfl
    have h3 : nbr [97 + s] = 0 := by
      unfold nbr
      rw [List.filter_cons, if_neg (by simp; omega)]
      rfl
    rw [h2, h1, h3]
    rfl
  | .plain n, h => by
    have : nbr (wrc (.plain n)) = 0 := by
      show nbr (intc n) = 0
      unfold intc
      rw [nbr_app, nbr_dg]
      split <;> rfl
    rw [this]
    rfl
  | .node h ps, hf => by
    simp only [fr, Bool.and_eq_true] at hf
    have h1 : ps ≠ [] := by
      intro z
      subst z
      have := hf.1
      cases h <;> simp [form] at this
    have := nbr_wrcs ps hf.2 h1
    show nbr (hdc h ++ ([40] ++ (TL.joinL [44, 32] (wrcs ps) ++ [41]))) + 1 = cnts ps + 1
    rw [nbr_app, nbr_app, nbr_app, nbr_hd]
    have e1 : nbr [40] = 1 := rfl
    have e2 : nbr [41] = 0 := rfl
    omega
theorem nbr_wrcs : ∀ ts : List Trm, TM.frs ts = true → ts ≠ [] → nbr (TL.joinL [44, 32] (wrcs ts)) + 1 = cnts ts
  | [], _, h => absurd rfl h
  | [t], h, _ => by
    simp only [TM.frs, Bool.and_eq_true] at h
    have := nbr_wrc t h.1
    simp only [wrcs, TL.joinL, cnts]
    omega
  | t :: u :: ts, h, _ => by
    simp only [TM.frs, Bool.and_eq_true] at h
    have h1 := nbr_wrc t h.1
    have h2 := nbr_wrcs (u :: ts) (by simp only [TM.frs, Bool.and_eq_true]; exact h.2) (by simp)
    have e : TL.joinL [44, 32] (wrcs (t :: u :: ts)) = wrc t ++ ([44, 32] ++ TL.joinL [44, 32] (wrcs (u :: ts))) := by
      simp only [wrcs, TL.joinL]
      try simp
    rw [e, nbr_app, nbr_app]
    have e1 : nbr [44, 32] = 1 := rfl
    simp only [cnts] at h2 ⊢
    omega
end
end K04

set_option Elab.async false
set_option linter.all false
set_option maxRecDepth 100000
set_option maxHeartbeats 4000000
namespace K04
open PySem PySem.Spec PyProof.Rows L2 DK DD TM TX SX RD RT LS XC2 Evl
/-- a text, not too long, with not too many brackets and commas -/
def OkW (a b : Nat) (v : V) : Prop := ∃ w : List Nat, v = .str (S w) ∧ w.length ≤ a ∧ nbr w ≤ b
theorem OkW.mono {a b a' b' : Nat} {v : V} (h : OkW a b v) (ha : a ≤ a') (hb : b ≤ b') : OkW a' b' v := by
  obtain ⟨w, h1, h2, h3⟩ := h
  exact ⟨w, h1, by omega, by omega⟩
def EW (a b : Nat) (te : TE) (σ : L2.St) (H : Hp) : Prop := ∀ H1, Ex H H1 → ∀ Q : VK, (∀ v H2, OkW a b v → Ex H1 H2 → Q v H2) → te σ H1 Q
def AW (n a b : Nat) (ta : TA) (σ : L2.St) (H : Hp) : Prop := ∀ H1, Ex H H1 → ∀ Q : List V → Hp → Prop, (∀ vs H2, vs.length = n → (∀ v ∈ vs, OkW a b v) → Ex H1 H2 → Q vs H2) → ta σ H1 Q
def LW (n a b : Nat) (te : TE) (σ : L2.St) (H : Hp) : Prop := ∀ H1, Ex H H1 → ∀ Q : VK, (∀ p xs H2, H1 p = none → Ex H1 H2 → H2 p = some (.lst xs) → xs.length = n → (∀ v ∈ xs, OkW a b v) → Q (.ref p) H2) → te σ H1 Q
section
variable {K : PySem.W.Frag} {σ : L2.St} {H H' : Hp} {te ta tb : TE} {t : TA} {a b a' b' n m : Nat}
theorem EW.mono (h : EW a b te σ H) (ha : a ≤ a') (hb : b ≤ b') : EW a' b' te σ H := fun H1 e Q q => h H1 e Q fun v H2 w e2 => q v H2 (w.mono ha hb) e2
theorem EW.ex (e : Ex H H') (h : EW a b te σ H) : EW a b te σ H' := fun H1 e1 Q q => h H1 (e.trans e1) Q q
def okc (a b : Nat) (z : Str) : Bool := decide (z.cps.size ≤ a) && decide (nbr z.cps.toList ≤ b)
theorem okw_c {z : Str} (h : okc a b z = true) : OkW a b (.str z) := by
  unfold okc at h
  simp only [Bool.and_eq_true, decide_eq_true_eq] at h
  exact ⟨z.cps.toList, by rw [S_tl], by simpa using h.1, h.2⟩
theorem ew_c {z : Str} (h : okc a b z = true) : EW a b (tC (.str z)) σ H := fun H1 _ Q q => q _ H1 (okw_c h) (Ex.refl _)
theorem ew_v {i : Nat} {v : V} (hs : σ[i]? = some (some v)) (h : OkW a b v) : EW a b (tVar i) σ H := fun H1 _ Q q => ⟨v, hs, q v H1 h (Ex.refl _)⟩
theorem ew_cat (ha : EW a b ta σ H) (hb : EW a' b' tb σ H) (hl : a + a' ≤ 100000) : EW (a + a') (b + b') (tOp (fun x y H Q => ∃ i j, x = V.str i ∧ y = V.str j ∧ i.length + j.length ≤ PySem.sizeLine ∧ Q (V.str (i ++ j)) H) ta tb) σ H := fun H1 e Q q =>
  ha H1 e _ fun v H2 hv e2 => hb H2 (e.trans e2) _ fun u H3 hu e3 => by
    obtain ⟨w1, rfl, l1, c1⟩ := hv
    obtain ⟨w2, rfl, l2, c2⟩ := hu
    refine ⟨_, _, rfl, rfl, sz_of (by rw [S_len, S_len]; omega), ?_⟩
    rw [S_cat]
    exact q _ H3 ⟨w1 ++ w2, rfl, by simp; omega, by rw [nbr_app]; omega⟩ (e2.trans e3)
theorem fold_rep (xs : Array Nat) : ∀ (k : Nat) (acc : Array Nat), ((List.replicate k xs).foldl (· ++ ·) acc).toList = acc.toList ++ (List.replicate k xs.toList).flatten
  | 0, acc => by simp
  | k + 1, acc => by
    rw [List.replicate_succ, List.foldl_cons, fold_rep xs k, Array.toList_append, List.replicate_succ, List.flatten_cons, List.append_assoc]
theorem nbr_rep (w : List Nat) : ∀ k : Nat, nbr (List.replicate k w).flatten = k * nbr w
  | 0 => by simp [nbr]
  | k + 1 => by rw [List.replicate_succ, List.flatten_cons, nbr_app, nbr_rep w k, Nat.succ_mul]; omega
theorem len_rep (w : List Nat) (k : Nat) : (List.replicate k w).flatten.length = k * w.length := by simp
theorem okw_mul {w : List Nat} {k : Nat} : OkW (k * w.length) (k * nbr w) (.str (PySem.Txt.mul (S w) (k : Int))) := by
  unfold PySem.Txt.mul
  by_cases h1 : (k : Int) < 1
  · rw [if_pos h1]
    exact ⟨[], rfl, by simp, by simp [nbr]⟩
  rw [if_neg h1]
  split
  · rename_i h2
    refine ⟨w, rfl, ?_, ?_⟩
    · exact Nat.le_mul_of_pos_left _ (by omega)
    · exact Nat.le_mul_of_pos_left _ (by omega)
  · refine ⟨(List.replicate k w).flatten, ?_, by rw [len_rep]; exact Nat.le_refl _, by rw [nbr_rep]; exact Nat.le_refl _⟩
    have := fold_rep (S w).cps k #[]
    have e2 : (S w).cps.toList = w := by simp [S]
    rw [e2] at this
    rw [Int.toNat_natCast]
    refine congrArg V.str ?_
    rw [← S_tl ⟨(List.replicate k (S w).cps).foldl (· ++ ·) #[]⟩]
    show S ((List.replicate k (S w).cps).foldl (· ++ ·) #[]).toList = _
    rw [this]
    rfl
theorem mulOk_small {w : List Nat} {k : Nat} (h1 : k * w.length ≤ 100000) (h2 : k ≤ 100000) : PySem.MulOk (S w) (k : Int) := by
  refine ⟨by simp; omega, fun _ _ => ?_, fun _ _ => ?_⟩
  · rw [S_len]
    intro h
    have h3 : (w.length : Int) * (k : Int) > 0 → True := fun _ => trivial
    by_cases hk : k = 0
    · subst hk
      simp at h
      omega
    have : ((w.length : Int)) ≤ (2 ^ 63 - 1) / (k : Int) := by
      refine Int.le_ediv_of_mul_le (by omega) ?_
      have : (w.length : Int) * (k : Int) = ((k * w.length : Nat) : Int) := by rw [Int.natCast_mul, Int.mul_comm]
      rw [this]
      omega
    omega
  · unfold PySem.Builtin.Str.tooLong
    rw [S_len, Int.toNat_natCast]
    refine decide_eq_false ?_
    have := Nat.mul_comm k w.length
    rw [show PySem.sizeLine = PySem.sizeLine from rfl]
    have h4 : w.length * k ≤ 100000 := by omega
    exact Nat.not_lt.mpr (sz_of h4)
theorem ew_mul {k : Nat} (ha : EW a b ta σ H) (hk : Ev tb σ H (.int (k : Int))) (hl : k * a ≤ 100000) (hk2 : k ≤ 100000) : EW (k * a) (k * b) (tOp (fun x y H Q => ∃ z n, x = V.str z ∧ y = V.int n ∧ PySem.MulOk z n ∧ Q (V.str (PySem.Txt.mul z n)) H) ta tb) σ H := fun H1 e Q q =>
  ha H1 e _ fun v H2 hv e2 => hk H2 (e.trans e2) _ fun H3 e3 => by
    obtain ⟨w, rfl, l1, c1⟩ := hv
    have m1 : k * w.length ≤ k * a := Nat.mul_le_mul_left _ l1
    refine ⟨_, _, rfl, rfl, mulOk_small (by omega) hk2, q _ H3 (okw_mul.mono m1 (Nat.mul_le_mul_left _ c1)) (e2.trans e3)⟩
theorem nbr_take (w : List Nat) (i : Nat) : nbr (w.take i) ≤ nbr w := by
  have := nbr_app (w.take i) (w.drop i)
  rw [List.take_append_drop] at this
  omega
theorem nbr_drp (w : List Nat) (i : Nat) : nbr (w.drop i) ≤ nbr w := by
  have := nbr_app (w.take i) (w.drop i)
  rw [List.take_append_drop] at this
  omega
theorem okw_cut {w : List Nat} (lo hi : Option Int) (hl : w.length ≤ a) (hb : nbr w ≤ b) : OkW a b (.str (cutS (S w) lo hi)) := by
  refine ⟨(w.drop (HT.sIx (S w).length 0 lo)).take (HT.sIx (S w).length (S w).length hi - HT.sIx (S w).length 0 lo), ?_, ?_, ?_⟩
  · unfold cutS
    have : (S w).cps.toList = w := by simp [S]
    rw [this]
  · rw [List.length_take, List.length_drop]
    omega
  · exact Nat.le_trans (nbr_take _ _) (Nat.le_trans (nbr_drp _ _) hb)
theorem ew_sl {lo hi : Option Int} {tl th : TO} (ha : EW a b ta σ H) (h1 : EvO tl σ H lo) (h2 : EvO th σ H hi) (hl : a ≤ 100000) : EW a b (tSl rSlS ta tl th) σ H := fun H1 e Q q =>
  ha H1 e _ fun v H2 hv e2 => h1 H2 (e.trans e2) _ fun H3 e3 => h2 H3 ((e.trans e2).trans e3) _ fun H4 e4 => by
    obtain ⟨w, rfl, l1, c1⟩ := hv
    exact ⟨S w, rfl, sz_of (by rw [S_len]; omega), q _ H4 (okw_cut lo hi l1 c1) ((e2.trans e3).trans e4)⟩
theorem aw_nil : AW 0 a b tNil σ H := fun H1 _ Q q => q [] H1 rfl (fun v h => nomatch h) (Ex.refl _)
theorem aw_cons (h : EW a b te σ H) (hr : AW n a b t σ H) : AW (n + 1) a b (tCons te t) σ H := fun H1 e Q q =>
  h H1 e _ fun v H2 hv e2 => hr H2 (e.trans e2) _ fun vs H3 hn hvs e3 => q (v :: vs) H3 (by simp; omega) (fun u hu => by
    rcases List.mem_cons.mp hu with rfl | hu
    · exact hv
    · exact hvs u hu) (e2.trans e3)
theorem lw_lst (h : AW n a b t σ H) (hn : n ≤ 1000) : LW n a b (tLst t) σ H := fun H1 e Q q => h H1 e _ fun vs H2 h1 h2 e2 => ⟨sz_of (by omega), fun p hp => q p vs _ (fresh_back e2 hp) (e2.trans (Ex.new hp)) upd_same h1 h2⟩
theorem LW.mono (h : LW n a b te σ H) (ha : a ≤ a') (hb : b ≤ b') : LW n a' b' te σ H := fun H1 e Q q => h H1 e Q fun p xs H2 n1 e2 hp hn hx => q p xs H2 n1 e2 hp hn fun v hv => (hx v hv).mono ha hb
theorem lw_cat (ha : LW n a b ta σ H) (hb : LW m a b tb σ H) (hl : n + m ≤ 100000) : LW (n + m) a b (tOp rCat ta tb) σ H := fun H1 e Q q =>
  ha H1 e _ fun p xs H2 n2 e2 hp hn hx => hb H2 (e.trans e2) _ fun r ys H3 n3 e3 hr hm hy =>
    ⟨p, r, xs, ys, rfl, rfl, e3 _ _ hp, hr, sz_of (by omega), fun z hz => q z _ _ (fresh_back (e2.trans e3) hz) ((e2.trans e3).trans (Ex.new hz)) upd_same (by rw [List.length_append]; omega) fun v hv => by
      rcases List.mem_append.mp hv with hv | hv
      · exact hx v hv
      · exact hy v hv⟩
theorem lw_v {i : Nat} {p : Addr} {xs : List V} (hs : σ[i]? = some (some (.ref p))) (hp : H p = some (.lst xs)) (hn : xs.length = n) (hx : ∀ v ∈ xs, OkW a b v) (hb : LW m a b tb σ H) (hl : n + m ≤ 100000) : LW (n + m) a b (tOp rCat (tVar i) tb) σ H := fun H1 e Q q =>
  ⟨_, hs, hb H1 e _ fun r ys H3 n3 e3 hr hm hy =>
    ⟨p, r, xs, ys, rfl, rfl, (e.trans e3) _ _ hp, hr, sz_of (by omega), fun z hz => q z _ _ (fresh_back e3 hz) (e3.trans (Ex.new hz)) upd_same (by rw [List.length_append]; omega) fun v hv => by
      rcases List.mem_append.mp hv with hv | hv
      · exact hx v hv
      · exact hy v hv⟩⟩
/-- [text of k for k in a new list of ints] -/
theorem lw_lc {j : Nat} {ws : List Nat} {ks : List Nat} {tl : TE} (h : EvL tl σ H (ks.map fun (k : Nat) => V.int (k : Int))) (hk : ks.length ≤ 1000) (hw : ∀ x, wipe ((wipe σ ws).set j (some x)) ws = wipe σ ws)
    (he : ∀ k ∈ ks, ∀ H1, EW a b te ((wipe σ ws).set j (some (.int ((k : Nat) : Int)))) H1) : LW ks.length a b (tLc (iList K tl) (gName j) tYes te ws) σ H := fun H0 e0 Q q => h H0 e0 _ fun p H1 n1 e1 hp => by
  refine ⟨p, rfl, ⟨_, sq_of hp⟩, fun D hD => ?_⟩
  refine lc_list (xs := ks.map fun (k : Nat) => V.int (k : Int)) (fun i H' => Ex H1 H' ∧ ∃ acc, H' D = some (.lst acc) ∧ acc.length = i ∧ ∀ v ∈ acc, OkW a b v) ⟨Ex.new hD, [], upd_same, rfl, fun v hv => nomatch hv⟩ (fun i H' _ p2 => sq_of (p2.1 _ _ hp)) (fun i y H' hy p2 => ⟨hw y, ?_⟩) (fun H' p2 => ?_)
  · obtain ⟨p1, acc, p3, p4, p5⟩ := p2
    show te ((wipe σ ws).set j (some y)) H' _
    rw [List.getElem?_map] at hy
    cases hki : ks[i]? with
    | none => rw [hki] at hy; cases hy
    | some k =>
      rw [hki] at hy
      obtain rfl : V.int (k : Int) = y := Option.some.inj hy
      have hlt := (List.getElem?_eq_some_iff.mp hki).1
      refine he k (List.mem_of_getElem? hki) H' H' (Ex.refl _) _ fun v H2 hv e2 => ⟨acc, e2 _ _ p3, sz_lt (by omega), (p1.trans e2).mut hD, acc ++ [v], upd_same, by simp [p4], fun u hu => ?_⟩
      rcases List.mem_append.mp hu with hu | hu
      · exact p5 u hu
      · rw [List.mem_singleton] at hu
        rw [hu]
        exact hv
  · obtain ⟨p1, acc, p3, p4, p5⟩ := p2
    rw [List.length_map] at p4
    exact q D acc H' (fresh_back e1 hD) (e1.trans p1) p3 (by omega) p5
theorem q_asgW {D : Ends} {tz : TS} {i : Nat} (h : LW n a b te σ H) (k : ∀ p xs H1, H p = none → Ex H H1 → H1 p = some (.lst xs) → xs.length = n → (∀ v ∈ xs, OkW a b v) → tz D (σ.set i (some (.ref p))) H1) : tSeq (tAsg te (gName i)) tz D σ H :=
  h H (Ex.refl H) _ fun p xs H1 n1 e hp hn hx => k p xs H1 n1 e hp hn hx
end
end K04

set_option Elab.async false
set_option linter.all false
set_option maxRecDepth 100000
set_option maxHeartbeats 4000000
namespace K04
open PySem PySem.Spec PyProof.Rows L2 DK DD TM TX SX RD RT LS XC2
section
variable {P : Program} {w : World} {K : PySem.W.Frag} {mg : Str → Option Value} {base : Heap}
/-- _law_read as an expression -/
theorem de_lread {M : List Addr} {σ : L2.St} {H : Hp} {te : TE} {E : XK} {cs : List Nat} (hM : Dom M H) (h : Evl.Ev te σ H (.str (S cs))) (h9 : cs.length ≤ 90000) : DE K M (tCall (spLRead K) [] E (tCons te tNil)) σ H (readD cs) := fun H1 e Q q =>
  h H1 e _ fun H2 e2 => ⟨M, readD cs, hM.ex (e.trans e2), .inl ⟨cs, rfl, h9, rfl⟩, fun v H3 e3 hv => q v H3 (e2.trans e3) hv⟩
abbrev RFits : List PyData → PyData → Prop := fun ds r => ∃ cs : List Nat, ds = [.str (S cs)] ∧ cs.length ≤ 90000 ∧ nbr cs ≤ 999 ∧ r = .bool true
theorem depth_good {t : Trm} (h : okT t) : (PyData.list [.str "good", enc t]).depth ≤ 64 := by
  have := (lay_enc t).2
  have := h.2.1
  simp only [PyData.depth, PyData.depthAll]
  omega
theorem lay_good (t : Trm) : (PyData.list [.str "good", enc t]).canLay0 = true := by
  simp only [PyData.canLay0, PyData.canLayAll0, (lay_enc t).1, Bool.and_true]
  decide +kernel
theorem ok__law_fits (T : Top K mg) (X : Exs K mg T) : FnOk P w K mg base CX0 12 T._law_fits.f T._law_fits.fd ["text"] (spR K RFits) := by
  refine T._law_fits.F.ok sc__law_fits (fun vs H Q E h => ?_) (fun cdv A outer s H vs Q E hr h => ?_)
  · obtain ⟨M, ds, r, _, hv, ⟨_, rfl, _⟩, _⟩ := h
    exact dpa_len hv
  obtain ⟨M, ds, r, hM, hv, ⟨cs, rfl, h9, hnb, rfl⟩, q⟩ := h
  obtain ⟨v0, rfl, h0⟩ := dpa1 hv
  obtain rfl := dpStr h0
  refine ⟨_, (pss_cons (ps_set (i := 1) sc__law_fits.nd rfl (Or.inl rfl) (pe_call (ok__law_due T) (hr.mono (by omega)) (by rfl) T._law_due.g T._law_due.F.kp T._law_due.b .nil pass0 (pa_cons (pv 0) pa_nil)))
      (pss_cons (ps_if (PW.pt (pw_and (pt_cmpR op_eq (pe_ix ix_list (pv 1) pe_int (fun _ _ => rfl)) pe_str (nomark _)) (pw_and1 (pt_not (pt_val (pe_call (ok__law_is_term T) (hr.mono (by omega)) (by rfl) T._law_is_term.g T._law_is_term.F.kp T._law_is_term.b .nil pass0 (pa_cons (pe_ix ix_list (pv 1) pe_int (fun _ _ => rfl)) pa_nil))))))) (pss_one (ps_set (i := 1) sc__law_fits.nd rfl (Or.inl rfl) (pe_lst (pa_cons pe_str (pa_cons pe_non pa_nil))))) pss_nil)
      (pss_one (ps_ret (pe_cmpR (op_eqM (hu64 hr)) (pe_call (ok__law_read T X) (hr.mono (by omega)) (by rfl) T._law_read.g T._law_read.F.kp T._law_read.b .nil pass0 (pa_cons (pv 0) pa_nil)) (pv 1) (nomark _)))))), ?_⟩
  refine q_asgD (de_callR (E := E0) hM (da_cons (de_sc (Evl.ev_var rfl) (d := .str (S cs)) rfl) da_nil) (R := RDue) ⟨cs, rfl, h9, rfl⟩) fun v1 H1 e1 hv1 => ?_
  rw [due_read] at hv1
  have hM1 := hM.ex e1
  have fin : ∀ {H2 : Hp} {v : V} {D : Ends} {d : PyData}, D.rt = Q → Evl.Ex H H2 → Dm K M H2 v d → readD cs = d → d.canLay0 = true → d.depth ≤ 64 → tRet (tOp (rEqM K) (tCall (spLRead K) [] E0 (tCons (tVar 0) tNil)) (tVar 1)) D [some (.str (S cs)), some v] H2 := fun {H2} {v} {D} {d} hD e hv hrd hl hdp => by
    refine Evl.s_ret (Evl.ev_is (ev_eqM (K := K) (M := M) (de_lread (hM.ex e) (Evl.ev_var rfl) h9) (de_v hv (by rfl)) (by rw [hrd]; exact hl) hl (Nat.le_trans (Nat.min_le_right _ _) hdp)) (by rw [hrd, eqv_same d hl])) fun H3 e3 => ?_
    rw [hD]
    exact q _ H3 (e.trans e3) (.bl true)
  cases hg : gRead cs with
  | bad k =>
    rw [hg] at hv1
    refine Evl.q_when (b := false) (Evl.et_is (Evl.et_and (a := false) (b := true) (Evl.et_is (Evl.et_test (Evl.ev_op (ev_sc (K := K) (M := M) (de_ixL (de_v hv1 (by rfl)) Evl.ev_c (d := .str "wrong") rfl) rfl) Evl.ev_c (Evl.rv_eq rfl))) (decide_eq_false (by decide +kernel))) (fun hb => nomatch hb)) rfl) (fun hb => nomatch hb) fun _ H2 e2 => ?_
    refine fin rfl (e1.trans e2) (dm_ex e2 hv1) (by unfold readD; rw [hg]; rfl) (by simp only [dueD, PyData.canLay0, PyData.canLayAll0, Bool.and_true]; decide +kernel) (by simp only [dueD, PyData.depth, PyData.depthAll]; decide)
  | ok t k =>
    have hc := gRead_cnt hg
    rw [hg] at hv1
    refine q_ifW (b := true && !decide (okT t)) (fun σ' H' => ∃ v d, σ' = [some (.str (S cs)), some v] ∧ Evl.Ex H H' ∧ Dm K M H' v d ∧ readD cs = d ∧ d.canLay0 = true ∧ d.depth ≤ 64)
      (Evl.et_and (Evl.et_is (Evl.et_test (Evl.ev_op (ev_sc (K := K) (M := M) (de_ixL (de_v hv1 (by rfl)) Evl.ev_c (d := .str "good") rfl) rfl) Evl.ev_c (Evl.rv_eq rfl))) (decide_eq_true rfl)) (fun _ => Evl.et_not (Evl.et_B (ev_sc (de_callR (E := E0) hM1 (da_cons (de_ixL (de_v hv1 (by rfl)) Evl.ev_c (d := enc t) rfl) da_nil) (R := RIsT) ⟨t, rfl, by omega, rfl⟩) rfl)))) (fun hb H2 e2 N hN => ?_) (fun hb H2 e2 => ?_) (fun σ' H' hW => ?_)
    · have hno : ¬ okT t := by simpa using hb
      have e12 := e1.trans e2
      refine (de_dl (K := K) (M := M) (hM.ex e12) (dl_lst (da_cons (de_sc Evl.ev_c (d := .str "none") rfl) (da_cons (de_sc Evl.ev_c (d := .none) rfl) da_nil)) (show 2 ≤ 1000 by decide))) H2 (Evl.Ex.refl _) _ fun v H3 e3 hv => ?_
      refine hN _ _ ⟨v, _, rfl, e12.trans e3, hv, ?_, by decide +kernel, by decide⟩
      unfold readD
      rw [hg]
      exact if_neg hno
    · have hok : okT t := by simpa using hb
      refine ⟨v1, _, rfl, e1.trans e2, dm_ex e2 hv1, ?_, lay_good t, depth_good hok⟩
      unfold readD
      rw [hg]
      exact if_pos hok
    · obtain ⟨v, d, rfl, e, hv, h1, h2, h3⟩ := hW
      exact fin rfl e hv h1 h2 h3
/-- _law_bent(source, text) -/
def spBent : Sp := fun vs H Q _ => ∃ (s c : Addr) (n a b : Nat) (x : V), vs = [.ref s, x] ∧ Src H s c n ∧ n + 3 < 2 ^ 60 ∧ OkW a b x ∧ a ≤ 40000 ∧
  ∀ v H', OkW (a + a + 40) (b + b + 2) v → ExM [s, c] H H' → Src H' s c (n + 3) → Q v H'
theorem ok__law_bent (T : Top K mg) : FnOk P w K mg base CX0 5 T._law_bent.f T._law_bent.fd ["source", "text"] spBent := by
  refine T._law_bent.F.ok sc__law_bent (fun vs H Q E h => ?_) (fun cdv A outer s H vs Q E hr h => ?_)
  · obtain ⟨_, _, _, _, _, _, rfl, _⟩ := h
    rfl
  obtain ⟨s, c, n, a, b, x, rfl, S0, n60, hx, ha, q⟩ := h
  refine ⟨_, (pss_cons (ps_set (i := 2) sc__law_bent.nd rfl (Or.inl rfl) (pe_lst (pa_cons pe_str (pa_cons pe_str (pa_cons pe_str (pa_cons pe_str (pa_cons pe_str (pa_cons pe_str (pa_cons pe_str (pa_cons pe_str (pa_cons pe_str (pa_cons pe_str (pa_cons pe_str (pa_cons pe_str (pa_cons pe_str (pa_cons pe_str (pa_cons pe_str (pa_cons pe_str pa_nil))))))))))))))))))
      (pss_cons (ps_set (i := 2) sc__law_bent.nd rfl (Or.inl rfl) (pe_op op_cat (pv 2) (pe_lst (pa_cons pe_str (pa_cons pe_str (pa_cons pe_str (pa_cons pe_str (pa_cons pe_str (pa_cons pe_str (pa_cons pe_str (pa_cons (pe_op op_mulS pe_str pe_int) (pa_cons (pe_op op_mulS pe_str pe_int) (pa_cons pe_str (pa_cons pe_str (pa_cons pe_str (pa_cons pe_str (pa_cons pe_str pa_nil)))))))))))))))))
      (pss_cons (ps_set (i := 3) sc__law_bent.nd rfl (Or.inl rfl) (pe_call (ok__law_draw T) (hr.mono (by omega)) (by rfl) T._law_draw.g T._law_draw.F.kp T._law_draw.b .nil pass0 (pa_cons (pv 0) (pa_cons (pe_op op_add (pe_callB call_len_str (by rfl) T.n_len PySem.boot_len (pa_cons (pv 1) pa_nil)) pe_int) pa_nil))))
      (pss_cons (ps_set (i := 4) sc__law_bent.nd rfl (Or.inl rfl) (pe_call (ok__law_draw T) (hr.mono (by omega)) (by rfl) T._law_draw.g T._law_draw.F.kp T._law_draw.b .nil pass0 (pa_cons (pv 0) (pa_cons pe_int pa_nil))))
      (pss_cons (ps_if (pt_cmpR op_eq (pv 4) pe_int (nomark _)) (pss_one (ps_ret (pe_slice sl_str (pv 1) po_none (po_some (pv 3))))) pss_nil)
      (pss_cons (ps_if (pt_cmpR op_eq (pv 4) pe_int (nomark _)) (pss_one (ps_ret (pe_op op_add_str (pe_slice sl_str (pv 1) po_none (po_some (pv 3))) (pe_slice sl_str (pv 1) (po_some (pe_op op_add (pv 3) pe_int)) po_none)))) pss_nil)
      (pss_cons (ps_if (pt_cmpR op_eq (pv 4) pe_int (nomark _)) (pss_one (ps_ret (pe_op op_add_str (pe_op op_add_str (pe_slice sl_str (pv 1) po_none (po_some (pv 3))) (pe_call (ok__law_pick T) (hr.mono (by omega)) (by rfl) T._law_pick.g T._law_pick.F.kp T._law_pick.b .nil pass0 (pa_cons (pv 0) (pa_cons (pv 2) pa_nil)))) (pe_slice sl_str (pv 1) (po_some (pe_op op_add (pv 3) pe_int)) po_none)))) pss_nil)
      (pss_one (ps_ret (pe_op op_add_str (pe_op op_add_str (pe_slice sl_str (pv 1) po_none (po_some (pv 3))) (pe_call (ok__law_pick T) (hr.mono (by omega)) (by rfl) T._law_pick.g T._law_pick.F.kp T._law_pick.b .nil pass0 (pa_cons (pv 0) (pa_cons (pv 2) pa_nil)))) (pe_slice sl_str (pv 1) (po_some (pv 3)) po_none))))))))))), ?_⟩
  obtain ⟨wd, rfl, hwa, hwb⟩ := hx
  have hx : OkW a b (.str (S wd)) := ⟨wd, rfl, hwa, hwb⟩
  refine q_asgW (a := 40) (b := 2) (lw_lst (aw_cons (ew_c (by decide +kernel)) (aw_cons (ew_c (by decide +kernel)) (aw_cons (ew_c (by decide +kernel)) (aw_cons (ew_c (by decide +kernel)) (aw_cons (ew_c (by decide +kernel)) (aw_cons (ew_c (by decide +kernel)) (aw_cons (ew_c (by decide +kernel)) (aw_cons (ew_c (by decide +kernel)) (aw_cons (ew_c (by decide +kernel)) (aw_cons (ew_c (by decide +kernel)) (aw_cons (ew_c (by decide +kernel)) (aw_cons (ew_c (by decide +kernel)) (aw_cons (ew_c (by decide +kernel)) (aw_cons (ew_c (by decide +kernel)) (aw_cons (ew_c (by decide +kernel)) (aw_cons (ew_c (by decide +kernel)) aw_nil)))))))))))))))) (by decide)) fun p1 xs1 H1 n1 e1 h1 l1 k1 => ?_
  refine q_asgW (n := 16 + 14) (a := 40) (b := 2) (lw_v rfl h1 l1 k1 (lw_lst (aw_cons (ew_c (by decide +kernel)) (aw_cons (ew_c (by decide +kernel)) (aw_cons (ew_c (by decide +kernel)) (aw_cons (ew_c (by decide +kernel)) (aw_cons (ew_c (by decide +kernel)) (aw_cons (ew_c (by decide +kernel)) (aw_cons (ew_c (by decide +kernel)) (aw_cons ((ew_mul (a := 1) (b := 0) (k := 31) (ew_c (by decide +kernel)) Evl.ev_c (by decide) (by decide)).mono (by decide) (by decide)) (aw_cons ((ew_mul (a := 1) (b := 0) (k := 32) (ew_c (by decide +kernel)) Evl.ev_c (by decide) (by decide)).mono (by decide) (by decide)) (aw_cons (ew_c (by decide +kernel)) (aw_cons (ew_c (by decide +kernel)) (aw_cons (ew_c (by decide +kernel)) (aw_cons (ew_c (by decide +kernel)) (aw_cons (ew_c (by decide +kernel)) aw_nil)))))))))))))) (by decide)) (by decide)) fun p2 xs2 H2 n2 e2 h2 l2 k2 => ?_
  have e12 := e1.trans e2
  have S2 := S0.ex1 e12
  have np := S0.nes' (Evl.fresh_back e1 n2)
  -- at, way
  refine ⟨_, rfl, _, rfl, S wd, rfl, Evl.sz_of (by rw [S_len]; omega), _, _, rfl, rfl, s, c, n, _, rfl, S2, by omega, by rw [S_len]; omega, by rw [S_len]; omega, fun d H3 d0 d1 e3 S3 => ?_⟩
  refine ⟨_, rfl, s, c, n + 1, 5, rfl, S3, by omega, by decide, by decide, fun wy H4 w0 w5 e4 S4 => ?_⟩
  have e24 := e3.trans e4
  have eA : ExM [s, c] H H4 := (ExM.of e12).trans e24
  have h24 := e24 p2 _ (by simp [np.1, np.2]) h2
  dsimp only [L2.gName]
  have fin : ∀ {D : Ends} {te : TE} {σ : L2.St} {H5 : Hp} {a' b' : Nat}, D.rt = Q → Evl.Ex H4 H5 → EW a' b' te σ H5 → a' ≤ a + a + 40 → b' ≤ b + b + 2 → tRet te D σ H5 := fun {D} {te} {σ} {H5} {a'} {b'} hD e h h1 h2 => h _ (Evl.Ex.refl _) _ fun v H6 hv e6 => by
    show D.rt _ _
    rw [hD]
    exact q v H6 (hv.mono h1 h2) (eA.trans (ExM.of (e.trans e6))) ((S4.ex1 (e.trans e6)).mono (by omega))
  have pick : ∀ {H5 : Hp} {tl tr : TE} {D : Ends}, D.rt = Q → Evl.Ex H4 H5 → ∀ {σ : L2.St}, σ[0]? = some (some (.ref s)) → σ[2]? = some (some (.ref p2)) → EW a b tl σ H5 → (∀ H6, EW a b tr σ H6) →
      tRet (tOp (fun x y H Q => ∃ i j, x = V.str i ∧ y = V.str j ∧ i.length + j.length ≤ PySem.sizeLine ∧ Q (V.str (i ++ j)) H) (tOp (fun x y H Q => ∃ i j, x = V.str i ∧ y = V.str j ∧ i.length + j.length ≤ PySem.sizeLine ∧ Q (V.str (i ++ j)) H) tl (tCall (spPick K) [] E0 (tCons (tVar 0) (tCons (tVar 2) tNil)))) tr) D σ H5 := fun {H5} {tl} {tr} {D} hD e {σ} hs0 hs2 hl hr => by
    refine hl H5 (Evl.Ex.refl _) _ fun v H6 hv e6 => ?_
    obtain ⟨w1, rfl, l1, c1⟩ := hv
    refine ⟨_, hs0, _, hs2, s, c, p2, n + 2, xs2, rfl, S4.ex1 (e.trans e6), by omega, Evl.sq_of ((e.trans e6) _ _ h24), np.1, np.2, by omega, by omega, fun u H7 hu e7 S7 => ?_⟩
    obtain ⟨w2, rfl, l2', c2⟩ := k2 u hu
    refine ⟨_, _, rfl, rfl, Evl.sz_of (by rw [S_len, S_len]; omega), ?_⟩
    refine hr H7 H7 (Evl.Ex.refl _) _ fun v3 H8 hv3 e8 => ?_
    obtain ⟨w3, rfl, l3, c3⟩ := hv3
    rw [S_cat]
    refine ⟨_, _, rfl, rfl, Evl.sz_of (by rw [S_len, S_len]; simp; omega), ?_⟩
    rw [S_cat]
    show D.rt _ _
    rw [hD]
    refine q _ H8 ⟨_, rfl, by simp; omega, by rw [nbr_app, nbr_app]; omega⟩ ((eA.trans (ExM.of (e.trans e6))).trans (e7.trans (ExM.of e8))) ((S7.ex1 e8).mono (by omega))
  have hsl : ∀ {σ : L2.St} {H5 : Hp} {lo hi : Option Int} {tl th : TO}, σ[1]? = some (some (.str (S wd))) → Evl.EvO tl σ H5 lo → Evl.EvO th σ H5 hi → EW a b (tSl rSlS (tVar 1) tl th) σ H5 := fun hs h1 h2 => ew_sl (ew_v hs hx) h1 h2 (by omega)
  refine Evl.q_when (Evl.et_test (Evl.ev_op (Evl.ev_var rfl) Evl.ev_c (Evl.rv_eq rfl))) (fun _ H5 e5 => fin rfl e5 (hsl rfl Evl.eo_none (Evl.eo_some (Evl.ev_var rfl))) (by omega) (by omega)) (fun _ H5 e5 => ?_)
  refine Evl.q_when (Evl.et_test (Evl.ev_op (Evl.ev_var rfl) Evl.ev_c (Evl.rv_eq rfl))) (fun _ H6 e6 => fin rfl (e5.trans e6) (ew_cat (hsl rfl Evl.eo_none (Evl.eo_some (Evl.ev_var rfl))) (hsl rfl (Evl.eo_some (Evl.ev_op (Evl.ev_var rfl) Evl.ev_c Evl.rv_I0)) Evl.eo_none) (by omega)) (by omega) (by omega)) (fun _ H6 e6 => ?_)
  refine Evl.q_when (Evl.et_test (Evl.ev_op (Evl.ev_var rfl) Evl.ev_c (Evl.rv_eq rfl))) (fun _ H7 e7 => pick rfl ((e5.trans e6).trans e7) rfl rfl (hsl rfl Evl.eo_none (Evl.eo_some (Evl.ev_var rfl))) (fun H8 => hsl rfl (Evl.eo_some (Evl.ev_op (Evl.ev_var rfl) Evl.ev_c Evl.rv_I0)) Evl.eo_none)) (fun _ H7 e7 => ?_)
  exact pick rfl ((e5.trans e6).trans e7) rfl rfl (hsl rfl Evl.eo_none (Evl.eo_some (Evl.ev_var rfl))) (fun H8 => hsl rfl (Evl.eo_some (Evl.ev_var rfl)) Evl.eo_none)
end
end K04

set_option Elab.async false
set_option linter.all false
set_option maxRecDepth 100000
set_option maxHeartbeats 8000000
namespace K04
open PySem PySem.Spec PyProof.Rows L2 DK DD TM TX SX RD RT LS XC2
/-- a value that is no text -/
def NotS (K : PySem.W.Frag) (H : Hp) (v : V) : Prop := ∃ tn, TyX K H v (.type tn) ∧ kitB tn "str" = some false
theorem NotS.ex {K : PySem.W.Frag} {H H' : Hp} {v : V} (h : NotS K H v) (e : Evl.Ex H H') : NotS K H' v := by
  obtain ⟨tn, h1, h2⟩ := h
  exact ⟨tn, tyx_ex e h1, h2⟩
section
variable {K : PySem.W.Frag} {σ : L2.St} {H H' : Hp} {te ta tb : TE} {t : TA}
def EN (K : PySem.W.Frag) (te : TE) (σ : L2.St) (H : Hp) : Prop := ∀ H1, Evl.Ex H H1 → ∀ Q : VK, (∀ v H2, Evl.Ex H1 H2 → NotS K H2 v → Q v H2) → te σ H1 Q
def AN (K : PySem.W.Frag) (ta : TA) (σ : L2.St) (H : Hp) : Prop := ∀ H1, Evl.Ex H H1 → ∀ Q : List V → Hp → Prop, (∀ vs H2, Evl.Ex H1 H2 → vs.length ≤ 100 → (∀ v ∈ vs, NotS K H2 v) → Q vs H2) → ta σ H1 Q
theorem en_c {v : V} (h : ∀ H, NotS K H v) : EN K (tC v) σ H := fun H1 _ Q q => q v H1 (Evl.Ex.refl _) (h H1)
theorem en_tup {vs : List V} (h : Evl.EvA t σ H vs) (hl : vs.length ≤ 1000) : EN K (tTup t) σ H := fun H1 e Q q => h H1 e _ fun H2 e2 => ⟨Evl.sz_of (by omega), fun p hp => q _ _ (e2.trans (Evl.Ex.new hp)) ⟨"tuple", .base (.tup upd_same), by decide +kernel⟩⟩
theorem en_lst {vs : List V} (h : Evl.EvA t σ H vs) (hl : vs.length ≤ 1000) : EN K (tLst t) σ H := fun H1 e Q q => h H1 e _ fun H2 e2 => ⟨Evl.sz_of (by omega), fun p hp => q _ _ (e2.trans (Evl.Ex.new hp)) ⟨"list", .base (.lst upd_same), by decide +kernel⟩⟩
theorem en_dct : EN K tDNewK σ H := fun H1 e Q q => fun p hp => q _ _ (Evl.Ex.new hp) ⟨"dict", .base (.dK upd_same), by decide +kernel⟩
theorem an_nil : AN K tNil σ H := fun H1 _ Q q => q [] H1 (Evl.Ex.refl _) (by simp) (fun v h => nomatch h)
theorem an_cons (h : EN K te σ H) (hr : AN K t σ H) (hl : ∀ vs : List V, vs.length ≤ 100 → True) : ∀ H1, Evl.Ex H H1 → ∀ Q : List V → Hp → Prop, (∀ vs H2, Evl.Ex H1 H2 → vs.length ≤ 101 → (∀ v ∈ vs, NotS K H2 v) → Q vs H2) → tCons te t σ H1 Q := fun H1 e Q q =>
  h H1 e _ fun v H2 e2 hv => hr H2 (e.trans e2) _ fun vs H3 e3 hn hvs => q (v :: vs) H3 (e2.trans e3) (by simp; omega) fun u hu => by
    rcases List.mem_cons.mp hu with rfl | hu
    · exact hv.ex e3
    · exact hvs u hu
def ANn (K : PySem.W.Frag) (n : Nat) (ta : TA) (σ : L2.St) (H : Hp) : Prop := ∀ H1, Evl.Ex H H1 → ∀ Q : List V → Hp → Prop, (∀ vs H2, Evl.Ex H1 H2 → vs.length = n → (∀ v ∈ vs, NotS K H2 v) → Q vs H2) → ta σ H1 Q
theorem ann_nil : ANn K 0 tNil σ H := fun H1 _ Q q => q [] H1 (Evl.Ex.refl _) rfl (fun v h => nomatch h)
theorem ann_cons {n : Nat} (h : EN K te σ H) (hr : ANn K n t σ H) : ANn K (n + 1) (tCons te t) σ H := fun H1 e Q q =>
  h H1 e _ fun v H2 e2 hv => hr H2 (e.trans e2) _ fun vs H3 e3 hn hvs => q (v :: vs) H3 (e2.trans e3) (by simp; omega) fun u hu => by
    rcases List.mem_cons.mp hu with rfl | hu
    · exact hv.ex e3
    · exact hvs u hu
theorem de_lreadV {M : List Addr} {E : XK} {i : Nat} {v : V} (hM : Dom M H) (hs : σ[i]? = some (some v)) (hv : NotS K H v) : DE K M (tCall (spLRead K) [] E (tCons (tVar i) tNil)) σ H (.list [.str "wrong", .int ((0 : Nat) : Int)]) := fun H1 e Q q => by
  obtain ⟨tn, h1, h2⟩ := hv.ex e
  exact ⟨v, hs, M, _, hM.ex e, .inr ⟨v, tn, rfl, h1, h2, rfl⟩, fun u H3 e3 hu => q u H3 e3 hu⟩
theorem dl_nilE {M : List Addr} (h : Evl.EvL te σ H []) : DL K M te σ H [] := fun H1 e Q q => h H1 e Q fun p H2 n e2 hp => q p [] H2 n e2 hp .nil
theorem given_none0 : True := trivial
theorem given_none (n : Nat) (v : Nat → V) : Evl.given n (fun _ => false) v = [] := by
  unfold Evl.given
  rw [List.filter_eq_nil_iff.mpr (fun _ _ => by decide)]
  rfl
end
theorem dl_none {K : PySem.W.Frag} {σ : L2.St} {H : Hp} {te : TE} {M : List Addr} {n : Nat} {v : Nat → V} (h : Evl.EvL te σ H (Evl.given n (fun _ => false) v)) : DL K M te σ H [] := by
  rw [given_none] at h
  exact dl_nilE h
theorem q_forAN {K : PySem.W.Frag} {σ : L2.St} {H : Hp} {ta : TA} {n j : Nat} {tu tz : TS} {D : Ends} (h : ANn K n ta σ H) (hn : n ≤ 1000) (W : L2.St → Prop) (h0 : W σ)
    (hs : ∀ x σ' H', NotS K H' x → W σ' → ∀ N : L2.St → Hp → Prop, (∀ σ2 H2, W σ2 → Evl.Ex H' H2 → N σ2 H2) → tu { D with nx := N, ct := N, bk := tz D } (σ'.set j (some x)) H') (hd : ∀ σ' H', W σ' → tz D σ' H') :
    tSeq (tFor (iList K (tLst ta)) (gName j) tu) tz D σ H := by
  refine h H (Evl.Ex.refl _) _ fun xs H2 e2 hn2 hx => ⟨Evl.sz_of (by omega), fun p hp => ⟨p, rfl, ⟨xs, Evl.sq_of upd_same⟩, ?_⟩⟩
  have e3 : Evl.Ex H2 (upd H2 p (.lst xs)) := Evl.Ex.new hp
  refine for_list (xs := xs) (fun i σ' H'' => Evl.Ex (upd H2 p (.lst xs)) H'' ∧ W σ') ⟨Evl.Ex.refl _, h0⟩ (fun i σ' H'' _ hP => Evl.sq_of (hP.1 _ _ upd_same)) (fun i x σ' H'' hi hP => ?_) (fun σ' H'' hP => hd σ' H'' hP.2)
  exact hs x σ' H'' ((hx x (List.mem_of_getElem? hi)).ex (e3.trans hP.1)) hP.2 _ fun σ2 H3 w e => ⟨hP.1.trans e, w⟩
def bA : Nat → Nat
  | 0 => 2400
  | j + 1 => bA j + bA j + 40
def bB : Nat → Nat
  | 0 => 39
  | j + 1 => bB j + bB j + 2
theorem dom00 (H : Hp) : Dom [] H := fun m hm => by cases hm
/-- law(script) -/
def spLaw (K : PySem.W.Frag) : Sp := fun vs H Q _ => ∃ (a : Addr) (ns : List Int), vs = [.ref a] ∧ SqL K H a (ns.map V.int) ∧ ns.length ≤ 63 ∧ ∀ H', Q (.bl true) H'
section
variable {P : Program} {w : World} {K : PySem.W.Frag} {mg : Str → Option Value} {base : Heap}
theorem ev_fits {σ : L2.St} {H : Hp} {te : TE} {E : XK} {v : V} {a b : Nat} (h : Evl.Ev te σ H v) (hv : OkW a b v) (ha : a ≤ 90000) (hb : b ≤ 999) : Evl.Ev (tCall (spR K RFits) [] E (tCons te tNil)) σ H (.bl true) := by
  obtain ⟨w, rfl, h1, h2⟩ := hv
  exact ev_sc (de_callR (M := []) (dom00 H) (da_cons (de_sc h (d := .str (S w)) rfl) da_nil) (R := RFits) ⟨w, rfl, by omega, by omega, rfl⟩) rfl
theorem ok_law (T : Top K mg) (X : Exs K mg T) : FnOk P w K mg base CX0 14 T.law.f T.law.fd ["script"] (spLaw K) := by
  refine T.law.F.ok sc_law (fun vs H Q E h => ?_) (fun cdv A outer s H vs Q E hr h => ?_)
  · obtain ⟨a, ns, rfl, _⟩ := h
    rfl
  obtain ⟨a, ns, rfl, hS, h63, q⟩ := h
  refine ⟨_, (pss_cons (ps_set (i := 1) sc_law.nd rfl (Or.inl rfl) (pe_call (ok__law_source T) (hr.mono (by omega)) (by rfl) T._law_source.g T._law_source.F.kp T._law_source.b .nil pass0 (pa_cons (pv 0) pa_nil)))
      (pss_cons (ps_for PassesOwn.never rfl (pi_range1 (by rfl) T.n_range (pa_cons pe_int pa_nil)) (pg_name (i := 2) sc_law.nd rfl (Or.inl rfl)) (pss_cons (ps_set (i := 3) sc_law.nd rfl (Or.inl rfl) (pe_call (ok_term_text T) (hr.mono (by omega)) (by rfl) T.term_text.g T.term_text.F.kp T.term_text.b .nil pass0 (pa_cons (pe_call (ok__law_term T 4) (hr.mono (by omega)) (by rfl) T._law_term.g T._law_term.F.kp T._law_term.b .nil pass0 (pa_cons (pv 1) (pa_cons pe_int (pa_cons (pe_call (ok__law_pick T) (hr.mono (by omega)) (by rfl) T._law_pick.g T._law_pick.F.kp T._law_pick.b .nil pass0 (pa_cons (pv 1) (pa_cons (pe_lst (pa_cons pe_int (pa_cons pe_int (pa_cons (pe_op op_powW pe_int pe_int) pa_nil)))) pa_nil))) (pa_cons (pe_op op_add pe_int (pe_call (ok__law_draw T) (hr.mono (by omega)) (by rfl) T._law_draw.g T._law_draw.F.kp T._law_draw.b .nil pass0 (pa_cons (pv 1) (pa_cons pe_int pa_nil)))) pa_nil))))) pa_nil)))
      (pss_cons (ps_for PassesOwn.never rfl (pi_range1 (by rfl) T.n_range (pa_cons (pe_call (ok__law_draw T) (hr.mono (by omega)) (by rfl) T._law_draw.g T._law_draw.F.kp T._law_draw.b .nil pass0 (pa_cons (pv 1) (pa_cons pe_int pa_nil))) pa_nil)) (pg_name (i := 4) sc_law.nd rfl (Or.inl rfl)) (pss_one (ps_set (i := 3) sc_law.nd rfl (Or.inl rfl) (pe_call (ok__law_bent T) (hr.mono (by omega)) (by rfl) T._law_bent.g T._law_bent.F.kp T._law_bent.b .nil pass0 (pa_cons (pv 1) (pa_cons (pv 3) pa_nil))))))
      (pss_one (ps_if (pt_not (pt_val (pe_call (ok__law_fits T X) (hr.mono (by omega)) (by rfl) T._law_fits.g T._law_fits.F.kp T._law_fits.b .nil pass0 (pa_cons (pv 3) pa_nil)))) (pss_one (ps_ret pe_bl)) pss_nil)))))
      (pss_cons (ps_for PassesOwn.never rfl (pi_list (pe_lst (pa_cons pe_non (pa_cons pe_int (pa_cons pe_int (pa_cons pe_bl (pa_cons (pe_tup pa_nil) (pa_cons (pe_lst pa_nil) (pa_cons pe_dnewK (pa_cons (pe_lst (pa_cons pe_str pa_nil)) (pa_cons (pe_tup (pa_cons pe_str (pa_cons pe_int pa_nil))) pa_nil))))))))))) (pg_name (i := 5) sc_law.nd rfl (Or.inl rfl)) (pss_one (ps_if (pt_cmpR (op_neM (hu64 hr)) (pe_call (ok__law_read T X) (hr.mono (by omega)) (by rfl) T._law_read.g T._law_read.F.kp T._law_read.b .nil pass0 (pa_cons (pv 5) pa_nil)) (pe_lst (pa_cons pe_str (pa_cons pe_int pa_nil))) (nomark _)) (pss_one (ps_ret pe_bl)) pss_nil)))
      (pss_cons (ps_set (i := 6) sc_law.nd rfl (Or.inl rfl) (pe_lst (pa_cons pe_str (pa_cons pe_str (pa_cons pe_str (pa_cons pe_str (pa_cons pe_str (pa_cons pe_str (pa_cons pe_str (pa_cons pe_str (pa_cons pe_str (pa_cons pe_str pa_nil))))))))))))
      (pss_cons (ps_set (i := 6) sc_law.nd rfl (Or.inl rfl) (pe_op op_cat (pv 6) (pe_lst (pa_cons pe_str (pa_cons pe_str (pa_cons pe_str (pa_cons pe_str (pa_cons pe_str (pa_cons pe_str (pa_cons pe_str (pa_cons pe_str (pa_cons (pe_op op_add_str pe_str (pe_op op_mulS pe_str pe_int)) pa_nil))))))))))))
      (pss_cons (ps_set (i := 6) sc_law.nd rfl (Or.inl rfl) (pe_op op_cat (pe_op op_cat (pv 6) (pe_lst (pa_cons (pe_op op_add_str (pe_op op_add_str pe_str (pe_op op_mulS pe_str pe_int)) (pe_op op_mulS pe_str pe_int)) (pa_cons (pe_op op_mulS pe_str pe_int) pa_nil)))) (pe_lc (own := [("k", 4)]) (g := gName 4) (tt := tYes) rfl sc_law.nd (pi_list (pe_lst (pa_cons pe_int (pa_cons pe_int (pa_cons pe_int (pa_cons pe_int pa_nil)))))) (blkOk_by (N := N_law) (sc := defScope s_law) (by decide +kernel)) (fun _ _ _ _ _ => (pg_name (i := 4) sc_law.nd rfl (Or.inl rfl))) (fun _ _ _ _ _ => pts_nil) (fun _ _ _ _ _ => (pe_op op_add_str (pe_op op_add_str (pe_op op_mulS pe_str (pv 4)) pe_str) (pe_op op_mulS pe_str (pv 4)))))))
      (pss_cons (ps_set (i := 6) sc_law.nd rfl (Or.inl rfl) (pe_op op_cat (pe_op op_cat (pv 6) (pe_lc (own := [("k", 4)]) (g := gName 4) (tt := tYes) rfl sc_law.nd (pi_list (pe_lst (pa_cons pe_int (pa_cons pe_int (pa_cons pe_int (pa_cons pe_int pa_nil)))))) (blkOk_by (N := N_law) (sc := defScope s_law) (by decide +kernel)) (fun _ _ _ _ _ => (pg_name (i := 4) sc_law.nd rfl (Or.inl rfl))) (fun _ _ _ _ _ => pts_nil) (fun _ _ _ _ _ => (pe_op op_add_str (pe_op op_add_str pe_str (pe_op op_mulS pe_str (pv 4))) pe_str)))) (pe_lc (own := [("k", 4)]) (g := gName 4) (tt := tYes) rfl sc_law.nd (pi_list (pe_lst (pa_cons pe_int (pa_cons pe_int pa_nil)))) (blkOk_by (N := N_law) (sc := defScope s_law) (by decide +kernel)) (fun _ _ _ _ _ => (pg_name (i := 4) sc_law.nd rfl (Or.inl rfl))) (fun _ _ _ _ _ => pts_nil) (fun _ _ _ _ _ => (pe_op op_add_str (pe_op op_add_str pe_str (pe_op op_mulS pe_str (pv 4))) pe_str)))))
      (pss_cons (ps_for PassesOwn.never rfl (pi_str pe_str) (pg_name (i := 7) sc_law.nd rfl (Or.inl rfl)) (pss_one (ps_set (i := 6) sc_law.nd rfl (Or.inl rfl) (pe_op op_cat (pv 6) (pe_lst (pa_cons (pe_op op_add_str pe_str (pv 7)) (pa_cons (pe_op op_add_str (pe_op op_add_str pe_str (pv 7)) pe_str) (pa_cons (pe_op op_add_str (pv 7) pe_str) (pa_cons (pv 7) pa_nil)))))))))
      (pss_cons (ps_set (i := 6) sc_law.nd rfl (Or.inl rfl) (pe_op op_cat (pv 6) (pe_lst (pa_cons (pe_op op_add_str (pe_op op_add_str (pe_op op_mulS pe_str pe_int) pe_str) (pe_op op_mulS pe_str pe_int)) (pa_cons (pe_op op_add_str (pe_op op_add_str pe_str (pe_op op_mulS pe_str pe_int)) pe_str) pa_nil)))))
      (pss_cons (ps_set (i := 6) sc_law.nd rfl (Or.inl rfl) (pe_op op_cat (pv 6) (pe_lst (pa_cons (pe_op op_mulS pe_str pe_int) (pa_cons (pe_op op_add_str (pe_op op_add_str pe_str (pe_op op_mulS pe_str pe_int)) pe_str) pa_nil)))))
      (pss_cons (ps_set (i := 8) sc_law.nd rfl (Or.inl rfl) (pe_lst (pa_cons (pe_op op_add_str (pe_op op_add_str (pe_op op_mulS pe_str pe_int) pe_str) (pe_op op_mulS pe_str pe_int)) (pa_cons (pe_op op_add_str (pe_op op_add_str pe_str (pe_op op_mulS pe_str pe_int)) pe_str) (pa_cons pe_str (pa_cons (pe_op op_add_str pe_str (pe_op op_mulS pe_str pe_int)) pa_nil))))))
      (pss_cons (ps_for PassesOwn.never rfl (pi_list (pv 8)) (pg_name (i := 3) sc_law.nd rfl (Or.inl rfl)) (pss_one (ps_set (i := 6) sc_law.nd rfl (Or.inl rfl) (pe_op op_cat (pv 6) (pe_lst (pa_cons (pv 3) (pa_cons (pe_slice sl_str (pv 3) po_none (po_some (pe_un un_neg pe_int))) (pa_cons (pe_op op_add_str (pv 3) pe_str) (pa_cons (pe_op op_add_str (pv 3) pe_str) (pa_cons (pe_op op_add_str (pe_slice sl_str (pv 3) po_none (po_some (pe_un un_neg pe_int))) pe_str) (pa_cons (pe_op op_add_str (pv 3) pe_str) (pa_cons (pe_op op_add_str (pv 3) pe_str) pa_nil))))))))))))
      (pss_one (ps_ret (pe_cmpR (op_eqM (hu64 hr)) (pe_lc (own := [("text", 3)]) (g := gName 3) rfl sc_law.nd (pi_list (pv 6)) (blkOk_by (N := N_law) (sc := defScope s_law) (by decide +kernel)) (fun _ _ _ _ _ => (pg_name (i := 3) sc_law.nd rfl (Or.inl rfl))) (fun _ _ _ _ _ => pts_one (pt_not (pt_val (pe_call (ok__law_fits T X) (hr.mono (by omega)) (by rfl) T._law_fits.g T._law_fits.F.kp T._law_fits.b .nil pass0 (pa_cons (pv 3) pa_nil))))) (fun _ _ _ _ _ => (pv 3))) (pe_lst pa_nil) (nomark _)))))))))))))))), ?_⟩
  -- source
  refine ⟨_, rfl, a, ns, rfl, hS, h63, fun s c H1 e1 _ _ S1 => ?_⟩
  dsimp only [L2.gName]
  refine Evl.q_forR1 (n := 60) (Evl.ea_cons Evl.ev_c Evl.ea_nil) ⟨by decide, by decide⟩
    (fun i σ' H' => ∃ y2 y3 y4 : Option V, σ' = [some (.ref a), some (.ref s), y2, y3, y4, none, none, none, none] ∧ Src H' s c (4000 * i))
    (fun H2 e2 => ⟨_, _, _, rfl, S1.ex1 e2⟩) (fun i σ' H' hi hW => ?_) (fun σ' H' hW => ?_)
  · obtain ⟨y2, y3, y4, rfl, S2⟩ := hW
    -- text
    refine ⟨_, rfl, _, rfl, 10, 30, rfl, rfl, ⟨by decide, by decide +kernel⟩, by simp; decide, fun p hp => ⟨s, c, p, _, _, rfl, S2.new hp, by omega, .inl (.inl upd_same), (S2.nes' hp).1, (S2.nes' hp).2, by simp, by simp, fun v H3 hv _ S3 => ?_⟩⟩
    obtain ⟨mo, rfl, mo1, mo30⟩ : ∃ z : Int, v = .int z ∧ 1 ≤ z ∧ z ≤ 10 ^ 30 := by
      simp only [List.mem_cons, List.not_mem_nil, or_false] at hv
      rcases hv with rfl | rfl | rfl
      · exact ⟨_, rfl, by decide, by decide⟩
      · exact ⟨_, rfl, by decide, by decide⟩
      · exact ⟨_, rfl, by decide +kernel, by decide +kernel⟩
    clear hv
    refine ⟨_, rfl, s, c, _, 4, rfl, S3, by omega, by decide, by decide, fun d2 H5 d20 d24 _ S5 => ⟨_, _, rfl, rfl, ?_⟩⟩
    obtain ⟨k2, rfl⟩ : ∃ k : Nat, d2 = (k : Int) := ⟨d2.toNat, by omega⟩
    have hc4 : cost (1 + k2) ≤ 1600 := by
      have : k2 = 0 ∨ k2 = 1 ∨ k2 = 2 ∨ k2 = 3 := by omega
      rcases this with rfl | rfl | rfl | rfl <;> decide
    have hM5 : Dom [s, c] H5 := by
      obtain ⟨_, ks, tt, g1, g2, _⟩ := S5
      intro m hm
      simp only [List.mem_cons, List.not_mem_nil, or_false] at hm
      rcases hm with rfl | rfl
      · rw [g1]
        exact fun z => nomatch z
      · rw [g2]
        exact fun z => nomatch z
    refine ⟨s, c, _, [s, c], 6, mo, 1 + k2, by rw [Int.natCast_add]; rfl, S5, by simp, by simp, hM5, by omega, by omega, by omega, by omega, by omega, mo1, mo30, fun v t H6 e6 S6 hd hG => ?_⟩
    have hok : okT t := hG.okT (by omega)
    have hM6 := hM5.exM e6 S6
    refine ⟨[s, c], t, v, rfl, hM6, hd, hok, fun H7 e7 => ?_⟩
    have S7 := S6.ex1 e7
    have hlen := wrc_len t hok.2.2
    have hnb := nbr_wrc t hok.2.2
    have hc40 := hok.1
    have h0 : OkW (bA 0) (bB 0) (.str (S (wrc t))) := ⟨wrc t, rfl, by show _ ≤ 2400; omega, by show _ ≤ 39; omega⟩
    dsimp only [L2.gName]
    -- bent
    refine ⟨_, rfl, s, c, _, 3, rfl, S7, by omega, by decide, by decide, fun d H8 d0 d3 _ S8 => ⟨_, rfl, by omega, by omega, for_range (lo := 0) (n := d.toNat) (fun j σ' H' => ∃ (x : V) (y4 : Option V), σ' = [some (.ref a), some (.ref s), some (.int i), some x, y4, none, none, none, none] ∧ OkW (bA j) (bB j) x ∧ Src H' s c (4000 * i + 1 + 1 + cost (1 + k2) + 1 + 3 * j)) ⟨_, _, rfl, h0, S8⟩ (fun j σ' H' hj hP => ?_) (fun σ' H' hP => ?_)⟩⟩
    · obtain ⟨x, y4, rfl, hx, S9⟩ := hP
      have hj2 : j = 0 ∨ j = 1 := by omega
      refine ⟨_, rfl, _, rfl, s, c, _, bA j, bB j, x, rfl, S9, by omega, hx, by rcases hj2 with rfl | rfl <;> decide, fun v2 H10 hv2 _ S10 => ?_⟩
      exact ⟨v2, _, rfl, hv2, S10⟩
    · obtain ⟨x, y4, rfl, hx, S9⟩ := hP
      have hj2 : d.toNat = 0 ∨ d.toNat = 1 ∨ d.toNat = 2 := by omega
      have hx2 : OkW 9720 200 x := hx.mono (by rcases hj2 with h | h | h <;> rw [h] <;> decide) (by rcases hj2 with h | h | h <;> rw [h] <;> decide)
      dsimp only
      refine Evl.s_when (b := false) (Evl.et_is (Evl.et_not (Evl.et_B (ev_fits (Evl.ev_var (by rfl)) hx2 (by decide) (by decide)))) rfl) (fun hb => nomatch hb) fun _ H10 e10 => ?_
      exact ⟨_, _, _, rfl, (S9.ex1 e10).mono (by omega)⟩
  obtain ⟨y2, y3, y4, rfl, S2⟩ := hW
  clear S2 S1 e1 hS h63
  -- values that are no texts
  have hvals : ANn K 9 (tCons (tC .non) (tCons (tC (.int 0)) (tCons (tC (.int 12)) (tCons (tC (.bl true)) (tCons (tTup tNil) (tCons (tLst tNil) (tCons tDNewK (tCons (tLst (tCons (tC (.str (Str.ofString "a"))) tNil)) (tCons (tTup (tCons (tC (.str (Str.ofString "plain"))) (tCons (tC (.int 1)) tNil))) tNil))))))))) [some (.ref a), some (.ref s), y2, y3, y4, none, none, none, none] H' :=
    ann_cons (en_c fun H => ⟨"NoneType", .base .non, by decide +kernel⟩) (ann_cons (en_c fun H => ⟨"int", .base (.int _), by decide +kernel⟩) (ann_cons (en_c fun H => ⟨"int", .base (.int _), by decide +kernel⟩) (ann_cons (en_c fun H => ⟨"bool", .base (.bl _), by decide +kernel⟩)
      (ann_cons (en_tup Evl.ea_nil (by decide)) (ann_cons (en_lst Evl.ea_nil (by decide)) (ann_cons en_dct (ann_cons (en_lst (Evl.ea_cons Evl.ev_c Evl.ea_nil) (by decide)) (ann_cons (en_tup (Evl.ea_cons Evl.ev_c (Evl.ea_cons Evl.ev_c Evl.ea_nil)) (by decide)) ann_nil))))))))
  refine q_forAN (n := 9) hvals (by decide) (fun σ' => ∃ y5 : Option V, σ' = [some (.ref a), some (.ref s), y2, y3, y4, y5, none, none, none]) ⟨_, rfl⟩ (fun x σ' H'' hxn hP N hN => ?_) (fun σ' H'' hP => ?_)
  · obtain ⟨y5, rfl⟩ := hP
    have hd : (PyData.list [.str "wrong", .int ((0 : Nat) : Int)]).canLay0 = true := by decide +kernel
    refine Evl.s_when (b := false) (Evl.et_is (Evl.et_test (ev_neM (K := K) (M := []) (e := .list [.str "wrong", .int ((0 : Nat) : Int)]) (de_lreadV (dom00 _) (by rfl) hxn) (de_dl (dom00 _) (dl_lst (da_cons (de_sc Evl.ev_c (d := .str "wrong") rfl) (da_cons (de_sc Evl.ev_c (d := .int ((0 : Nat) : Int)) rfl) da_nil)) (show 2 ≤ 1000 by decide))) hd hd (by decide))) (by rw [eqv_same _ hd]; rfl)) (fun hb => nomatch hb) fun _ H4 e4 => hN _ _ ⟨_, rfl⟩ e4
  obtain ⟨y5, rfl⟩ := hP
  clear hvals
  refine q_asgW (lw_lst (n := 10) (a := 20000) (b := 950) (aw_cons ((ew_c (a := 0) (b := 0) (by decide +kernel)).mono (by decide) (by decide)) (aw_cons ((ew_c (a := 1) (b := 0) (by decide +kernel)).mono (by decide) (by decide)) (aw_cons ((ew_c (a := 3) (b := 0) (by decide +kernel)).mono (by decide) (by decide)) (aw_cons ((ew_c (a := 7) (b := 0) (by decide +kernel)).mono (by decide) (by decide)) (aw_cons ((ew_c (a := 7) (b := 1) (by decide +kernel)).mono (by decide) (by decide)) (aw_cons ((ew_c (a := 7) (b := 1) (by decide +kernel)).mono (by decide) (by decide)) (aw_cons ((ew_c (a := 8) (b := 2) (by decide +kernel)).mono (by decide) (by decide)) (aw_cons ((ew_c (a := 7) (b := 1) (by decide +kernel)).mono (by decide) (by decide)) (aw_cons ((ew_c (a := 9) (b := 1) (by decide +kernel)).mono (by decide) (by decide)) (aw_cons ((ew_c (a := 12) (b := 2) (by decide +kernel)).mono (by decide) (by decide)) aw_nil)))))))))) (by decide)) fun p0 xs0 H3 n3 e3 h3 l3 k3 => ?_
  refine q_asgW (n := 10 + 9) (a := 20000) (b := 950) (lw_v rfl h3 l3 k3 (lw_lst (n := 9) (a := 20000) (b := 950) (aw_cons ((ew_c (a := 11) (b := 2) (by decide +kernel)).mono (by decide) (by decide)) (aw_cons ((ew_c (a := 9) (b := 1) (by decide +kernel)).mono (by decide) (by decide)) (aw_cons ((ew_c (a := 3) (b := 0) (by decide +kernel)).mono (by decide) (by decide)) (aw_cons ((ew_c (a := 2) (b := 0) (by decide +kernel)).mono (by decide) (by decide)) (aw_cons ((ew_c (a := 2) (b := 0) (by decide +kernel)).mono (by decide) (by decide)) (aw_cons ((ew_c (a := 2) (b := 0) (by decide +kernel)).mono (by decide) (by decide)) (aw_cons ((ew_c (a := 4) (b := 0) (by decide +kernel)).mono (by decide) (by decide)) (aw_cons ((ew_c (a := 9) (b := 0) (by decide +kernel)).mono (by decide) (by decide)) (aw_cons (((ew_cat (ew_c (a := 1) (b := 0) (by decide +kernel)) ((ew_mul (a := 1) (b := 0) (k := 30) (ew_c (a := 1) (b := 0) (by decide +kernel)) Evl.ev_c (by decide) (by decide)).mono (a' := 30) (b' := 0) (by decide) (by decide)) (by decide)).mono (a' := 31) (b' := 0) (by decide) (by decide)).mono (by decide) (by decide)) aw_nil))))))))) (by decide)) (by omega)) fun p4 xs4 H4 n4 e4 h4 l4 k4 => ?_
  refine q_asgW (n := 10 + 9 + 2 + 4) (a := 20000) (b := 950) (lw_cat (lw_v rfl h4 l4 k4 (lw_lst (n := 2) (a := 20000) (b := 950) (aw_cons (((ew_cat ((ew_cat (ew_c (a := 1) (b := 0) (by decide +kernel)) ((ew_mul (a := 1) (b := 0) (k := 29) (ew_c (a := 1) (b := 0) (by decide +kernel)) Evl.ev_c (by decide) (by decide)).mono (a' := 29) (b' := 0) (by decide) (by decide)) (by decide)).mono (a' := 30) (b' := 0) (by decide) (by decide)) ((ew_mul (a := 1) (b := 0) (k := 2) (ew_c (a := 1) (b := 0) (by decide +kernel)) Evl.ev_c (by decide) (by decide)).mono (a' := 2) (b' := 0) (by decide) (by decide)) (by decide)).mono (a' := 32) (b' := 0) (by decide) (by decide)).mono (by decide) (by decide)) (aw_cons (((ew_mul (a := 1) (b := 0) (k := 31) (ew_c (a := 1) (b := 0) (by decide +kernel)) Evl.ev_c (by decide) (by decide)).mono (a' := 31) (b' := 0) (by decide) (by decide)).mono (by decide) (by decide)) aw_nil)) (by decide)) (by omega)) (lw_lc (a := 20000) (b := 950) (ks := [4, 5, 6, 100]) (Evl.el_lst (Evl.ea_cons Evl.ev_c (Evl.ea_cons Evl.ev_c (Evl.ea_cons Evl.ev_c (Evl.ea_cons Evl.ev_c Evl.ea_nil)))) (by decide)) (by decide) (fun _ => rfl) (fun k hk H9 => by
      have hk : k ≤ 100 := by
        simp only [List.mem_cons, List.not_mem_nil, or_false] at hk
        omega
      exact ((ew_cat ((ew_cat ((ew_mul (a := 5) (b := 1) (k := k) (ew_c (a := 5) (b := 1) (by decide +kernel)) (Evl.ev_var rfl) (by omega) (by omega)).mono (a' := 500) (b' := 100) (by omega) (by omega)) (ew_c (a := 1) (b := 0) (by decide +kernel)) (by decide)).mono (a' := 501) (b' := 100) (by decide) (by decide)) ((ew_mul (a := 1) (b := 0) (k := k) (ew_c (a := 1) (b := 0) (by decide +kernel)) (Evl.ev_var rfl) (by omega) (by omega)).mono (a' := 100) (b' := 0) (by omega) (by omega)) (by decide)).mono (a' := 601) (b' := 100) (by decide) (by decide)).mono (by decide) (by decide))) (by omega)) fun p5 xs5 H5 n5 e5 h5 l5 k5 => ?_
  refine q_asgW (n := 10 + 9 + 2 + 4 + 4 + 2) (a := 20000) (b := 950) (lw_cat (lw_v rfl h5 l5 k5 (lw_lc (a := 20000) (b := 950) (ks := [4, 5, 6, 40]) (Evl.el_lst (Evl.ea_cons Evl.ev_c (Evl.ea_cons Evl.ev_c (Evl.ea_cons Evl.ev_c (Evl.ea_cons Evl.ev_c Evl.ea_nil)))) (by decide)) (by decide) (fun _ => rfl) (fun k hk H9 => by
      have hk : k ≤ 40 := by
        simp only [List.mem_cons, List.not_mem_nil, or_false] at hk
        omega
      exact ((ew_cat ((ew_cat (ew_c (a := 6) (b := 1) (by decide +kernel)) ((ew_mul (a := 3) (b := 1) (k := k) (ew_c (a := 3) (b := 1) (by decide +kernel)) (Evl.ev_var rfl) (by omega) (by omega)).mono (a' := 120) (b' := 40) (by omega) (by omega)) (by decide)).mono (a' := 126) (b' := 41) (by decide) (by decide)) (ew_c (a := 2) (b := 0) (by decide +kernel)) (by decide)).mono (a' := 128) (b' := 41) (by decide) (by decide)).mono (by decide) (by decide))) (by omega)) (lw_lc (a := 20000) (b := 950) (ks := [5, 6]) (Evl.el_lst (Evl.ea_cons Evl.ev_c (Evl.ea_cons Evl.ev_c Evl.ea_nil)) (by decide)) (by decide) (fun _ => rfl) (fun k hk H9 => by
      have hk : k ≤ 6 := by
        simp only [List.mem_cons, List.not_mem_nil, or_false] at hk
        omega
      exact ((ew_cat ((ew_cat (ew_c (a := 7) (b := 1) (by decide +kernel)) ((ew_mul (a := 3) (b := 1) (k := k) (ew_c (a := 3) (b := 1) (by decide +kernel)) (Evl.ev_var rfl) (by omega) (by omega)).mono (a' := 18) (b' := 6) (by omega) (by omega)) (by decide)).mono (a' := 25) (b' := 7) (by decide) (by decide)) (ew_c (a := 2) (b := 0) (by decide +kernel)) (by decide)).mono (a' := 27) (b' := 7) (by decide) (by decide)).mono (by decide) (by decide))) (by omega)) fun p6 xs6 H6 n6 e6 h6 l6 k6 => ?_
  have hlet : (Str.ofString "abcdefghijklmnopqrstuvwxyz") = S letters := hLET
  refine q_forS (cs := letters) (Evl.ev_is Evl.ev_c (congrArg V.str hLET)) (fun i σ' H'' => ∃ (p : Addr) (xs : List V) (y7 : Option V), σ' = [some (.ref a), some (.ref s), y2, y3, y4, y5, some (.ref p), y7, none] ∧ H'' p = some (.lst xs) ∧ xs.length = 31 + 4 * i ∧ ∀ v ∈ xs, OkW 20000 950 v)
    (fun H7 e7 => ⟨_, _, _, rfl, e7 _ _ h6, l6, k6⟩) (fun i c σ' H'' hc hP => ?_) (fun σ' H'' hP => ?_)
  · obtain ⟨p, xs, y7, rfl, hp2, hl2, hk2⟩ := hP
    have hi26 : i < 26 := (List.getElem?_eq_some_iff.mp hc).1
    have hlt : OkW 1 1 (.str (S [c])) := ⟨[c], rfl, by simp, Nat.le_trans (nbr_le _) (by simp)⟩
    dsimp only [L2.gName]
    refine ((lw_v rfl hp2 hl2 hk2 (lw_lst (n := 4) (a := 20000) (b := 950) (aw_cons (((ew_cat (ew_c (a := 1) (b := 0) (by decide +kernel)) (ew_v (a := 1) (b := 1) rfl hlt) (by decide)).mono (a' := 2) (b' := 1) (by decide) (by decide)).mono (by decide) (by decide)) (aw_cons (((ew_cat ((ew_cat (ew_c (a := 5) (b := 0) (by decide +kernel)) (ew_v (a := 1) (b := 1) rfl hlt) (by decide)).mono (a' := 6) (b' := 1) (by decide) (by decide)) (ew_c (a := 3) (b := 1) (by decide +kernel)) (by decide)).mono (a' := 9) (b' := 2) (by decide) (by decide)).mono (by decide) (by decide)) (aw_cons (((ew_cat (ew_v (a := 1) (b := 1) rfl hlt) (ew_c (a := 1) (b := 0) (by decide +kernel)) (by decide)).mono (a' := 2) (b' := 1) (by decide) (by decide)).mono (by decide) (by decide)) (aw_cons ((ew_v (a := 1) (b := 1) rfl hlt).mono (by decide) (by decide)) aw_nil)))) (by decide)) (by omega)) : LW ((31 + 4 * i) + 4) 20000 950 _ _ _) H'' (Evl.Ex.refl _) _ fun p9 xs9 H9 n9 e9 h9 l9 k9 => ?_
    exact ⟨p9, xs9, _, rfl, h9, by omega, k9⟩
  obtain ⟨p, xs, y7, rfl, hp2, hl2, hk2⟩ := hP
  have hl2' : xs.length = 135 := hl2
  refine q_asgW (n := 135 + 2) (a := 20000) (b := 950) (lw_v rfl hp2 hl2' hk2 (lw_lst (n := 2) (a := 20000) (b := 950) (aw_cons (((ew_cat ((ew_cat ((ew_mul (a := 1) (b := 0) (k := 4999) (ew_c (a := 1) (b := 0) (by decide +kernel)) Evl.ev_c (by decide) (by decide)).mono (a' := 4999) (b' := 0) (by decide) (by decide)) (ew_c (a := 1) (b := 0) (by decide +kernel)) (by decide)).mono (a' := 5000) (b' := 0) (by decide) (by decide)) ((ew_mul (a := 1) (b := 0) (k := 4999) (ew_c (a := 1) (b := 0) (by decide +kernel)) Evl.ev_c (by decide) (by decide)).mono (a' := 4999) (b' := 0) (by decide) (by decide)) (by decide)).mono (a' := 9999) (b' := 0) (by decide) (by decide)).mono (by decide) (by decide)) (aw_cons (((ew_cat ((ew_cat (ew_c (a := 6) (b := 1) (by decide +kernel)) ((ew_mul (a := 2) (b := 1) (k := 900) (ew_c (a := 2) (b := 1) (by decide +kernel)) Evl.ev_c (by decide) (by decide)).mono (a' := 1800) (b' := 900) (by decide) (by decide)) (by decide)).mono (a' := 1806) (b' := 901) (by decide) (by decide)) (ew_c (a := 2) (b := 0) (by decide +kernel)) (by decide)).mono (a' := 1808) (b' := 901) (by decide) (by decide)).mono (by decide) (by decide)) aw_nil)) (by decide)) (by omega)) fun p10 xs10 H10 n10 e10 h10 l10 k10 => ?_
  refine q_asgW (n := 135 + 2 + 2) (a := 20000) (b := 950) (lw_v rfl h10 l10 k10 (lw_lst (n := 2) (a := 20000) (b := 950) (aw_cons (((ew_mul (a := 1) (b := 0) (k := 9999) (ew_c (a := 1) (b := 0) (by decide +kernel)) Evl.ev_c (by decide) (by decide)).mono (a' := 9999) (b' := 0) (by decide) (by decide)).mono (by decide) (by decide)) (aw_cons (((ew_cat ((ew_cat (ew_c (a := 7) (b := 1) (by decide +kernel)) ((ew_mul (a := 1) (b := 0) (k := 9000) (ew_c (a := 1) (b := 0) (by decide +kernel)) Evl.ev_c (by decide) (by decide)).mono (a' := 9000) (b' := 0) (by decide) (by decide)) (by decide)).mono (a' := 9007) (b' := 1) (by decide) (by decide)) (ew_c (a := 2) (b := 0) (by decide +kernel)) (by decide)).mono (a' := 9009) (b' := 1) (by decide) (by decide)).mono (by decide) (by decide)) aw_nil)) (by decide)) (by omega)) fun p11 xs11 H11 n11 e11 h11 l11 k11 => ?_
  refine q_asgW (lw_lst (n := 4) (a := 300) (b := 50) (aw_cons (((ew_cat ((ew_cat ((ew_mul (a := 5) (b := 1) (k := 6) (ew_c (a := 5) (b := 1) (by decide +kernel)) Evl.ev_c (by decide) (by decide)).mono (a' := 30) (b' := 6) (by decide) (by decide)) (ew_c (a := 1) (b := 0) (by decide +kernel)) (by decide)).mono (a' := 31) (b' := 6) (by decide) (by decide)) ((ew_mul (a := 1) (b := 0) (k := 6) (ew_c (a := 1) (b := 0) (by decide +kernel)) Evl.ev_c (by decide) (by decide)).mono (a' := 6) (b' := 0) (by decide) (by decide)) (by decide)).mono (a' := 37) (b' := 6) (by decide) (by decide)).mono (by decide) (by decide)) (aw_cons (((ew_cat ((ew_cat (ew_c (a := 6) (b := 1) (by decide +kernel)) ((ew_mul (a := 3) (b := 1) (k := 6) (ew_c (a := 3) (b := 1) (by decide +kernel)) Evl.ev_c (by decide) (by decide)).mono (a' := 18) (b' := 6) (by decide) (by decide)) (by decide)).mono (a' := 24) (b' := 7) (by decide) (by decide)) (ew_c (a := 2) (b := 0) (by decide +kernel)) (by decide)).mono (a' := 26) (b' := 7) (by decide) (by decide)).mono (by decide) (by decide)) (aw_cons ((ew_c (a := 12) (b := 2) (by decide +kernel)).mono (by decide) (by decide)) (aw_cons (((ew_cat (ew_c (a := 4) (b := 0) (by decide +kernel)) ((ew_mul (a := 1) (b := 0) (k := 31) (ew_c (a := 1) (b := 0) (by decide +kernel)) Evl.ev_c (by decide) (by decide)).mono (a' := 31) (b' := 0) (by decide) (by decide)) (by decide)).mono (a' := 35) (b' := 0) (by decide) (by decide)).mono (by decide) (by decide)) aw_nil)))) (by decide)) fun pg xsg H20 n20 e20 h20 l20 k20 => ?_
  refine Evl.q_forLn (Evl.ev_var rfl) (Evl.sq_of h20) (fun i σ' H'' => Evl.Ex H20 H'' ∧ ∃ (p : Addr) (xs : List V) (y3 : Option V), σ' = [some (.ref a), some (.ref s), y2, y3, y4, y5, some (.ref p), y7, some (.ref pg)] ∧ H'' p = some (.lst xs) ∧ xs.length = 139 + 7 * i ∧ ∀ v ∈ xs, OkW 20000 950 v)
    (fun H7 e7 => ⟨e7, _, _, _, rfl, (e20.trans e7) _ _ h11, l11, k11⟩) (fun i σ' H'' _ hP => Evl.sq_of (hP.1 _ _ h20)) (fun i x σ' H'' hi hP => ?_) (fun σ' H'' hP => ?_)
  · obtain ⟨eP, p, xs, y3, rfl, hp3, hl3, hk3⟩ := hP
    have hi4 : i < 4 := by
      have := (List.getElem?_eq_some_iff.mp hi).1
      omega
    have htx : OkW 300 50 x := k20 x (List.mem_of_getElem? hi)
    refine ((lw_v rfl hp3 hl3 hk3 (lw_lst (n := 7) (a := 20000) (b := 950) (aw_cons ((ew_v (a := 300) (b := 50) rfl htx).mono (by decide) (by decide)) (aw_cons ((ew_sl (ew_v (a := 300) (b := 50) rfl htx) Evl.eo_none (Evl.eo_some (Evl.ev_un Evl.ev_c Evl.ru_neg)) (by decide)).mono (by decide) (by decide)) (aw_cons (((ew_cat (ew_v (a := 300) (b := 50) rfl htx) (ew_c (a := 1) (b := 0) (by decide +kernel)) (by decide)).mono (a' := 301) (b' := 50) (by decide) (by decide)).mono (by decide) (by decide)) (aw_cons (((ew_cat (ew_v (a := 300) (b := 50) rfl htx) (ew_c (a := 2) (b := 0) (by decide +kernel)) (by decide)).mono (a' := 302) (b' := 50) (by decide) (by decide)).mono (by decide) (by decide)) (aw_cons (((ew_cat (ew_sl (ew_v (a := 300) (b := 50) rfl htx) Evl.eo_none (Evl.eo_some (Evl.ev_un Evl.ev_c Evl.ru_neg)) (by decide)) (ew_c (a := 5) (b := 0) (by decide +kernel)) (by decide)).mono (a' := 305) (b' := 50) (by decide) (by decide)).mono (by decide) (by decide)) (aw_cons (((ew_cat (ew_v (a := 300) (b := 50) rfl htx) (ew_c (a := 1) (b := 1) (by decide +kernel)) (by decide)).mono (a' := 301) (b' := 51) (by decide) (by decide)).mono (by decide) (by decide)) (aw_cons (((ew_cat (ew_v (a := 300) (b := 50) rfl htx) (ew_c (a := 2) (b := 0) (by decide +kernel)) (by decide)).mono (a' := 302) (b' := 50) (by decide) (by decide)).mono (by decide) (by decide)) aw_nil))))))) (by decide)) (by omega)) : LW ((139 + 7 * i) + 7) 20000 950 _ _ _) H'' (Evl.Ex.refl _) _ fun p9 xs9 H9 n9 e9 h9 l9 k9 => ?_
    exact ⟨eP.trans e9, p9, xs9, _, rfl, h9, by omega, k9⟩
  obtain ⟨_, p, xs, y3, rfl, hp3, hl3, hk3⟩ := hP
  have hz : xs.length ≤ 40000 := by
    rw [hl3, l20]
    decide
  refine Evl.s_ret (Evl.ev_is (ev_eqM (K := K) (M := []) (de_dl (dom00 _) (dl_none (n := xs.length) (v := fun _ => V.non) ?_)) (de_dl (dom00 _) (dl_lst da_nil (show 0 ≤ 1000 by decide))) (by decide) (by decide) (by decide)) (show V.bl (PyData.eqv (.list []) (.list [])) = V.bl true from rfl)) fun H30 _ => q H30
  exact Evl.el_lcL (fun _ => false) (fun _ => V.non) (Evl.ev_var rfl) (Evl.sq_of hp3) hz (fun _ => rfl) (fun i x H1 e hi => by exact Evl.et_is (Evl.et_not (Evl.et_B (ev_fits (Evl.ev_var (by rfl)) (hk3 x (List.mem_of_getElem? hi)) (by decide) (by decide)))) rfl) (fun i x H1 e hi hb => nomatch hb)
end
end K04

set_option Elab.async false
set_option linter.all false
set_option maxRecDepth 100000
set_option maxHeartbeats 8000000
namespace K04
open PySem PySem.Spec PyProof.Rows L2 DK DD TM TX SX RD XC2
theorem all_mk {l : PySem.W.OpenLaw} {w : World} {K : PySem.W.Frag} {h : Heap} {mg : Str → Option Value} {fa : Addr} (X : K.In h) (G : h.Ns mainGlobals mg) (hfa : mg "law" = some (.ref fa))
    {f_is_int : Addr} {od_is_int an_is_int : Option Addr} {sl_is_int : Array (Option Value)} {oc_is_int kV_is_int dc_is_int pm_is_int cd_is_int ct_is_int : Value}
    (a_is_int : PySem.W.nsIn K mainGlobals "is_int" = some (some (.ref f_is_int))) (l_is_int : K.lookup f_is_int = some ⟨oc_is_int, od_is_int, .func (PySem.W.fnOf "is_int" "is_int" (defArgs s_is_int) (defBody s_is_int) (defScope s_is_int) .none kV_is_int dc_is_int pm_is_int an_is_int cd_is_int ct_is_int), sl_is_int⟩) (c_is_int : PySem.W.codeIn K cd_is_int "is_int" = true) (k_is_int : PySem.W.keepIn K (.ref f_is_int) = true)
    {f_is_int_from : Addr} {od_is_int_from an_is_int_from : Option Addr} {sl_is_int_from : Array (Option Value)} {oc_is_int_from kV_is_int_from dc_is_int_from pm_is_int_from cd_is_int_from ct_is_int_from : Value}
    (a_is_int_from : PySem.W.nsIn K mainGlobals "is_int_from" = some (some (.ref f_is_int_from))) (l_is_int_from : K.lookup f_is_int_from = some ⟨oc_is_int_from, od_is_int_from, .func (PySem.W.fnOf "is_int_from" "is_int_from" (defArgs s_is_int_from) (defBody s_is_int_from) (defScope s_is_int_from) .none kV_is_int_from dc_is_int_from pm_is_int_from an_is_int_from cd_is_int_from ct_is_int_from), sl_is_int_from⟩) (c_is_int_from : PySem.W.codeIn K cd_is_int_from "is_int_from" = true) (k_is_int_from : PySem.W.keepIn K (.ref f_is_int_from) = true)
    {f_is_number : Addr} {od_is_number an_is_number : Option Addr} {sl_is_number : Array (Option Value)} {oc_is_number kV_is_number dc_is_number pm_is_number cd_is_number ct_is_number : Value}
    (a_is_number : PySem.W.nsIn K mainGlobals "is_number" = some (some (.ref f_is_number))) (l_is_number : K.lookup f_is_number = some ⟨oc_is_number, od_is_number, .func (PySem.W.fnOf "is_number" "is_number" (defArgs s_is_number) (defBody s_is_number) (defScope s_is_number) .none kV_is_number dc_is_number pm_is_number an_is_number cd_is_number ct_is_number), sl_is_number⟩) (c_is_number : PySem.W.codeIn K cd_is_number "is_number" = true) (k_is_number : PySem.W.keepIn K (.ref f_is_number) = true)
    {f_is_leaf : Addr} {od_is_leaf an_is_leaf : Option Addr} {sl_is_leaf : Array (Option Value)} {oc_is_leaf kV_is_leaf dc_is_leaf pm_is_leaf cd_is_leaf ct_is_leaf : Value}
    (a_is_leaf : PySem.W.nsIn K mainGlobals "is_leaf" = some (some (.ref f_is_leaf))) (l_is_leaf : K.lookup f_is_leaf = some ⟨oc_is_leaf, od_is_leaf, .func (PySem.W.fnOf "is_leaf" "is_leaf" (defArgs s_is_leaf) (defBody s_is_leaf) (defScope s_is_leaf) .none kV_is_leaf dc_is_leaf pm_is_leaf an_is_leaf cd_is_leaf ct_is_leaf), sl_is_leaf⟩) (c_is_leaf : PySem.W.codeIn K cd_is_leaf "is_leaf" = true) (k_is_leaf : PySem.W.keepIn K (.ref f_is_leaf) = true)
    {f_parts_of : Addr} {od_parts_of an_parts_of : Option Addr} {sl_parts_of : Array (Option Value)} {oc_parts_of kV_parts_of dc_parts_of pm_parts_of cd_parts_of ct_parts_of : Value}
    (a_parts_of : PySem.W.nsIn K mainGlobals "parts_of" = some (some (.ref f_parts_of))) (l_parts_of : K.lookup f_parts_of = some ⟨oc_parts_of, od_parts_of, .func (PySem.W.fnOf "parts_of" "parts_of" (defArgs s_parts_of) (defBody s_parts_of) (defScope s_parts_of) .none kV_parts_of dc_parts_of pm_parts_of an_parts_of cd_parts_of ct_parts_of), sl_parts_of⟩) (c_parts_of : PySem.W.codeIn K cd_parts_of "parts_of" = true) (k_parts_of : PySem.W.keepIn K (.ref f_parts_of) = true)
    {f_is_term : Addr} {od_is_term an_is_term : Option Addr} {sl_is_term : Array (Option Value)} {oc_is_term kV_is_term dc_is_term pm_is_term cd_is_term ct_is_term : Value}
    (a_is_term : PySem.W.nsIn K mainGlobals "is_term" = some (some (.ref f_is_term))) (l_is_term : K.lookup f_is_term = some ⟨oc_is_term, od_is_term, .func (PySem.W.fnOf "is_term" "is_term" (defArgs s_is_term) (defBody s_is_term) (defScope s_is_term) .none kV_is_term dc_is_term pm_is_term an_is_term cd_is_term ct_is_term), sl_is_term⟩) (c_is_term : PySem.W.codeIn K cd_is_term "is_term" = true) (k_is_term : PySem.W.keepIn K (.ref f_is_term) = true)
    {f_check_term : Addr} {od_check_term an_check_term : Option Addr} {sl_check_term : Array (Option Value)} {oc_check_term kV_check_term dc_check_term pm_check_term cd_check_term ct_check_term : Value}
    (a_check_term : PySem.W.nsIn K mainGlobals "check_term" = some (some (.ref f_check_term))) (l_check_term : K.lookup f_check_term = some ⟨oc_check_term, od_check_term, .func (PySem.W.fnOf "check_term" "check_term" (defArgs s_check_term) (defBody s_check_term) (defScope s_check_term) .none kV_check_term dc_check_term pm_check_term an_check_term cd_check_term ct_check_term), sl_check_term⟩) (c_check_term : PySem.W.codeIn K cd_check_term "check_term" = true) (k_check_term : PySem.W.keepIn K (.ref f_check_term) = true)
    {f__has_form : Addr} {od__has_form an__has_form : Option Addr} {sl__has_form : Array (Option Value)} {oc__has_form kV__has_form dc__has_form pm__has_form cd__has_form ct__has_form : Value}
    (a__has_form : PySem.W.nsIn K mainGlobals "_has_form" = some (some (.ref f__has_form))) (l__has_form : K.lookup f__has_form = some ⟨oc__has_form, od__has_form, .func (PySem.W.fnOf "_has_form" "_has_form" (defArgs s__has_form) (defBody s__has_form) (defScope s__has_form) .none kV__has_form dc__has_form pm__has_form an__has_form cd__has_form ct__has_form), sl__has_form⟩) (c__has_form : PySem.W.codeIn K cd__has_form "_has_form" = true) (k__has_form : PySem.W.keepIn K (.ref f__has_form) = true)
    {f__are_parts : Addr} {od__are_parts an__are_parts : Option Addr} {sl__are_parts : Array (Option Value)} {oc__are_parts kV__are_parts dc__are_parts pm__are_parts cd__are_parts ct__are_parts : Value}
    (a__are_parts : PySem.W.nsIn K mainGlobals "_are_parts" = some (some (.ref f__are_parts))) (l__are_parts : K.lookup f__are_parts = some ⟨oc__are_parts, od__are_parts, .func (PySem.W.fnOf "_are_parts" "_are_parts" (defArgs s__are_parts) (defBody s__are_parts) (defScope s__are_parts) .none kV__are_parts dc__are_parts pm__are_parts an__are_parts cd__are_parts ct__are_parts), sl__are_parts⟩) (c__are_parts : PySem.W.codeIn K cd__are_parts "_are_parts" = true) (k__are_parts : PySem.W.keepIn K (.ref f__are_parts) = true)
    {f__law_source : Addr} {od__law_source an__law_source : Option Addr} {sl__law_source : Array (Option Value)} {oc__law_source kV__law_source dc__law_source pm__law_source cd__law_source ct__law_source : Value}
    (a__law_source : PySem.W.nsIn K mainGlobals "_law_source" = some (some (.ref f__law_source))) (l__law_source : K.lookup f__law_source = some ⟨oc__law_source, od__law_source, .func (PySem.W.fnOf "_law_source" "_law_source" (defArgs s__law_source) (defBody s__law_source) (defScope s__law_source) .none kV__law_source dc__law_source pm__law_source an__law_source cd__law_source ct__law_source), sl__law_source⟩) (c__law_source : PySem.W.codeIn K cd__law_source "_law_source" = true) (k__law_source : PySem.W.keepIn K (.ref f__law_source) = true)
    {f__law_draw : Addr} {od__law_draw an__law_draw : Option Addr} {sl__law_draw : Array (Option Value)} {oc__law_draw kV__law_draw dc__law_draw pm__law_draw cd__law_draw ct__law_draw : Value}
    (a__law_draw : PySem.W.nsIn K mainGlobals "_law_draw" = some (some (.ref f__law_draw))) (l__law_draw : K.lookup f__law_draw = some ⟨oc__law_draw, od__law_draw, .func (PySem.W.fnOf "_law_draw" "_law_draw" (defArgs s__law_draw) (defBody s__law_draw) (defScope s__law_draw) .none kV__law_draw dc__law_draw pm__law_draw an__law_draw cd__law_draw ct__law_draw), sl__law_draw⟩) (c__law_draw : PySem.W.codeIn K cd__law_draw "_law_draw" = true) (k__law_draw : PySem.W.keepIn K (.ref f__law_draw) = true)
    {f__law_pick : Addr} {od__law_pick an__law_pick : Option Addr} {sl__law_pick : Array (Option Value)} {oc__law_pick kV__law_pick dc__law_pick pm__law_pick cd__law_pick ct__law_pick : Value}
    (a__law_pick : PySem.W.nsIn K mainGlobals "_law_pick" = some (some (.ref f__law_pick))) (l__law_pick : K.lookup f__law_pick = some ⟨oc__law_pick, od__law_pick, .func (PySem.W.fnOf "_law_pick" "_law_pick" (defArgs s__law_pick) (defBody s__law_pick) (defScope s__law_pick) .none kV__law_pick dc__law_pick pm__law_pick an__law_pick cd__law_pick ct__law_pick), sl__law_pick⟩) (c__law_pick : PySem.W.codeIn K cd__law_pick "_law_pick" = true) (k__law_pick : PySem.W.keepIn K (.ref f__law_pick) = true)
    {f__law_great : Addr} {od__law_great an__law_great : Option Addr} {sl__law_great : Array (Option Value)} {oc__law_great kV__law_great dc__law_great pm__law_great cd__law_great ct__law_great : Value}
    (a__law_great : PySem.W.nsIn K mainGlobals "_law_great" = some (some (.ref f__law_great))) (l__law_great : K.lookup f__law_great = some ⟨oc__law_great, od__law_great, .func (PySem.W.fnOf "_law_great" "_law_great" (defArgs s__law_great) (defBody s__law_great) (defScope s__law_great) .none kV__law_great dc__law_great pm__law_great an__law_great cd__law_great ct__law_great), sl__law_great⟩) (c__law_great : PySem.W.codeIn K cd__law_great "_law_great" = true) (k__law_great : PySem.W.keepIn K (.ref f__law_great) = true)
    {f__law_add : Addr} {od__law_add an__law_add : Option Addr} {sl__law_add : Array (Option Value)} {oc__law_add kV__law_add dc__law_add pm__law_add cd__law_add ct__law_add : Value}
    (a__law_add : PySem.W.nsIn K mainGlobals "_law_add" = some (some (.ref f__law_add))) (l__law_add : K.lookup f__law_add = some ⟨oc__law_add, od__law_add, .func (PySem.W.fnOf "_law_add" "_law_add" (defArgs s__law_add) (defBody s__law_add) (defScope s__law_add) .none kV__law_add dc__law_add pm__law_add an__law_add cd__law_add ct__law_add), sl__law_add⟩) (c__law_add : PySem.W.codeIn K cd__law_add "_law_add" = true) (k__law_add : PySem.W.keepIn K (.ref f__law_add) = true)
    {f__law_term : Addr} {od__law_term an__law_term : Option Addr} {sl__law_term : Array (Option Value)} {oc__law_term kV__law_term dc__law_term pm__law_term cd__law_term ct__law_term : Value}
    (a__law_term : PySem.W.nsIn K mainGlobals "_law_term" = some (some (.ref f__law_term))) (l__law_term : K.lookup f__law_term = some ⟨oc__law_term, od__law_term, .func (PySem.W.fnOf "_law_term" "_law_term" (defArgs s__law_term) (defBody s__law_term) (defScope s__law_term) .none kV__law_term dc__law_term pm__law_term an__law_term cd__law_term ct__law_term), sl__law_term⟩) (c__law_term : PySem.W.codeIn K cd__law_term "_law_term" = true) (k__law_term : PySem.W.keepIn K (.ref f__law_term) = true)
    {f__written : Addr} {od__written an__written : Option Addr} {sl__written : Array (Option Value)} {oc__written kV__written dc__written pm__written cd__written ct__written : Value}
    (a__written : PySem.W.nsIn K mainGlobals "_written" = some (some (.ref f__written))) (l__written : K.lookup f__written = some ⟨oc__written, od__written, .func (PySem.W.fnOf "_written" "_written" (defArgs s__written) (defBody s__written) (defScope s__written) .none kV__written dc__written pm__written an__written cd__written ct__written), sl__written⟩) (c__written : PySem.W.codeIn K cd__written "_written" = true) (k__written : PySem.W.keepIn K (.ref f__written) = true)
    {f__written_price : Addr} {od__written_price an__written_price : Option Addr} {sl__written_price : Array (Option Value)} {oc__written_price kV__written_price dc__written_price pm__written_price cd__written_price ct__written_price : Value}
    (a__written_price : PySem.W.nsIn K mainGlobals "_written_price" = some (some (.ref f__written_price))) (l__written_price : K.lookup f__written_price = some ⟨oc__written_price, od__written_price, .func (PySem.W.fnOf "_written_price" "_written_price" (defArgs s__written_price) (defBody s__written_price) (defScope s__written_price) .none kV__written_price dc__written_price pm__written_price an__written_price cd__written_price ct__written_price), sl__written_price⟩) (c__written_price : PySem.W.codeIn K cd__written_price "_written_price" = true) (k__written_price : PySem.W.keepIn K (.ref f__written_price) = true)
    {f_term_text : Addr} {od_term_text an_term_text : Option Addr} {sl_term_text : Array (Option Value)} {oc_term_text kV_term_text dc_term_text pm_term_text cd_term_text ct_term_text : Value}
    (a_term_text : PySem.W.nsIn K mainGlobals "term_text" = some (some (.ref f_term_text))) (l_term_text : K.lookup f_term_text = some ⟨oc_term_text, od_term_text, .func (PySem.W.fnOf "term_text" "term_text" (defArgs s_term_text) (defBody s_term_text) (defScope s_term_text) .none kV_term_text dc_term_text pm_term_text an_term_text cd_term_text ct_term_text), sl_term_text⟩) (c_term_text : PySem.W.codeIn K cd_term_text "term_text" = true) (k_term_text : PySem.W.keepIn K (.ref f_term_text) = true)
    {f_read_term : Addr} {od_read_term an_read_term : Option Addr} {sl_read_term : Array (Option Value)} {oc_read_term kV_read_term dc_read_term pm_read_term cd_read_term ct_read_term : Value}
    (a_read_term : PySem.W.nsIn K mainGlobals "read_term" = some (some (.ref f_read_term))) (l_read_term : K.lookup f_read_term = some ⟨oc_read_term, od_read_term, .func (PySem.W.fnOf "read_term" "read_term" (defArgs s_read_term) (defBody s_read_term) (defScope s_read_term) .none kV_read_term dc_read_term pm_read_term an_read_term cd_read_term ct_read_term), sl_read_term⟩) (c_read_term : PySem.W.codeIn K cd_read_term "read_term" = true) (k_read_term : PySem.W.keepIn K (.ref f_read_term) = true)
    {f__read_whole : Addr} {od__read_whole an__read_whole : Option Addr} {sl__read_whole : Array (Option Value)} {oc__read_whole kV__read_whole dc__read_whole pm__read_whole cd__read_whole ct__read_whole : Value}
    (a__read_whole : PySem.W.nsIn K mainGlobals "_read_whole" = some (some (.ref f__read_whole))) (l__read_whole : K.lookup f__read_whole = some ⟨oc__read_whole, od__read_whole, .func (PySem.W.fnOf "_read_whole" "_read_whole" (defArgs s__read_whole) (defBody s__read_whole) (defScope s__read_whole) .none kV__read_whole dc__read_whole pm__read_whole an__read_whole cd__read_whole ct__read_whole), sl__read_whole⟩) (c__read_whole : PySem.W.codeIn K cd__read_whole "_read_whole" = true) (k__read_whole : PySem.W.keepIn K (.ref f__read_whole) = true)
    {f__close : Addr} {od__close an__close : Option Addr} {sl__close : Array (Option Value)} {oc__close kV__close dc__close pm__close cd__close ct__close : Value}
    (a__close : PySem.W.nsIn K mainGlobals "_close" = some (some (.ref f__close))) (l__close : K.lookup f__close = some ⟨oc__close, od__close, .func (PySem.W.fnOf "_close" "_close" (defArgs s__close) (defBody s__close) (defScope s__close) .none kV__close dc__close pm__close an__close cd__close ct__close), sl__close⟩) (c__close : PySem.W.codeIn K cd__close "_close" = true) (k__close : PySem.W.keepIn K (.ref f__close) = true)
    {f__read_start : Addr} {od__read_start an__read_start : Option Addr} {sl__read_start : Array (Option Value)} {oc__read_start kV__read_start dc__read_start pm__read_start cd__read_start ct__read_start : Value}
    (a__read_start : PySem.W.nsIn K mainGlobals "_read_start" = some (some (.ref f__read_start))) (l__read_start : K.lookup f__read_start = some ⟨oc__read_start, od__read_start, .func (PySem.W.fnOf "_read_start" "_read_start" (defArgs s__read_start) (defBody s__read_start) (defScope s__read_start) .none kV__read_start dc__read_start pm__read_start an__read_start cd__read_start ct__read_start), sl__read_start⟩) (c__read_start : PySem.W.codeIn K cd__read_start "_read_start" = true) (k__read_start : PySem.W.keepIn K (.ref f__read_start) = true)
    {f__read_plain : Addr} {od__read_plain an__read_plain : Option Addr} {sl__read_plain : Array (Option Value)} {oc__read_plain kV__read_plain dc__read_plain pm__read_plain cd__read_plain ct__read_plain : Value}
    (a__read_plain : PySem.W.nsIn K mainGlobals "_read_plain" = some (some (.ref f__read_plain))) (l__read_plain : K.lookup f__read_plain = some ⟨oc__read_plain, od__read_plain, .func (PySem.W.fnOf "_read_plain" "_read_plain" (defArgs s__read_plain) (defBody s__read_plain) (defScope s__read_plain) .none kV__read_plain dc__read_plain pm__read_plain an__read_plain cd__read_plain ct__read_plain), sl__read_plain⟩) (c__read_plain : PySem.W.codeIn K cd__read_plain "_read_plain" = true) (k__read_plain : PySem.W.keepIn K (.ref f__read_plain) = true)
    {f__read_add : Addr} {od__read_add an__read_add : Option Addr} {sl__read_add : Array (Option Value)} {oc__read_add kV__read_add dc__read_add pm__read_add cd__read_add ct__read_add : Value}
    (a__read_add : PySem.W.nsIn K mainGlobals "_read_add" = some (some (.ref f__read_add))) (l__read_add : K.lookup f__read_add = some ⟨oc__read_add, od__read_add, .func (PySem.W.fnOf "_read_add" "_read_add" (defArgs s__read_add) (defBody s__read_add) (defScope s__read_add) .none kV__read_add dc__read_add pm__read_add an__read_add cd__read_add ct__read_add), sl__read_add⟩) (c__read_add : PySem.W.codeIn K cd__read_add "_read_add" = true) (k__read_add : PySem.W.keepIn K (.ref f__read_add) = true)
    {f__law_is_whole : Addr} {od__law_is_whole an__law_is_whole : Option Addr} {sl__law_is_whole : Array (Option Value)} {oc__law_is_whole kV__law_is_whole dc__law_is_whole pm__law_is_whole cd__law_is_whole ct__law_is_whole : Value}
    (a__law_is_whole : PySem.W.nsIn K mainGlobals "_law_is_whole" = some (some (.ref f__law_is_whole))) (l__law_is_whole : K.lookup f__law_is_whole = some ⟨oc__law_is_whole, od__law_is_whole, .func (PySem.W.fnOf "_law_is_whole" "_law_is_whole" (defArgs s__law_is_whole) (defBody s__law_is_whole) (defScope s__law_is_whole) .none kV__law_is_whole dc__law_is_whole pm__law_is_whole an__law_is_whole cd__law_is_whole ct__law_is_whole), sl__law_is_whole⟩) (c__law_is_whole : PySem.W.codeIn K cd__law_is_whole "_law_is_whole" = true) (k__law_is_whole : PySem.W.keepIn K (.ref f__law_is_whole) = true)
    {f__law_count : Addr} {od__law_count an__law_count : Option Addr} {sl__law_count : Array (Option Value)} {oc__law_count kV__law_count dc__law_count pm__law_count cd__law_count ct__law_count : Value}
    (a__law_count : PySem.W.nsIn K mainGlobals "_law_count" = some (some (.ref f__law_count))) (l__law_count : K.lookup f__law_count = some ⟨oc__law_count, od__law_count, .func (PySem.W.fnOf "_law_count" "_law_count" (defArgs s__law_count) (defBody s__law_count) (defScope s__law_count) .none kV__law_count dc__law_count pm__law_count an__law_count cd__law_count ct__law_count), sl__law_count⟩) (c__law_count : PySem.W.codeIn K cd__law_count "_law_count" = true) (k__law_count : PySem.W.keepIn K (.ref f__law_count) = true)
    {f__law_is_term : Addr} {od__law_is_term an__law_is_term : Option Addr} {sl__law_is_term : Array (Option Value)} {oc__law_is_term kV__law_is_term dc__law_is_term pm__law_is_term cd__law_is_term ct__law_is_term : Value}
    (a__law_is_term : PySem.W.nsIn K mainGlobals "_law_is_term" = some (some (.ref f__law_is_term))) (l__law_is_term : K.lookup f__law_is_term = some ⟨oc__law_is_term, od__law_is_term, .func (PySem.W.fnOf "_law_is_term" "_law_is_term" (defArgs s__law_is_term) (defBody s__law_is_term) (defScope s__law_is_term) .none kV__law_is_term dc__law_is_term pm__law_is_term an__law_is_term cd__law_is_term ct__law_is_term), sl__law_is_term⟩) (c__law_is_term : PySem.W.codeIn K cd__law_is_term "_law_is_term" = true) (k__law_is_term : PySem.W.keepIn K (.ref f__law_is_term) = true)
    {f__law_end : Addr} {od__law_end an__law_end : Option Addr} {sl__law_end : Array (Option Value)} {oc__law_end kV__law_end dc__law_end pm__law_end cd__law_end ct__law_end : Value}
    (a__law_end : PySem.W.nsIn K mainGlobals "_law_end" = some (some (.ref f__law_end))) (l__law_end : K.lookup f__law_end = some ⟨oc__law_end, od__law_end, .func (PySem.W.fnOf "_law_end" "_law_end" (defArgs s__law_end) (defBody s__law_end) (defScope s__law_end) .none kV__law_end dc__law_end pm__law_end an__law_end cd__law_end ct__law_end), sl__law_end⟩) (c__law_end : PySem.W.codeIn K cd__law_end "_law_end" = true) (k__law_end : PySem.W.keepIn K (.ref f__law_end) = true)
    {f__law_number : Addr} {od__law_number an__law_number : Option Addr} {sl__law_number : Array (Option Value)} {oc__law_number kV__law_number dc__law_number pm__law_number cd__law_number ct__law_number : Value}
    (a__law_number : PySem.W.nsIn K mainGlobals "_law_number" = some (some (.ref f__law_number))) (l__law_number : K.lookup f__law_number = some ⟨oc__law_number, od__law_number, .func (PySem.W.fnOf "_law_number" "_law_number" (defArgs s__law_number) (defBody s__law_number) (defScope s__law_number) .none kV__law_number dc__law_number pm__law_number an__law_number cd__law_number ct__law_number), sl__law_number⟩) (c__law_number : PySem.W.codeIn K cd__law_number "_law_number" = true) (k__law_number : PySem.W.keepIn K (.ref f__law_number) = true)
    {f__law_price : Addr} {od__law_price an__law_price : Option Addr} {sl__law_price : Array (Option Value)} {oc__law_price kV__law_price dc__law_price pm__law_price cd__law_price ct__law_price : Value}
    (a__law_price : PySem.W.nsIn K mainGlobals "_law_price" = some (some (.ref f__law_price))) (l__law_price : K.lookup f__law_price = some ⟨oc__law_price, od__law_price, .func (PySem.W.fnOf "_law_price" "_law_price" (defArgs s__law_price) (defBody s__law_price) (defScope s__law_price) .none kV__law_price dc__law_price pm__law_price an__law_price cd__law_price ct__law_price), sl__law_price⟩) (c__law_price : PySem.W.codeIn K cd__law_price "_law_price" = true) (k__law_price : PySem.W.keepIn K (.ref f__law_price) = true)
    {f__law_open : Addr} {od__law_open an__law_open : Option Addr} {sl__law_open : Array (Option Value)} {oc__law_open kV__law_open dc__law_open pm__law_open cd__law_open ct__law_open : Value}
    (a__law_open : PySem.W.nsIn K mainGlobals "_law_open" = some (some (.ref f__law_open))) (l__law_open : K.lookup f__law_open = some ⟨oc__law_open, od__law_open, .func (PySem.W.fnOf "_law_open" "_law_open" (defArgs s__law_open) (defBody s__law_open) (defScope s__law_open) .none kV__law_open dc__law_open pm__law_open an__law_open cd__law_open ct__law_open), sl__law_open⟩) (c__law_open : PySem.W.codeIn K cd__law_open "_law_open" = true) (k__law_open : PySem.W.keepIn K (.ref f__law_open) = true)
    {f__law_begun : Addr} {od__law_begun an__law_begun : Option Addr} {sl__law_begun : Array (Option Value)} {oc__law_begun kV__law_begun dc__law_begun pm__law_begun cd__law_begun ct__law_begun : Value}
    (a__law_begun : PySem.W.nsIn K mainGlobals "_law_begun" = some (some (.ref f__law_begun))) (l__law_begun : K.lookup f__law_begun = some ⟨oc__law_begun, od__law_begun, .func (PySem.W.fnOf "_law_begun" "_law_begun" (defArgs s__law_begun) (defBody s__law_begun) (defScope s__law_begun) .none kV__law_begun dc__law_begun pm__law_begun an__law_begun cd__law_begun ct__law_begun), sl__law_begun⟩) (c__law_begun : PySem.W.codeIn K cd__law_begun "_law_begun" = true) (k__law_begun : PySem.W.keepIn K (.ref f__law_begun) = true)
    {f__law_due : Addr} {od__law_due an__law_due : Option Addr} {sl__law_due : Array (Option Value)} {oc__law_due kV__law_due dc__law_due pm__law_due cd__law_due ct__law_due : Value}
    (a__law_due : PySem.W.nsIn K mainGlobals "_law_due" = some (some (.ref f__law_due))) (l__law_due : K.lookup f__law_due = some ⟨oc__law_due, od__law_due, .func (PySem.W.fnOf "_law_due" "_law_due" (defArgs s__law_due) (defBody s__law_due) (defScope s__law_due) .none kV__law_due dc__law_due pm__law_due an__law_due cd__law_due ct__law_due), sl__law_due⟩) (c__law_due : PySem.W.codeIn K cd__law_due "_law_due" = true) (k__law_due : PySem.W.keepIn K (.ref f__law_due) = true)
    {f__law_read : Addr} {od__law_read an__law_read : Option Addr} {sl__law_read : Array (Option Value)} {oc__law_read kV__law_read dc__law_read pm__law_read cd__law_read ct__law_read : Value}
    (a__law_read : PySem.W.nsIn K mainGlobals "_law_read" = some (some (.ref f__law_read))) (l__law_read : K.lookup f__law_read = some ⟨oc__law_read, od__law_read, .func (PySem.W.fnOf "_law_read" "_law_read" (defArgs s__law_read) (defBody s__law_read) (defScope s__law_read) .none kV__law_read dc__law_read pm__law_read an__law_read cd__law_read ct__law_read), sl__law_read⟩) (c__law_read : PySem.W.codeIn K cd__law_read "_law_read" = true) (k__law_read : PySem.W.keepIn K (.ref f__law_read) = true)
    {f__law_fits : Addr} {od__law_fits an__law_fits : Option Addr} {sl__law_fits : Array (Option Value)} {oc__law_fits kV__law_fits dc__law_fits pm__law_fits cd__law_fits ct__law_fits : Value}
    (a__law_fits : PySem.W.nsIn K mainGlobals "_law_fits" = some (some (.ref f__law_fits))) (l__law_fits : K.lookup f__law_fits = some ⟨oc__law_fits, od__law_fits, .func (PySem.W.fnOf "_law_fits" "_law_fits" (defArgs s__law_fits) (defBody s__law_fits) (defScope s__law_fits) .none kV__law_fits dc__law_fits pm__law_fits an__law_fits cd__law_fits ct__law_fits), sl__law_fits⟩) (c__law_fits : PySem.W.codeIn K cd__law_fits "_law_fits" = true) (k__law_fits : PySem.W.keepIn K (.ref f__law_fits) = true)
    {f__law_bent : Addr} {od__law_bent an__law_bent : Option Addr} {sl__law_bent : Array (Option Value)} {oc__law_bent kV__law_bent dc__law_bent pm__law_bent cd__law_bent ct__law_bent : Value}
    (a__law_bent : PySem.W.nsIn K mainGlobals "_law_bent" = some (some (.ref f__law_bent))) (l__law_bent : K.lookup f__law_bent = some ⟨oc__law_bent, od__law_bent, .func (PySem.W.fnOf "_law_bent" "_law_bent" (defArgs s__law_bent) (defBody s__law_bent) (defScope s__law_bent) .none kV__law_bent dc__law_bent pm__law_bent an__law_bent cd__law_bent ct__law_bent), sl__law_bent⟩) (c__law_bent : PySem.W.codeIn K cd__law_bent "_law_bent" = true) (k__law_bent : PySem.W.keepIn K (.ref f__law_bent) = true)
    {f_law : Addr} {od_law an_law : Option Addr} {sl_law : Array (Option Value)} {oc_law kV_law dc_law pm_law cd_law ct_law : Value}
    (a_law : PySem.W.nsIn K mainGlobals "law" = some (some (.ref f_law))) (l_law : K.lookup f_law = some ⟨oc_law, od_law, .func (PySem.W.fnOf "law" "law" (defArgs s_law) (defBody s_law) (defScope s_law) .none kV_law dc_law pm_law an_law cd_law ct_law), sl_law⟩) (c_law : PySem.W.codeIn K cd_law "law" = true) (k_law : PySem.W.keepIn K (.ref f_law) = true)
    {C_InvalidTerm : Addr} (g_InvalidTerm : PySem.W.nsIn K mainGlobals "InvalidTerm" = some (some (.ref C_InvalidTerm))) (kC_InvalidTerm : PySem.W.keepIn K (.ref C_InvalidTerm) = true) (q_InvalidTerm : PySem.W.excIn K C_InvalidTerm [.type "ValueError", .type "Exception", .type "BaseException", .type "object"] "ValueError.__new__" = true) (ex_InvalidTerm : PySem.W.subIn K (.ref C_InvalidTerm) (.type "BaseException") = some true) (ty_InvalidTerm : PySem.W.typeIn K (.ref C_InvalidTerm) = some (.type "type"))
    {C_InvalidText : Addr} (g_InvalidText : PySem.W.nsIn K mainGlobals "InvalidText" = some (some (.ref C_InvalidText))) (cls_InvalidText : ∃ nm q N bs bm sn sub ab col dd k0 k1 k2 k3 k5, K.lookup C_InvalidText = some (excClassObj nm q C_InvalidText N bs bm true sn sub ab col dd k0 k1 k2 k3 k5 "ValueError.__new__") ∧ PySem.HandSPX.refsVE bm = true)
    (sa_InvalidText : PySem.W.findIn K (.ref C_InvalidText) "__setattr__" = some (some (.builtin "object.__setattr__"))) (ex_InvalidText : PySem.W.subIn K (.ref C_InvalidText) (.type "BaseException") = some true) (ty_InvalidText : PySem.W.typeIn K (.ref C_InvalidText) = some (.type "type")) (kC_InvalidText : PySem.W.keepIn K (.ref C_InvalidText) = true)
    {f_InvalidText : Addr} {od_InvalidText an_InvalidText : Option Addr} {sl_InvalidText : Array (Option Value)} {oc_InvalidText kV_InvalidText dc_InvalidText pm_InvalidText cd_InvalidText ct_InvalidText : Value}
    (l_InvalidText : K.lookup f_InvalidText = some ⟨oc_InvalidText, od_InvalidText, .func (PySem.W.fnOf "__init__" "InvalidText.__init__" (defArgs s_InvalidText_init) (defBody s_InvalidText_init) (defScope s_InvalidText_init) .none kV_InvalidText dc_InvalidText pm_InvalidText an_InvalidText cd_InvalidText ct_InvalidText), sl_InvalidText⟩) (c_InvalidText : PySem.W.codeIn K cd_InvalidText "InvalidText.__init__" = true) (k_InvalidText : PySem.W.keepIn K (.ref f_InvalidText) = true)
    (iC_InvalidText : PySem.W.findIn K (.ref C_InvalidText) "__init__" = some (some (.ref f_InvalidText))) (tI_InvalidText : PySem.W.typeIn K (.ref f_InvalidText) = some (.type "function"))
    {C_R : Addr} (g_R : PySem.W.nsIn K mainGlobals "Reader" = some (some (.ref C_R))) (pg_R : PySem.W.plainGet K C_R PySem.Str.empty = true) (hd_R : PySem.W.hasDictIn K C_R = true) (po_R : PySem.W.plainOver K C_R = true) (sa_R : PySem.W.findIn K (.ref C_R) "__setattr__" = some (some (.builtin "object.__setattr__")))
    (nT_R : PySem.W.findIn K (.ref C_R) "text" = some none) (nA_R : PySem.W.findIn K (.ref C_R) "at" = some none) (mk_R : PySem.W.makesIn K C_R = true) (kC_R : PySem.W.keepIn K (.ref C_R) = true)
    {f_R_init : Addr} {od_R_init an_R_init : Option Addr} {sl_R_init : Array (Option Value)} {oc_R_init kV_R_init dc_R_init pm_R_init cd_R_init ct_R_init : Value}
    (l_R_init : K.lookup f_R_init = some ⟨oc_R_init, od_R_init, .func (PySem.W.fnOf "__init__" "Reader.__init__" (defArgs s_Reader_init) (defBody s_Reader_init) (defScope s_Reader_init) .none kV_R_init dc_R_init pm_R_init an_R_init cd_R_init ct_R_init), sl_R_init⟩) (c_R_init : PySem.W.codeIn K cd_R_init "Reader.__init__" = true) (k_R_init : PySem.W.keepIn K (.ref f_R_init) = true)
    (at_R_init : PySem.W.findIn K (.ref C_R) "__init__" = some (some (.ref f_R_init))) (fn_R_init : PySem.W.isFn K (.ref f_R_init) = true)
    {f_R_peek : Addr} {od_R_peek an_R_peek : Option Addr} {sl_R_peek : Array (Option Value)} {oc_R_peek kV_R_peek dc_R_peek pm_R_peek cd_R_peek ct_R_peek : Value}
    (l_R_peek : K.lookup f_R_peek = some ⟨oc_R_peek, od_R_peek, .func (PySem.W.fnOf "peek" "Reader.peek" (defArgs s_Reader_peek) (defBody s_Reader_peek) (defScope s_Reader_peek) .none kV_R_peek dc_R_peek pm_R_peek an_R_peek cd_R_peek ct_R_peek), sl_R_peek⟩) (c_R_peek : PySem.W.codeIn K cd_R_peek "Reader.peek" = true) (k_R_peek : PySem.W.keepIn K (.ref f_R_peek) = true)
    (at_R_peek : PySem.W.findIn K (.ref C_R) "peek" = some (some (.ref f_R_peek))) (fn_R_peek : PySem.W.isFn K (.ref f_R_peek) = true)
    {f_R_sign : Addr} {od_R_sign an_R_sign : Option Addr} {sl_R_sign : Array (Option Value)} {oc_R_sign kV_R_sign dc_R_sign pm_R_sign cd_R_sign ct_R_sign : Value}
    (l_R_sign : K.lookup f_R_sign = some ⟨oc_R_sign, od_R_sign, .func (PySem.W.fnOf "sign" "Reader.sign" (defArgs s_Reader_sign) (defBody s_Reader_sign) (defScope s_Reader_sign) .none kV_R_sign dc_R_sign pm_R_sign an_R_sign cd_R_sign ct_R_sign), sl_R_sign⟩) (c_R_sign : PySem.W.codeIn K cd_R_sign "Reader.sign" = true) (k_R_sign : PySem.W.keepIn K (.ref f_R_sign) = true)
    (at_R_sign : PySem.W.findIn K (.ref C_R) "sign" = some (some (.ref f_R_sign))) (fn_R_sign : PySem.W.isFn K (.ref f_R_sign) = true)
    {f_R_word : Addr} {od_R_word an_R_word : Option Addr} {sl_R_word : Array (Option Value)} {oc_R_word kV_R_word dc_R_word pm_R_word cd_R_word ct_R_word : Value}
    (l_R_word : K.lookup f_R_word = some ⟨oc_R_word, od_R_word, .func (PySem.W.fnOf "word" "Reader.word" (defArgs s_Reader_word) (defBody s_Reader_word) (defScope s_Reader_word) .none kV_R_word dc_R_word pm_R_word an_R_word cd_R_word ct_R_word), sl_R_word⟩) (c_R_word : PySem.W.codeIn K cd_R_word "Reader.word" = true) (k_R_word : PySem.W.keepIn K (.ref f_R_word) = true)
    (at_R_word : PySem.W.findIn K (.ref C_R) "word" = some (some (.ref f_R_word))) (fn_R_word : PySem.W.isFn K (.ref f_R_word) = true)
    {f_R_number : Addr} {od_R_number an_R_number : Option Addr} {sl_R_number : Array (Option Value)} {oc_R_number kV_R_number dc_R_number pm_R_number cd_R_number ct_R_number : Value}
    (l_R_number : K.lookup f_R_number = some ⟨oc_R_number, od_R_number, .func (PySem.W.fnOf "number" "Reader.number" (defArgs s_Reader_number) (defBody s_Reader_number) (defScope s_Reader_number) .none kV_R_number dc_R_number pm_R_number an_R_number cd_R_number ct_R_number), sl_R_number⟩) (c_R_number : PySem.W.codeIn K cd_R_number "Reader.number" = true) (k_R_number : PySem.W.keepIn K (.ref f_R_number) = true)
    (at_R_number : PySem.W.findIn K (.ref C_R) "number" = some (some (.ref f_R_number))) (fn_R_number : PySem.W.isFn K (.ref f_R_number) = true)
    {f_R_run : Addr} {od_R_run an_R_run : Option Addr} {sl_R_run : Array (Option Value)} {oc_R_run kV_R_run dc_R_run pm_R_run cd_R_run ct_R_run : Value}
    (l_R_run : K.lookup f_R_run = some ⟨oc_R_run, od_R_run, .func (PySem.W.fnOf "run" "Reader.run" (defArgs s_Reader_run) (defBody s_Reader_run) (defScope s_Reader_run) .none kV_R_run dc_R_run pm_R_run an_R_run cd_R_run ct_R_run), sl_R_run⟩) (c_R_run : PySem.W.codeIn K cd_R_run "Reader.run" = true) (k_R_run : PySem.W.keepIn K (.ref f_R_run) = true)
    (at_R_run : PySem.W.findIn K (.ref C_R) "run" = some (some (.ref f_R_run))) (fn_R_run : PySem.W.isFn K (.ref f_R_run) = true)
    {t__GREATEST_NUMBER : Nat} (g__GREATEST_NUMBER : PySem.W.nsIn K mainGlobals "_GREATEST_NUMBER" = some (some (.int v__GREATEST_NUMBER t__GREATEST_NUMBER)))
    {t_MOST_SHOPS : Nat} (g_MOST_SHOPS : PySem.W.nsIn K mainGlobals "MOST_SHOPS" = some (some (.int v_MOST_SHOPS t_MOST_SHOPS)))
    {t__MOST_PARTS : Nat} (g__MOST_PARTS : PySem.W.nsIn K mainGlobals "_MOST_PARTS" = some (some (.int v__MOST_PARTS t__MOST_PARTS)))
    {t__MOST_TERMS : Nat} (g__MOST_TERMS : PySem.W.nsIn K mainGlobals "_MOST_TERMS" = some (some (.int v__MOST_TERMS t__MOST_TERMS)))
    {t__MOST_LEVELS : Nat} (g__MOST_LEVELS : PySem.W.nsIn K mainGlobals "_MOST_LEVELS" = some (some (.int v__MOST_LEVELS t__MOST_LEVELS)))
    {t__MOST_DIGITS : Nat} (g__MOST_DIGITS : PySem.W.nsIn K mainGlobals "_MOST_DIGITS" = some (some (.int 31 t__MOST_DIGITS)))
    {t_SHOPS : Nat} (g_SHOPS : PySem.W.nsIn K mainGlobals "SHOPS" = some (some (.str "abcdef" t_SHOPS)))
    {t__LETTERS : Nat} (g__LETTERS : PySem.W.nsIn K mainGlobals "_LETTERS" = some (some (.str "abcdefghijklmnopqrstuvwxyz" t__LETTERS)))
    {t_DIGITS : Nat} (g_DIGITS : PySem.W.nsIn K mainGlobals "DIGITS" = some (some (.str "0123456789" t_DIGITS)))
    (z_len : PySem.W.nsIn K mainGlobals "len" = some none)
    (z_isinstance : PySem.W.nsIn K mainGlobals "isinstance" = some none)
    (z_abs : PySem.W.nsIn K mainGlobals "abs" = some none)
    (z_range : PySem.W.nsIn K mainGlobals "range" = some none)
    (z_int : PySem.W.nsIn K mainGlobals "int" = some none)
    (z_bool : PySem.W.nsIn K mainGlobals "bool" = some none)
    (z_tuple : PySem.W.nsIn K mainGlobals "tuple" = some none)
    (z_list : PySem.W.nsIn K mainGlobals "list" = some none)
    (z_sum : PySem.W.nsIn K mainGlobals "sum" = some none)
    (z_str : PySem.W.nsIn K mainGlobals "str" = some none)
    (nof1 : PySem.W.findIn K (.ref C_InvalidText) "at" = some none)
    {C_SpinError : Addr} (g_SpinError : PySem.W.nsIn K mainGlobals "SpinError" = some (some (.ref C_SpinError)))
    (z_ValueError : PySem.W.nsIn K mainGlobals "ValueError" = some none)
    (kt : kitTab K [C_InvalidTerm, C_InvalidText] C_SpinError = true) :
    ∃ fd : FuncData, (∀ (s : Shared) (v : Value), BindsTo s fd ⟨[v], []⟩ [("script", v)]) ∧ ∀ base : Heap, K.In base → base.Ns mainGlobals mg → FnOk l.prog w K mg base CX0 14 fa fd ["script"] (spLaw K) := by
  have e := hfa.symm.trans (PySem.W.mg_of X G a_law)
  cases e
  let T : Top K mg := {
    is_int := { f := _, fd := _, F := fun_mk l_is_int c_is_int k_is_int, g := PySem.W.mg_of X G a_is_int, b := (fun_mk l_is_int c_is_int k_is_int).binds (ps := ["value"]) fun _ _ _ _ _ _ us hl => match us, hl with | [_], _ => rfl },
    is_int_from := { f := _, fd := _, F := fun_mk l_is_int_from c_is_int_from k_is_int_from, g := PySem.W.mg_of X G a_is_int_from, b := (fun_mk l_is_int_from c_is_int_from k_is_int_from).binds (ps := ["value", "least", "greatest"]) fun _ _ _ _ _ _ us hl => match us, hl with | [_, _, _], _ => rfl },
    is_number := { f := _, fd := _, F := fun_mk l_is_number c_is_number k_is_number, g := PySem.W.mg_of X G a_is_number, b := (fun_mk l_is_number c_is_number k_is_number).binds (ps := ["value"]) fun _ _ _ _ _ _ us hl => match us, hl with | [_], _ => rfl },
    is_leaf := { f := _, fd := _, F := fun_mk l_is_leaf c_is_leaf k_is_leaf, g := PySem.W.mg_of X G a_is_leaf, b := (fun_mk l_is_leaf c_is_leaf k_is_leaf).binds (ps := ["term"]) fun _ _ _ _ _ _ us hl => match us, hl with | [_], _ => rfl },
    parts_of := { f := _, fd := _, F := fun_mk l_parts_of c_parts_of k_parts_of, g := PySem.W.mg_of X G a_parts_of, b := (fun_mk l_parts_of c_parts_of k_parts_of).binds (ps := ["term"]) fun _ _ _ _ _ _ us hl => match us, hl with | [_], _ => rfl },
    is_term := { f := _, fd := _, F := fun_mk l_is_term c_is_term k_is_term, g := PySem.W.mg_of X G a_is_term, b := (fun_mk l_is_term c_is_term k_is_term).binds (ps := ["value"]) fun _ _ _ _ _ _ us hl => match us, hl with | [_], _ => rfl },
    check_term := { f := _, fd := _, F := fun_mk l_check_term c_check_term k_check_term, g := PySem.W.mg_of X G a_check_term, b := (fun_mk l_check_term c_check_term k_check_term).binds (ps := ["term"]) fun _ _ _ _ _ _ us hl => match us, hl with | [_], _ => rfl },
    _has_form := { f := _, fd := _, F := fun_mk l__has_form c__has_form k__has_form, g := PySem.W.mg_of X G a__has_form, b := (fun_mk l__has_form c__has_form k__has_form).binds (ps := ["term"]) fun _ _ _ _ _ _ us hl => match us, hl with | [_], _ => rfl },
    _are_parts := { f := _, fd := _, F := fun_mk l__are_parts c__are_parts k__are_parts, g := PySem.W.mg_of X G a__are_parts, b := (fun_mk l__are_parts c__are_parts k__are_parts).binds (ps := ["value"]) fun _ _ _ _ _ _ us hl => match us, hl with | [_], _ => rfl },
    _law_source := { f := _, fd := _, F := fun_mk l__law_source c__law_source k__law_source, g := PySem.W.mg_of X G a__law_source, b := (fun_mk l__law_source c__law_source k__law_source).binds (ps := ["script"]) fun _ _ _ _ _ _ us hl => match us, hl with | [_], _ => rfl },
    _law_draw := { f := _, fd := _, F := fun_mk l__law_draw c__law_draw k__law_draw, g := PySem.W.mg_of X G a__law_draw, b := (fun_mk l__law_draw c__law_draw k__law_draw).binds (ps := ["source", "limit"]) fun _ _ _ _ _ _ us hl => match us, hl with | [_, _], _ => rfl },
    _law_pick := { f := _, fd := _, F := fun_mk l__law_pick c__law_pick k__law_pick, g := PySem.W.mg_of X G a__law_pick, b := (fun_mk l__law_pick c__law_pick k__law_pick).binds (ps := ["source", "values"]) fun _ _ _ _ _ _ us hl => match us, hl with | [_, _], _ => rfl },
    _law_great := { f := _, fd := _, F := fun_mk l__law_great c__law_great k__law_great, g := PySem.W.mg_of X G a__law_great, b := (fun_mk l__law_great c__law_great k__law_great).binds (ps := ["source", "digits"]) fun _ _ _ _ _ _ us hl => match us, hl with | [_, _], _ => rfl },
    _law_add := { f := _, fd := _, F := fun_mk l__law_add c__law_add k__law_add, g := PySem.W.mg_of X G a__law_add, b := (fun_mk l__law_add c__law_add k__law_add).binds (ps := ["source", "most"]) fun _ _ _ _ _ _ us hl => match us, hl with | [_, _], _ => rfl },
    _law_term := { f := _, fd := _, F := fun_mk l__law_term c__law_term k__law_term, g := PySem.W.mg_of X G a__law_term, b := (fun_mk l__law_term c__law_term k__law_term).binds (ps := ["source", "shops", "most", "levels"]) fun _ _ _ _ _ _ us hl => match us, hl with | [_, _, _, _], _ => rfl },
    _written := { f := _, fd := _, F := fun_mk l__written c__written k__written, g := PySem.W.mg_of X G a__written, b := (fun_mk l__written c__written k__written).binds (ps := ["term"]) fun _ _ _ _ _ _ us hl => match us, hl with | [_], _ => rfl },
    _written_price := { f := _, fd := _, F := fun_mk l__written_price c__written_price k__written_price, g := PySem.W.mg_of X G a__written_price, b := (fun_mk l__written_price c__written_price k__written_price).binds (ps := ["shop", "add"]) fun _ _ _ _ _ _ us hl => match us, hl with | [_, _], _ => rfl },
    term_text := { f := _, fd := _, F := fun_mk l_term_text c_term_text k_term_text, g := PySem.W.mg_of X G a_term_text, b := (fun_mk l_term_text c_term_text k_term_text).binds (ps := ["term"]) fun _ _ _ _ _ _ us hl => match us, hl with | [_], _ => rfl },
    read_term := { f := _, fd := _, F := fun_mk l_read_term c_read_term k_read_term, g := PySem.W.mg_of X G a_read_term, b := (fun_mk l_read_term c_read_term k_read_term).binds (ps := ["text"]) fun _ _ _ _ _ _ us hl => match us, hl with | [_], _ => rfl },
    _read_whole := { f := _, fd := _, F := fun_mk l__read_whole c__read_whole k__read_whole, g := PySem.W.mg_of X G a__read_whole, b := (fun_mk l__read_whole c__read_whole k__read_whole).binds (ps := ["reader"]) fun _ _ _ _ _ _ us hl => match us, hl with | [_], _ => rfl },
    _close := { f := _, fd := _, F := fun_mk l__close c__close k__close, g := PySem.W.mg_of X G a__close, b := (fun_mk l__close c__close k__close).binds (ps := ["reader", "unclosed", "term"]) fun _ _ _ _ _ _ us hl => match us, hl with | [_, _, _], _ => rfl },
    _read_start := { f := _, fd := _, F := fun_mk l__read_start c__read_start k__read_start, g := PySem.W.mg_of X G a__read_start, b := (fun_mk l__read_start c__read_start k__read_start).binds (ps := ["reader"]) fun _ _ _ _ _ _ us hl => match us, hl with | [_], _ => rfl },
    _read_plain := { f := _, fd := _, F := fun_mk l__read_plain c__read_plain k__read_plain, g := PySem.W.mg_of X G a__read_plain, b := (fun_mk l__read_plain c__read_plain k__read_plain).binds (ps := ["reader"]) fun _ _ _ _ _ _ us hl => match us, hl with | [_], _ => rfl },
    _read_add := { f := _, fd := _, F := fun_mk l__read_add c__read_add k__read_add, g := PySem.W.mg_of X G a__read_add, b := (fun_mk l__read_add c__read_add k__read_add).binds (ps := ["reader"]) fun _ _ _ _ _ _ us hl => match us, hl with | [_], _ => rfl },
    _law_is_whole := { f := _, fd := _, F := fun_mk l__law_is_whole c__law_is_whole k__law_is_whole, g := PySem.W.mg_of X G a__law_is_whole, b := (fun_mk l__law_is_whole c__law_is_whole k__law_is_whole).binds (ps := ["value", "low", "high"]) fun _ _ _ _ _ _ us hl => match us, hl with | [_, _, _], _ => rfl },
    _law_count := { f := _, fd := _, F := fun_mk l__law_count c__law_count k__law_count, g := PySem.W.mg_of X G a__law_count, b := (fun_mk l__law_count c__law_count k__law_count).binds (ps := ["value", "levels"]) fun _ _ _ _ _ _ us hl => match us, hl with | [_, _], _ => rfl },
    _law_is_term := { f := _, fd := _, F := fun_mk l__law_is_term c__law_is_term k__law_is_term, g := PySem.W.mg_of X G a__law_is_term, b := (fun_mk l__law_is_term c__law_is_term k__law_is_term).binds (ps := ["value"]) fun _ _ _ _ _ _ us hl => match us, hl with | [_], _ => rfl },
    _law_end := { f := _, fd := _, F := fun_mk l__law_end c__law_end k__law_end, g := PySem.W.mg_of X G a__law_end, b := (fun_mk l__law_end c__law_end k__law_end).binds (ps := ["text", "at", "letters"]) fun _ _ _ _ _ _ us hl => match us, hl with | [_, _, _], _ => rfl },
    _law_number := { f := _, fd := _, F := fun_mk l__law_number c__law_number k__law_number, g := PySem.W.mg_of X G a__law_number, b := (fun_mk l__law_number c__law_number k__law_number).binds (ps := ["text", "at"]) fun _ _ _ _ _ _ us hl => match us, hl with | [_, _], _ => rfl },
    _law_price := { f := _, fd := _, F := fun_mk l__law_price c__law_price k__law_price, g := PySem.W.mg_of X G a__law_price, b := (fun_mk l__law_price c__law_price k__law_price).binds (ps := ["text", "at", "shop"]) fun _ _ _ _ _ _ us hl => match us, hl with | [_, _, _], _ => rfl },
    _law_open := { f := _, fd := _, F := fun_mk l__law_open c__law_open k__law_open, g := PySem.W.mg_of X G a__law_open, b := (fun_mk l__law_open c__law_open k__law_open).binds (ps := ["text", "at", "word"]) fun _ _ _ _ _ _ us hl => match us, hl with | [_, _, _], _ => rfl },
    _law_begun := { f := _, fd := _, F := fun_mk l__law_begun c__law_begun k__law_begun, g := PySem.W.mg_of X G a__law_begun, b := (fun_mk l__law_begun c__law_begun k__law_begun).binds (ps := ["text", "at"]) fun _ _ _ _ _ _ us hl => match us, hl with | [_, _], _ => rfl },
    _law_due := { f := _, fd := _, F := fun_mk l__law_due c__law_due k__law_due, g := PySem.W.mg_of X G a__law_due, b := (fun_mk l__law_due c__law_due k__law_due).binds (ps := ["text"]) fun _ _ _ _ _ _ us hl => match us, hl with | [_], _ => rfl },
    _law_read := { f := _, fd := _, F := fun_mk l__law_read c__law_read k__law_read, g := PySem.W.mg_of X G a__law_read, b := (fun_mk l__law_read c__law_read k__law_read).binds (ps := ["text"]) fun _ _ _ _ _ _ us hl => match us, hl with | [_], _ => rfl },
    _law_fits := { f := _, fd := _, F := fun_mk l__law_fits c__law_fits k__law_fits, g := PySem.W.mg_of X G a__law_fits, b := (fun_mk l__law_fits c__law_fits k__law_fits).binds (ps := ["text"]) fun _ _ _ _ _ _ us hl => match us, hl with | [_], _ => rfl },
    _law_bent := { f := _, fd := _, F := fun_mk l__law_bent c__law_bent k__law_bent, g := PySem.W.mg_of X G a__law_bent, b := (fun_mk l__law_bent c__law_bent k__law_bent).binds (ps := ["source", "text"]) fun _ _ _ _ _ _ us hl => match us, hl with | [_, _], _ => rfl },
    law := { f := _, fd := _, F := fun_mk l_law c_law k_law, g := PySem.W.mg_of X G a_law, b := (fun_mk l_law c_law k_law).binds (ps := ["script"]) fun _ _ _ _ _ _ us hl => match us, hl with | [_], _ => rfl },
    InvalidTerm := { C := C_InvalidTerm, g := PySem.W.mg_of X G g_InvalidTerm, k := kC_InvalidTerm, q := q_InvalidTerm, ex := ex_InvalidTerm, ty := ty_InvalidTerm },
    o_InvalidText := { C := C_InvalidText, g := PySem.W.mg_of X G g_InvalidText, T := ⟨cls_InvalidText, sa_InvalidText, ex_InvalidText, ty_InvalidText, kC_InvalidText⟩, fI := f_InvalidText, iC := iC_InvalidText, tI := tI_InvalidText, fd := _, F := fun_mk l_InvalidText c_InvalidText k_InvalidText, b := (fun_mk l_InvalidText c_InvalidText k_InvalidText).binds (ps := ["self", "at"]) fun _ _ _ _ _ _ us hl => match us, hl with | [_, _], _ => rfl },
    R := { C := C_R, g := PySem.W.mg_of X G g_R, cl := ⟨pg_R, hd_R, po_R, sa_R⟩, nT := nT_R, nA := nA_R },
    R_init := { f := f_R_init, fd := _, F := fun_mk l_R_init c_R_init k_R_init, m := ⟨at_R_init, fn_R_init, k_R_init⟩, b := (fun_mk l_R_init c_R_init k_R_init).binds (ps := ["self", "text"]) fun _ _ _ _ _ _ us hl => match us, hl with | [_, _], _ => rfl },
    R_peek := { f := f_R_peek, fd := _, F := fun_mk l_R_peek c_R_peek k_R_peek, m := ⟨at_R_peek, fn_R_peek, k_R_peek⟩, b := (fun_mk l_R_peek c_R_peek k_R_peek).binds (ps := ["self"]) fun _ _ _ _ _ _ us hl => match us, hl with | [_], _ => rfl },
    R_sign := { f := f_R_sign, fd := _, F := fun_mk l_R_sign c_R_sign k_R_sign, m := ⟨at_R_sign, fn_R_sign, k_R_sign⟩, b := (fun_mk l_R_sign c_R_sign k_R_sign).binds (ps := ["self", "allowed"]) fun _ _ _ _ _ _ us hl => match us, hl with | [_, _], _ => rfl },
    R_word := { f := f_R_word, fd := _, F := fun_mk l_R_word c_R_word k_R_word, m := ⟨at_R_word, fn_R_word, k_R_word⟩, b := (fun_mk l_R_word c_R_word k_R_word).binds (ps := ["self"]) fun _ _ _ _ _ _ us hl => match us, hl with | [_], _ => rfl },
    R_number := { f := f_R_number, fd := _, F := fun_mk l_R_number c_R_number k_R_number, m := ⟨at_R_number, fn_R_number, k_R_number⟩, b := (fun_mk l_R_number c_R_number k_R_number).binds (ps := ["self"]) fun _ _ _ _ _ _ us hl => match us, hl with | [_], _ => rfl },
    R_run := { f := f_R_run, fd := _, F := fun_mk l_R_run c_R_run k_R_run, m := ⟨at_R_run, fn_R_run, k_R_run⟩, b := (fun_mk l_R_run c_R_run k_R_run).binds (ps := ["self", "allowed"]) fun _ _ _ _ _ _ us hl => match us, hl with | [_, _], _ => rfl },
    R_mk := ⟨mk_R, at_R_init, fn_R_init, kC_R⟩,
    g__GREATEST_NUMBER := ⟨_, PySem.W.mg_of X G g__GREATEST_NUMBER⟩,
    g_MOST_SHOPS := ⟨_, PySem.W.mg_of X G g_MOST_SHOPS⟩,
    g__MOST_PARTS := ⟨_, PySem.W.mg_of X G g__MOST_PARTS⟩,
    g__MOST_TERMS := ⟨_, PySem.W.mg_of X G g__MOST_TERMS⟩,
    g__MOST_LEVELS := ⟨_, PySem.W.mg_of X G g__MOST_LEVELS⟩,
    g__MOST_DIGITS := ⟨_, PySem.W.mg_of X G g__MOST_DIGITS⟩,
    g_SHOPS := ⟨_, PySem.W.mg_of X G g_SHOPS⟩,
    g__LETTERS := ⟨_, PySem.W.mg_of X G g__LETTERS⟩,
    g_DIGITS := ⟨_, PySem.W.mg_of X G g_DIGITS⟩,
    n_len := PySem.W.mg_none_of X G z_len,
    n_isinstance := PySem.W.mg_none_of X G z_isinstance,
    n_abs := PySem.W.mg_none_of X G z_abs,
    n_range := PySem.W.mg_none_of X G z_range,
    n_int := PySem.W.mg_none_of X G z_int,
    n_bool := PySem.W.mg_none_of X G z_bool,
    n_tuple := PySem.W.mg_none_of X G z_tuple,
    n_list := PySem.W.mg_none_of X G z_list,
    n_sum := PySem.W.mg_none_of X G z_sum,
    n_str := PySem.W.mg_none_of X G z_str,
    nof1 := nof1 }
  let X2 : Exs K mg T := { S := C_SpinError, gS := PySem.W.mg_of X G g_SpinError, kit := kit_of_tab kt, n_ValueError := PySem.W.mg_none_of X G z_ValueError }
  exact ⟨_, fun s v => .of_eq rfl, fun base _ _ => ok_law T X2⟩
end K04
open PySem PySem.W PyProof.Rows
set_option maxHeartbeats 0 in
theorem PySem.Challenge.cw_pricespin_k04_wrong_texts_holds : PySem.Challenge.rw_pricespin_k04_wrong_texts.Holds := by
  w_on; o_law; k_head; (case hw => w_witness2)
  k_fill
  refine L2.walk_of (l := PySem.Challenge.rw_pricespin_k04_wrong_texts) (n := 63) (k := 14) (x := "script") (CX := fun _ => L2.CX0) (sp := fun w => K04.spLaw _) rfl (by decide) rfl ⟨rfl, by decide, by decide⟩ (fun w h Y => PySem.W.kIn_of Y) ?F (fun _ _ a ns hl _ hS => ⟨a, ns, rfl, hS, hl, fun _ => rfl⟩) (fun _ _ _ _ _ h => h)
  case F =>
    intro w mg fa h KX G hmg
    refine' K04.all_mk KX G hmg ?a_is_int ?l_is_int ?c_is_int ?k_is_int ?a_is_int_from ?l_is_int_from ?c_is_int_from ?k_is_int_from ?a_is_number ?l_is_number ?c_is_number ?k_is_number ?a_is_leaf ?l_is_leaf ?c_is_leaf ?k_is_leaf ?a_parts_of ?l_parts_of ?c_parts_of ?k_parts_of ?a_is_term ?l_is_term ?c_is_term ?k_is_term ?a_check_term ?l_check_term ?c_check_term ?k_check_term ?a__has_form ?l__has_form ?c__has_form ?k__has_form ?a__are_parts ?l__are_parts ?c__are_parts ?k__are_parts ?a__law_source ?l__law_source ?c__law_source ?k__law_source ?a__law_draw ?l__law_draw ?c__law_draw ?k__law_draw ?a__law_pick ?l__law_pick ?c__law_pick ?k__law_pick ?a__law_great ?l__law_great ?c__law_great ?k__law_great ?a__law_add ?l__law_add ?c__law_add ?k__law_add ?a__law_term ?l__law_term ?c__law_term ?k__law_term ?a__written ?l__written ?c__written ?k__written ?a__written_price ?l__written_price ?c__written_price ?k__written_price ?a_term_text ?l_term_text ?c_term_text ?k_term_text ?a_read_term ?l_read_term ?c_read_term ?k_read_term ?a__read_whole ?l__read_whole ?c__read_whole ?k__read_whole ?a__close ?l__close ?c__close ?k__close ?a__read_start ?l__read_start ?c__read_start ?k__read_start ?a__read_plain ?l__read_plain ?c__read_plain ?k__read_plain ?a__read_add ?l__read_add ?c__read_add ?k__read_add ?a__law_is_whole ?l__law_is_whole ?c__law_is_whole ?k__law_is_whole ?a__law_count ?l__law_count ?c__law_count ?k__law_count ?a__law_is_term ?l__law_is_term ?c__law_is_term ?k__law_is_term ?a__law_end ?l__law_end ?c__law_end ?k__law_end ?a__law_number ?l__law_number ?c__law_number ?k__law_number ?a__law_price ?l__law_price ?c__law_price ?k__law_price ?a__law_open ?l__law_open ?c__law_open ?k__law_open ?a__law_begun ?l__law_begun ?c__law_begun ?k__law_begun ?a__law_due ?l__law_due ?c__law_due ?k__law_due ?a__law_read ?l__law_read ?c__law_read ?k__law_read ?a__law_fits ?l__law_fits ?c__law_fits ?k__law_fits ?a__law_bent ?l__law_bent ?c__law_bent ?k__law_bent ?a_law ?l_law ?c_law ?k_law ?g_InvalidTerm ?kC_InvalidTerm ?q_InvalidTerm ?ex_InvalidTerm ?ty_InvalidTerm ?g_InvalidText ?cls_InvalidText ?sa_InvalidText ?ex_InvalidText ?ty_InvalidText ?kC_InvalidText ?l_InvalidText ?c_InvalidText ?k_InvalidText ?iC_InvalidText ?tI_InvalidText ?g_R ?pg_R ?hd_R ?po_R ?sa_R ?nT_R ?nA_R ?mk_R ?kC_R ?l_R_init ?c_R_init ?k_R_init ?at_R_init ?fn_R_init ?l_R_peek ?c_R_peek ?k_R_peek ?at_R_peek ?fn_R_peek ?l_R_sign ?c_R_sign ?k_R_sign ?at_R_sign ?fn_R_sign ?l_R_word ?c_R_word ?k_R_word ?at_R_word ?fn_R_word ?l_R_number ?c_R_number ?k_R_number ?at_R_number ?fn_R_number ?l_R_run ?c_R_run ?k_R_run ?at_R_run ?fn_R_run ?g__GREATEST_NUMBER ?g_MOST_SHOPS ?g__MOST_PARTS ?g__MOST_TERMS ?g__MOST_LEVELS ?g__MOST_DIGITS ?g_SHOPS ?g__LETTERS ?g_DIGITS ?z_len ?z_isinstance ?z_abs ?z_range ?z_int ?z_bool ?z_tuple ?z_list ?z_sum ?z_str ?nof1 ?g_SpinError ?z_ValueError ?kt
    (case g_InvalidTerm => k_is)
    (case g_InvalidText => k_is)
    (case iC_InvalidText => k_is)
    (case g_R => k_is)
    (case at_R_init => k_is)
    (case at_R_peek => k_is)
    (case at_R_sign => k_is)
    (case at_R_word => k_is)
    (case at_R_number => k_is)
    (case at_R_run => k_is)
    (case g_SpinError => k_is)
    (case a_is_int => k_is)
    (case l_is_int => k_is)
    (case c_is_int => k_is)
    (case k_is_int => k_is)
    (case a_is_int_from => k_is)
    (case l_is_int_from => k_is)
    (case c_is_int_from => k_is)
    (case k_is_int_from => k_is)
    (case a_is_number => k_is)
    (case l_is_number => k_is)
    (case c_is_number => k_is)
    (case k_is_number => k_is)
    (case a_is_leaf => k_is)
    (case l_is_leaf => k_is)
    (case c_is_leaf => k_is)
    (case k_is_leaf => k_is)
    (case a_parts_of => k_is)
    (case l_parts_of => k_is)
    (case c_parts_of => k_is)
    (case k_parts_of => k_is)
    (case a_is_term => k_is)
    (case l_is_term => k_is)
    (case c_is_term => k_is)
    (case k_is_term => k_is)
    (case a_check_term => k_is)
    (case l_check_term => k_is)
    (case c_check_term => k_is)
    (case k_check_term => k_is)
    (case a__has_form => k_is)
    (case l__has_form => k_is)
    (case c__has_form => k_is)
    (case k__has_form => k_is)
    (case a__are_parts => k_is)
    (case l__are_parts => k_is)
    (case c__are_parts => k_is)
    (case k__are_parts => k_is)
    (case a__law_source => k_is)
    (case l__law_source => k_is)
    (case c__law_source => k_is)
    (case k__law_source => k_is)
    (case a__law_draw => k_is)
    (case l__law_draw => k_is)
    (case c__law_draw => k_is)
    (case k__law_draw => k_is)
    (case a__law_pick => k_is)
    (case l__law_pick => k_is)
    (case c__law_pick => k_is)
    (case k__law_pick => k_is)
    (case a__law_great => k_is)
    (case l__law_great => k_is)
    (case c__law_great => k_is)
    (case k__law_great => k_is)
    (case a__law_add => k_is)
    (case l__law_add => k_is)
    (case c__law_add => k_is)
    (case k__law_add => k_is)
    (case a__law_term => k_is)
    (case l__law_term => k_is)
    (case c__law_term => k_is)
    (case k__law_term => k_is)
    (case a__written => k_is)
    (case l__written => k_is)
    (case c__written => k_is)
    (case k__written => k_is)
    (case a__written_price => k_is)
    (case l__written_price => k_is)
    (case c__written_price => k_is)
    (case k__written_price => k_is)
    (case a_term_text => k_is)
    (case l_term_text => k_is)
    (case c_term_text => k_is)
    (case k_term_text => k_is)
    (case a_read_term => k_is)
    (case l_read_term => k_is)
    (case c_read_term => k_is)
    (case k_read_term => k_is)
    (case a__read_whole => k_is)
    (case l__read_whole => k_is)
    (case c__read_whole => k_is)
    (case k__read_whole => k_is)
    (case a__close => k_is)
    (case l__close => k_is)
    (case c__close => k_is)
    (case k__close => k_is)
    (case a__read_start => k_is)
    (case l__read_start => k_is)
    (case c__read_start => k_is)
    (case k__read_start => k_is)
    (case a__read_plain => k_is)
    (case l__read_plain => k_is)
    (case c__read_plain => k_is)
    (case k__read_plain => k_is)
    (case a__read_add => k_is)
    (case l__read_add => k_is)
    (case c__read_add => k_is)
    (case k__read_add => k_is)
    (case a__law_is_whole => k_is)
    (case l__law_is_whole => k_is)
    (case c__law_is_whole => k_is)
    (case k__law_is_whole => k_is)
    (case a__law_count => k_is)
    (case l__law_count => k_is)
    (case c__law_count => k_is)
    (case k__law_count => k_is)
    (case a__law_is_term => k_is)
    (case l__law_is_term => k_is)
    (case c__law_is_term => k_is)
    (case k__law_is_term => k_is)
    (case a__law_end => k_is)
    (case l__law_end => k_is)
    (case c__law_end => k_is)
    (case k__law_end => k_is)
    (case a__law_number => k_is)
    (case l__law_number => k_is)
    (case c__law_number => k_is)
    (case k__law_number => k_is)
    (case a__law_price => k_is)
    (case l__law_price => k_is)
    (case c__law_price => k_is)
    (case k__law_price => k_is)
    (case a__law_open => k_is)
    (case l__law_open => k_is)
    (case c__law_open => k_is)
    (case k__law_open => k_is)
    (case a__law_begun => k_is)
    (case l__law_begun => k_is)
    (case c__law_begun => k_is)
    (case k__law_begun => k_is)
    (case a__law_due => k_is)
    (case l__law_due => k_is)
    (case c__law_due => k_is)
    (case k__law_due => k_is)
    (case a__law_read => k_is)
    (case l__law_read => k_is)
    (case c__law_read => k_is)
    (case k__law_read => k_is)
    (case a__law_fits => k_is)
    (case l__law_fits => k_is)
    (case c__law_fits => k_is)
    (case k__law_fits => k_is)
    (case a__law_bent => k_is)
    (case l__law_bent => k_is)
    (case c__law_bent => k_is)
    (case k__law_bent => k_is)
    (case a_law => k_is)
    (case l_law => k_is)
    (case c_law => k_is)
    (case k_law => k_is)
    (case kC_InvalidTerm => k_is)
    (case q_InvalidTerm => k_exc)
    (case ex_InvalidTerm => k_is)
    (case ty_InvalidTerm => k_is)
    (case cls_InvalidText => exact ⟨_, _, _, _, _, _, _, _, _, _, _, _, _, _, _, by k_is, by first | rfl | decide +kernel⟩)
    (case sa_InvalidText => k_is)
    (case ex_InvalidText => k_is)
    (case ty_InvalidText => k_is)
    (case kC_InvalidText => k_is)
    (case l_InvalidText => k_is)
    (case c_InvalidText => k_is)
    (case k_InvalidText => k_is)
    (case tI_InvalidText => k_is)
    (case pg_R => k_is)
    (case hd_R => k_is)
    (case po_R => k_is)
    (case sa_R => k_is)
    (case nT_R => k_is)
    (case nA_R => k_is)
    (case mk_R => k_is)
    (case kC_R => k_is)
    (case l_R_init => k_is)
    (case c_R_init => k_is)
    (case k_R_init => k_is)
    (case fn_R_init => k_is)
    (case l_R_peek => k_is)
    (case c_R_peek => k_is)
    (case k_R_peek => k_is)
    (case fn_R_peek => k_is)
    (case l_R_sign => k_is)
    (case c_R_sign => k_is)
    (case k_R_sign => k_is)
    (case fn_R_sign => k_is)
    (case l_R_word => k_is)
    (case c_R_word => k_is)
    (case k_R_word => k_is)
    (case fn_R_word => k_is)
    (case l_R_number => k_is)
    (case c_R_number => k_is)
    (case k_R_number => k_is)
    (case fn_R_number => k_is)
    (case l_R_run => k_is)
    (case c_R_run => k_is)
    (case k_R_run => k_is)
    (case fn_R_run => k_is)
    (case g__GREATEST_NUMBER => k_is)
    (case g_MOST_SHOPS => k_is)
    (case g__MOST_PARTS => k_is)
    (case g__MOST_TERMS => k_is)
    (case g__MOST_LEVELS => k_is)
    (case g__MOST_DIGITS => k_is)
    (case g_SHOPS => k_is)
    (case g__LETTERS => k_is)
    (case g_DIGITS => k_is)
    (case z_len => k_is)
    (case z_isinstance => k_is)
    (case z_abs => k_is)
    (case z_range => k_is)
    (case z_int => k_is)
    (case z_bool => k_is)
    (case z_tuple => k_is)
    (case z_list => k_is)
    (case z_sum => k_is)
    (case z_str => k_is)
    (case nof1 => k_is)
    (case z_ValueError => k_is)
    (case kt => kernel_rfl)

