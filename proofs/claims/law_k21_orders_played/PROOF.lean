import PyProof.Rows.All
import Wide.All
import OpenK.AllK
import Wide.FinOn
import HandS.ForMost
import HandS.ForExc
import HandS.NoneIn
import HandS.Evl
import KE.KEqSeq
import PyProof.StrBlock2
import HandS.IsInst
import HandS.FStr
import HandS.Codes
import KE.KIntText
import PyProof.Rows.StrIntSpec
import HandS.TupAny
import HandS.ExcInit
import HandS.ExcValue
import KE.KExcIs
import HandS.Replace
import PyProof.ListStr
import HandS.SetFor
import HandS.Strs
import HandS.TupLen
import PySem.Challenge.RW_pricespin_k21_orders_played
set_option Elab.async false
set_option linter.all false
set_option maxRecDepth 100000
namespace DK
open PySem PySem.Spec PyProof.Rows L2
theorem hu64 {k : Nat} {A : Around} (hr : Room k A) : A.units + 64 < cLine := by
  have := hr.un
  omega
def CPowW (i j : Int) : Prop := 0 ≤ j ∧ (Builtin.Int.intBits i : Int) * j ≤ 2 ^ 27
theorem op_powW {X : Cx} : OpR X (binaryOp .Pow) (rI CPowW fun i j => .int (i ^ j.toNat)) := opI fun _ _ _ _ _ _ _ hc q => pow_int hc.1 hc.2 q
/-- a text times a number -/
theorem op_mulS {X : Cx} : OpR X (binaryOp .Mult) (fun x y H Q => ∃ z n, x = .str z ∧ y = .int n ∧ PySem.MulOk z n ∧ Q (.str (PySem.Txt.mul z n)) H) := by
  intro pins s σ H x y v u Q I rx ry h
  obtain ⟨z, n, rfl, rfl, hc, q⟩ := h
  obtain ⟨t, rfl⟩ := rx
  obtain ⟨t', rfl⟩ := ry
  exact PySem.SB.mul hc fun t2 k => ⟨.str _, H, I.tok _, ⟨_, rfl⟩, q⟩
/-- where a def of the top stands -/
structure At (K : PySem.W.Frag) (mg : Str → Option Value) (x : Str) (st : Stmt) (ps : List Str) where
  f : Addr
  fd : FuncData
  F : Fun K x x st f fd
  g : mg x = some (.ref f)
  b : Binds K fd ps []
/-- all but the addresses of M stay -/
def ExM (M : List Addr) (H H' : Hp) : Prop := ∀ a o, a ∉ M → H a = some o → H' a = some o
theorem ExM.refl (M : List Addr) (H : Hp) : ExM M H H := fun _ _ _ h => h
theorem ExM.trans {M : List Addr} {H H1 H2 : Hp} (a : ExM M H H1) (b : ExM M H1 H2) : ExM M H H2 := fun x o n h => b x o n (a x o n h)
theorem ExM.new {M : List Addr} {H : Hp} {p : Addr} {o : HO} (h : H p = none) : ExM M H (upd H p o) := fun a u _ e => by
  rw [upd_ne (ne_of_none e h)]
  exact e
theorem ExM.mut {M : List Addr} {H : Hp} {p : Addr} {o : HO} (h : p ∈ M) : ExM M H (upd H p o) := fun a u n e => by
  rw [upd_ne (show a ≠ p from fun z => n (by rw [z]; exact h))]
  exact e
theorem ExM.of {M : List Addr} {H H' : Hp} (e : Evl.Ex H H') : ExM M H H' := fun a o _ h => e a o h
/-- the source of a law's draws: at s the list of the cells' list (at c) and of the turn, at most n -/
def big : Int := 10 ^ 1200
structure Src (H : Hp) (s c : Addr) (n : Nat) : Prop where
  ne : c ≠ s
  ex : ∃ (ks : List Int) (t : Nat), H s = some (.lst [.ref c, .int (t : Int)]) ∧ H c = some (.lst (ks.map V.int)) ∧ 1 ≤ ks.length ∧ ks.length ≤ 63 ∧ t ≤ n
theorem Src.mono {H : Hp} {s c : Addr} {n m : Nat} (h : Src H s c n) (l : n ≤ m) : Src H s c m := by
  obtain ⟨a, ks, t, e1, e2, e3, e4, e5⟩ := h
  exact ⟨a, ks, t, e1, e2, e3, e4, Nat.le_trans e5 l⟩
theorem Src.ex1 {H H' : Hp} {s c : Addr} {n : Nat} (h : Src H s c n) (e : Evl.Ex H H') : Src H' s c n := by
  obtain ⟨a, ks, t, e1, e2, e3, e4, e5⟩ := h
  exact ⟨a, ks, t, e _ _ e1, e _ _ e2, e3, e4, e5⟩
theorem Src.new {H : Hp} {s c p : Addr} {o : HO} {n : Nat} (h : Src H s c n) (hp : H p = none) : Src (upd H p o) s c n := h.ex1 (Evl.Ex.new hp)
/-- _law_source(script) -/
def spSource (K : PySem.W.Frag) : Sp := fun vs H Q _ => ∃ (a : Addr) (ns : List Int), vs = [.ref a] ∧ SqL K H a (ns.map V.int) ∧ ns.length ≤ 63 ∧
  ∀ s c H', Evl.Ex H H' → H s = none → H c = none → Src H' s c 0 → Q (.ref s) H'
/-- _law_draw(source, limit) -/
def spDraw : Sp := fun vs H Q _ => ∃ (s c : Addr) (n : Nat) (l : Int), vs = [.ref s, .int l] ∧ Src H s c n ∧ n < 2 ^ 60 ∧ 0 < l ∧ l < 2 ^ 30 ∧
  ∀ (d : Int) H', 0 ≤ d → d < l → ExM [s, c] H H' → Src H' s c (n + 1) → Q (.int d) H'
/-- _law_pick(source, values) -/
def spPick (K : PySem.W.Frag) : Sp := fun vs H Q _ => ∃ (s c p : Addr) (n : Nat) (xs : List V), vs = [.ref s, .ref p] ∧ Src H s c n ∧ n < 2 ^ 60 ∧ SqL K H p xs ∧ p ≠ s ∧ p ≠ c ∧ 1 ≤ xs.length ∧ xs.length ≤ 1000 ∧
  ∀ v H', v ∈ xs → ExM [s, c] H H' → Src H' s c (n + 1) → Q v H'
theorem sqm {K : PySem.W.Frag} {M : List Addr} {H H' : Hp} {a : Addr} {xs : List V} (e : ExM M H H') (n : a ∉ M) (h : SqL K H a xs) : SqL K H' a xs := by
  rcases h with (h | ⟨o, h⟩) | h
  · exact .inl (.inl (e a _ n h))
  · exact .inl (.inr ⟨o, e a _ n h⟩)
  · exact .inr h
end DK

set_option Elab.async false
set_option linter.all false
set_option maxRecDepth 100000
set_option maxHeartbeats 2000000
/-! Data over the layer: a value that bears a datum (Dp), away from the addresses M that may be written; what an expression gives, as a datum. -/
namespace DD
open PySem PySem.Spec PyProof.Rows L2 Evl DK
def mi (H : Hp) (M : List Addr) : Hp := fun a => if a ∈ M then none else H a
theorem mi_some {H : Hp} {M : List Addr} {a : Addr} {o : HO} (h : mi H M a = some o) : a ∉ M ∧ H a = some o := by
  unfold mi at h
  split at h
  · cases h
  · rename_i n
    exact ⟨n, h⟩
theorem mi_of {H : Hp} {M : List Addr} {a : Addr} {o : HO} (n : a ∉ M) (h : H a = some o) : mi H M a = some o := by
  unfold mi
  rw [if_neg n]
  exact h
def Dom (M : List Addr) (H : Hp) : Prop := ∀ m ∈ M, H m ≠ none
theorem Dom.ex {M : List Addr} {H H' : Hp} (d : Dom M H) (e : Ex H H') : Dom M H' := fun m hm => by
  cases q : H m with
  | none => exact absurd q (d m hm)
  | some o =>
    rw [e m o q]
    exact fun z => nomatch z
theorem Dom.nin {M : List Addr} {H : Hp} {p : Addr} (d : Dom M H) (h : H p = none) : p ∉ M := fun z => d p z h
theorem Dom.cons {M : List Addr} {H : Hp} {p : Addr} (d : Dom M H) (h : H p ≠ none) : Dom (p :: M) H := fun m hm => by
  rcases List.mem_cons.mp hm with rfl | hm
  · exact h
  · exact d m hm
theorem Dom.exM {M : List Addr} {H H' : Hp} {s c : Addr} {n : Nat} (d : Dom M H) (e : ExM [s, c] H H') (S : Src H' s c n) : Dom M H' := fun m hm => by
  obtain ⟨_, ks, t, e1, e2, _⟩ := S
  by_cases h1 : m = s
  · rw [h1, e1]
    exact fun z => nomatch z
  by_cases h2 : m = c
  · rw [h2, e2]
    exact fun z => nomatch z
  cases q : H m with
  | none => exact absurd q (d m hm)
  | some o =>
    rw [e m o (by simp [h1, h2]) q]
    exact fun z => nomatch z
theorem _root_.DK.ExM.sub {M M' : List Addr} {H H' : Hp} (e : ExM M H H') (s : ∀ m, m ∈ M → m ∈ M') : ExM M' H H' := fun a o n h => e a o (fun z => n (s a z)) h
theorem _root_.DK.ExM.mut0 {M : List Addr} {H H' : Hp} {p : Addr} {o : HO} (e : ExM M H H') (n : H p = none) : ExM M H (upd H' p o) := fun a u na h => by
  rw [upd_ne (ne_of_none h n)]
  exact e a u na h
theorem _root_.DK.Src.upd {H : Hp} {s c p : Addr} {n : Nat} {o : HO} (S : Src H s c n) (h1 : p ≠ s) (h2 : p ≠ c) : Src (L2.upd H p o) s c n := by
  obtain ⟨ne, ks, t, e1, e2, e3⟩ := S
  exact ⟨ne, ks, t, by rw [upd_ne (Ne.symm h1)]; exact e1, by rw [upd_ne (Ne.symm h2)]; exact e2, e3⟩
theorem _root_.DK.Src.nes' {H : Hp} {s c p : Addr} {n : Nat} (S : Src H s c n) (h : H p = none) : p ≠ s ∧ p ≠ c := by
  obtain ⟨_, ks, t, e1, e2, _⟩ := S
  exact ⟨(ne_of_none e1 h).symm, (ne_of_none e2 h).symm⟩
theorem ex_full (H : Hp) (M : List Addr) : Ex (mi H M) H := fun a o h => (mi_some h).2
theorem ex_mi {H H' : Hp} {M : List Addr} (e : Ex H H') : Ex (mi H M) (mi H' M) := fun a o h => mi_of (mi_some h).1 (e a o (mi_some h).2)
theorem exM_mi {H H' : Hp} {M : List Addr} (e : ExM M H H') : Ex (mi H M) (mi H' M) := fun a o h => mi_of (mi_some h).1 (e a o (mi_some h).1 (mi_some h).2)
theorem ex_less {H : Hp} {M M' : List Addr} (s : ∀ m, m ∈ M → m ∈ M') : Ex (mi H M') (mi H M) := fun a o h => mi_of (fun z => (mi_some h).1 (s a z)) (mi_some h).2
theorem ex_add {H : Hp} {M : List Addr} {p : Addr} (n : H p = none) : Ex (mi H M) (mi H (p :: M)) := fun a o h => by
  obtain ⟨h1, h2⟩ := mi_some h
  refine mi_of (fun z => ?_) h2
  rcases List.mem_cons.mp z with rfl | z
  · rw [n] at h2
    cases h2
  · exact h1 z
section
variable {K : PySem.W.Frag} {H H' : Hp} {M : List Addr}
mutual
theorem dpx (e : Ex H H') : ∀ (d : PyData) (v : V), Dp K H v d → Dp K H' v d
  | .none, _, h => by cases h; exact .non
  | .bool _, _, h => by cases h; exact .bl _
  | .int _, _, h => by cases h; exact .int _
  | .str _, _, h => by cases h; exact .str _
  | .list ds, _, h => by
    cases h with
    | lst h1 h2 => exact .lst (ex_l e h1) (dpxs e ds _ h2)
  | .tuple ds, _, h => by
    cases h with
    | tup h1 h2 => exact .tup (ex_t e h1) (dpxs e ds _ h2)
  | .dict _, _, h => by cases h
theorem dpxs (e : Ex H H') : ∀ (ds : List PyData) (vs : List V), DpAll K H vs ds → DpAll K H' vs ds
  | [], _, h => by cases h; exact .nil
  | d :: ds, _, h => by
    cases h with
    | cons h1 h2 => exact .cons (dpx e d _ h1) (dpxs e ds _ h2)
end
end
abbrev Dm (K : PySem.W.Frag) (M : List Addr) (H : Hp) (v : V) (d : PyData) : Prop := Dp K (mi H M) v d
abbrev Dms (K : PySem.W.Frag) (M : List Addr) (H : Hp) (vs : List V) (ds : List PyData) : Prop := DpAll K (mi H M) vs ds
section
variable {K : PySem.W.Frag} {H H' : Hp} {M M' : List Addr} {v : V} {d : PyData} {vs : List V} {ds : List PyData}
theorem dm_ex (e : Ex H H') (h : Dm K M H v d) : Dm K M H' v d := dpx (ex_mi e) d v h
theorem dms_ex (e : Ex H H') (h : Dms K M H vs ds) : Dms K M H' vs ds := dpxs (ex_mi e) ds vs h
theorem dm_exM (e : ExM M H H') (h : Dm K M H v d) : Dm K M H' v d := dpx (exM_mi e) d v h
theorem dms_exM (e : ExM M H H') (h : Dms K M H vs ds) : Dms K M H' vs ds := dpxs (exM_mi e) ds vs h
theorem dm_add {p : Addr} (n : H p = none) (h : Dm K M H v d) : Dm K (p :: M) H v d := dpx (ex_add n) d v h
theorem dms_add {p : Addr} (n : H p = none) (h : Dms K M H vs ds) : Dms K (p :: M) H vs ds := dpxs (ex_add n) ds vs h
theorem dm_less {p : Addr} (h : Dm K (p :: M) H v d) : Dm K M H v d := dpx (ex_less fun m hm => List.mem_cons_of_mem p hm) d v h
theorem dms_less {p : Addr} (h : Dms K (p :: M) H vs ds) : Dms K M H vs ds := dpxs (ex_less fun m hm => List.mem_cons_of_mem p hm) ds vs h
theorem dm_full (h : Dm K M H v d) : Dp K H v d := dpx (ex_full H M) d v h
theorem dms_full (h : Dms K M H vs ds) : DpAll K H vs ds := dpxs (ex_full H M) ds vs h
theorem dm_none (h : Dp K H v d) : Dm K [] H v d := dpx (fun a o q => mi_of (by simp) q) d v h
theorem dpa_len : ∀ {vs : List V} {ds : List PyData}, DpAll K H vs ds → vs.length = ds.length
  | _, _, .nil => rfl
  | _, _, .cons _ t => congrArg (· + 1) (dpa_len t)
theorem dpa_get : ∀ {vs : List V} {ds : List PyData} {i : Nat} {d : PyData}, DpAll K H vs ds → ds[i]? = some d → ∃ v, vs[i]? = some v ∧ Dp K H v d
  | _, _, _, _, .nil, e => by simp at e
  | _, _, 0, _, .cons r _, e => by
    simp at e
    subst e
    exact ⟨_, rfl, r⟩
  | _, _, i + 1, d, .cons _ t, e => by
    obtain ⟨v, h1, h2⟩ := dpa_get (i := i) (d := d) t (by simpa using e)
    exact ⟨v, by simpa using h1, h2⟩
theorem dpa_get' : ∀ {vs : List V} {ds : List PyData} {i : Nat} {v : V}, DpAll K H vs ds → vs[i]? = some v → ∃ d, ds[i]? = some d ∧ Dp K H v d
  | _, _, _, _, .nil, e => by simp at e
  | _, _, 0, _, .cons r _, e => by
    simp at e
    subst e
    exact ⟨_, rfl, r⟩
  | _, _, i + 1, d, .cons _ t, e => by
    obtain ⟨v, h1, h2⟩ := dpa_get' (i := i) t (by simpa using e)
    exact ⟨v, by simpa using h1, h2⟩
theorem dpa_at {i : Int} (h : DpAll K H vs ds) (e : atI ds i = some d) : ∃ v, atI vs i = some v ∧ Dp K H v d := by
  unfold atI at e ⊢
  rw [dpa_len h]
  cases q : ixN ds.length i with
  | none => rw [q] at e; cases e
  | some j =>
    rw [q] at e
    exact dpa_get h e
theorem dpa_app : ∀ {vs us : List V} {ds es : List PyData}, DpAll K H vs ds → DpAll K H us es → DpAll K H (vs ++ us) (ds ++ es)
  | _, _, _, _, .nil, s => s
  | _, _, _, _, .cons r t, s => .cons r (dpa_app t s)
theorem dpa1 {d : PyData} (h : DpAll K H vs [d]) : ∃ v, vs = [v] ∧ Dp K H v d := by
  cases h with | cons h1 h2 => cases h2; exact ⟨_, rfl, h1⟩
theorem dpa2 {d e : PyData} (h : DpAll K H vs [d, e]) : ∃ v u, vs = [v, u] ∧ Dp K H v d ∧ Dp K H u e := by
  cases h with | cons h1 h2 => obtain ⟨u, rfl, h3⟩ := dpa1 h2; exact ⟨_, u, rfl, h1, h3⟩
theorem dpa3 {d e f : PyData} (h : DpAll K H vs [d, e, f]) : ∃ v u t, vs = [v, u, t] ∧ Dp K H v d ∧ Dp K H u e ∧ Dp K H t f := by
  cases h with | cons h1 h2 => obtain ⟨u, t, rfl, h4, h3⟩ := dpa2 h2; exact ⟨_, u, t, rfl, h1, h4, h3⟩
theorem dpInt {v : V} {i : Int} (h : Dp K H v (.int i)) : v = .int i := by cases h; rfl
theorem dpStr {v : V} {x : Str} (h : Dp K H v (.str x)) : v = .str x := by cases h; rfl
/-- the value of a scalar datum -/
def scV : PyData → Option V
  | .none => some .non
  | .bool b => some (.bl b)
  | .int i => some (.int i)
  | .str x => some (.str x)
  | _ => none
theorem sc_val (h : Dp K H v d) {u : V} (e : scV d = some u) : v = u := by
  cases h <;> first | (cases e; rfl) | cases e
theorem sc_dp {u : V} (e : scV d = some u) : Dp K H u d := by
  cases d <;> first | (cases e; constructor) | cases e
end
def DE (K : PySem.W.Frag) (M : List Addr) (te : TE) (σ : L2.St) (H : Hp) (d : PyData) : Prop := ∀ H1, Ex H H1 → ∀ Q : VK, (∀ v H2, Ex H1 H2 → Dm K M H2 v d → Q v H2) → te σ H1 Q
def DA (K : PySem.W.Frag) (M : List Addr) (ta : TA) (σ : L2.St) (H : Hp) (ds : List PyData) : Prop := ∀ H1, Ex H H1 → ∀ Q : List V → Hp → Prop, (∀ vs H2, Ex H1 H2 → Dms K M H2 vs ds → Q vs H2) → ta σ H1 Q
/-- a new list -/
def DL (K : PySem.W.Frag) (M : List Addr) (te : TE) (σ : L2.St) (H : Hp) (ds : List PyData) : Prop := ∀ H1, Ex H H1 → ∀ Q : VK, (∀ p vs H2, H1 p = none → Ex H1 H2 → H2 p = some (.lst vs) → Dms K (p :: M) H2 vs ds → Q (.ref p) H2) → te σ H1 Q
section
variable {K : PySem.W.Frag} {M : List Addr} {σ : L2.St} {H H' : Hp} {te ta tb : TE} {t : TA} {d e : PyData} {ds es : List PyData} {v : V}
theorem DE.mono (x : Ex H H') (h : DE K M te σ H d) : DE K M te σ H' d := fun H1 a Q q => h H1 (x.trans a) Q q
theorem DA.mono (x : Ex H H') (h : DA K M t σ H ds) : DA K M t σ H' ds := fun H1 a Q q => h H1 (x.trans a) Q q
theorem de_ev (h : Ev te σ H v) (hd : Dm K M H v d) : DE K M te σ H d := fun H1 x Q q => h H1 x Q fun H2 x2 => q v H2 x2 (dm_ex (x.trans x2) hd)
theorem de_v {i : Nat} (hd : Dm K M H v d) (h : σ[i]? = some (some v)) : DE K M (tVar i) σ H d := de_ev (ev_var h) hd
theorem de_sc {u : V} (h : Ev te σ H u) (e : scV d = some u) : DE K M te σ H d := fun H1 x Q q => h H1 x Q fun H2 x2 => q u H2 x2 (sc_dp e)
theorem ev_sc {u : V} (h : DE K M te σ H d) (e : scV d = some u) : Ev te σ H u := fun H1 x Q q => h H1 x Q fun v H2 x2 hd => by
  rw [sc_val hd e]
  exact q H2 x2
theorem da_nil : DA K M tNil σ H [] := fun H1 _ _ q => q [] H1 (Ex.refl H1) .nil
theorem da_cons (h : DE K M te σ H d) (hr : DA K M t σ H ds) : DA K M (tCons te t) σ H (d :: ds) := fun H1 x _ q =>
  h H1 x _ fun v H2 x2 hd => hr H2 (x.trans x2) _ fun vs H3 x3 hs => q _ H3 (x2.trans x3) (.cons (dm_ex x3 hd) hs)
theorem da_dl (h : DL K M te σ H es) (hM : Dom M H) (hr : DA K M t σ H ds) : DA K M (tCons te t) σ H (.list es :: ds) := fun H1 x _ q =>
  h H1 x _ fun p vs H2 n x2 hp hd => hr H2 (x.trans x2) _ fun us H3 x3 hs => q _ H3 (x2.trans x3)
    (.cons (.lst (sq_of (mi_of ((hM.ex x).nin n) (x3 _ _ hp))) (dms_ex x3 (dms_less hd))) hs)
theorem de_tup (hM : Dom M H) (h : DA K M t σ H ds) (hl : ds.length ≤ 1000) : DE K M (tTup t) σ H (.tuple ds) := fun H1 x _ q =>
  h H1 x _ fun vs H2 x2 hd => ⟨sz_of (by rw [dpa_len hd]; omega), fun p hp => q _ _ (x2.trans (Ex.new hp)) (.tup (st_of (mi_of ((hM.ex (x.trans x2)).nin hp) upd_same)) (dms_ex (Ex.new hp) hd))⟩
theorem dl_lst (h : DA K M t σ H ds) (hl : ds.length ≤ 1000) : DL K M (tLst t) σ H ds := fun H1 x _ q =>
  h H1 x _ fun vs H2 x2 hd => ⟨sz_of (by rw [dpa_len hd]; omega), fun p hp => q p vs _ (fresh_back x2 hp) (x2.trans (Ex.new hp)) upd_same (dms_ex (Ex.new hp) (dms_add hp hd))⟩
theorem de_dl (hM : Dom M H) (h : DL K M te σ H ds) : DE K M te σ H (.list ds) := fun H1 x Q q =>
  h H1 x Q fun p vs H2 n x2 hp hd => q _ H2 x2 (.lst (sq_of (mi_of ((hM.ex x).nin n) hp)) (dms_less hd))
/-- t[i], xs[i] -/
theorem de_ixT {i : Int} (ha : DE K M ta σ H (.tuple ds)) (hb : Ev tb σ H (.int i)) (e : atI ds i = some d) : DE K M (tOp (rIxT K) ta tb) σ H d := fun H1 x Q q =>
  ha H1 x _ fun v H2 x2 hd => hb H2 (x.trans x2) _ fun H3 x3 => by
    have hd3 := dm_ex x3 hd
    cases hd3 with
    | tup hs hv =>
      rename_i p xs
      obtain ⟨u, hu, du⟩ := dpa_at hv e
      exact ⟨p, xs, i, u, rfl, rfl, ex_t (ex_full _ _) hs, hu, q u H3 (x2.trans x3) du⟩
theorem de_ixL {i : Int} (ha : DE K M ta σ H (.list ds)) (hb : Ev tb σ H (.int i)) (e : atI ds i = some d) : DE K M (tOp (rIxL K) ta tb) σ H d := fun H1 x Q q =>
  ha H1 x _ fun v H2 x2 hd => hb H2 (x.trans x2) _ fun H3 x3 => by
    have hd3 := dm_ex x3 hd
    cases hd3 with
    | lst hs hv =>
      rename_i p xs
      obtain ⟨u, hu, du⟩ := dpa_at hv e
      exact ⟨p, xs, i, u, rfl, rfl, ex_l (ex_full _ _) hs, hu, q u H3 (x2.trans x3) du⟩
/-- len -/
theorem ev_lenD {ys : List PyData} (ha : DE K M ta σ H d) (e : d = .tuple ys ∨ d = .list ys) : Ev (tCB (rLenS K) (tCons ta tNil)) σ H (.int (ys.length : Int)) := fun H1 x Q q =>
  ha H1 x _ fun v H2 x2 hd => by
    have hf := dm_full hd
    rcases e with rfl | rfl
    · cases hf with
      | tup hs hv =>
        refine ⟨_, _, rfl, .inr hs, ?_⟩
        rw [dpa_len hv]
        exact q H2 x2
    · cases hf with
      | lst hs hv =>
        refine ⟨_, _, rfl, .inl hs, ?_⟩
        rw [dpa_len hv]
        exact q H2 x2
/-- a call of a def that gives a datum -/
def SpD (K : PySem.W.Frag) (M : List Addr) (sp : Sp) (ds : List PyData) (H : Hp) (r : PyData) : Prop := ∀ H1, Ex H H1 → ∀ vs, Dms K M H1 vs ds → ∀ Q : VK, (∀ v H2, Ex H1 H2 → Dm K M H2 v r → Q v H2) → ∀ E : XK, sp vs H1 Q E
theorem de_call {sp : Sp} {E : XK} {r : PyData} (h : DA K M t σ H ds) (hs : SpD K M sp ds H r) : DE K M (tCall sp [] E t) σ H r := fun H1 x Q q =>
  h H1 x _ fun vs H2 x2 hd => by
    rw [List.append_nil]
    exact hs H2 (x.trans x2) vs hd Q (fun v H3 x3 h3 => q v H3 (x2.trans x3) h3) E
/-- the promise of a def upon data: R ds r -/
def spR (K : PySem.W.Frag) (R : List PyData → PyData → Prop) : Sp := fun vs H Q _ => ∃ M ds r, Dom M H ∧ Dms K M H vs ds ∧ R ds r ∧ ∀ v H', Ex H H' → Dm K M H' v r → Q v H'
theorem spD_R {R : List PyData → PyData → Prop} {r : PyData} (hM : Dom M H) (h : R ds r) : SpD K M (spR K R) ds H r := fun H1 x vs hv Q q E => ⟨M, ds, r, hM.ex x, hv, h, q⟩
theorem de_callR {R : List PyData → PyData → Prop} {E : XK} {r : PyData} (hM : Dom M H) (h : DA K M t σ H ds) (hR : R ds r) : DE K M (tCall (spR K R) [] E t) σ H r := de_call h (spD_R hM hR)
/-- .. a new list of data -/
def spRL (K : PySem.W.Frag) (R : List PyData → List PyData → Prop) : Sp := fun vs H Q _ => ∃ M ds rs, Dom M H ∧ Dms K M H vs ds ∧ R ds rs ∧ ∀ p us H', H p = none → Ex H H' → H' p = some (.lst us) → Dms K (p :: M) H' us rs → Q (.ref p) H'
theorem dl_callR {R : List PyData → List PyData → Prop} {E : XK} {rs : List PyData} (hM : Dom M H) (h : DA K M t σ H ds) (hR : R ds rs) : DL K M (tCall (spRL K R) [] E t) σ H rs := fun H1 x Q q =>
  h H1 x _ fun vs H2 x2 hd => by
    rw [List.append_nil]
    exact ⟨M, ds, rs, hM.ex (x.trans x2), hd, hR, fun p us H3 n x3 hp h3 => q p us H3 (fresh_back x2 n) (x2.trans x3) hp h3⟩
/-- isinstance -/
def tyN : PyData → String
  | .none => "NoneType" | .bool _ => "bool" | .int _ => "int" | .str _ => "str" | .list _ => "list" | .tuple _ => "tuple" | .dict _ => "dict"
theorem tyx_of (h : Dp K H v d) : TyX K H v (.type (tyN d)) := by
  cases h with
  | non => exact .base .non
  | bl b => exact .base (.bl b)
  | int i => exact .base (.int i)
  | str x => exact .base (.str x)
  | lst hs _ =>
    rcases hs with (h | ⟨o, h⟩) | ⟨o, its, n, h, c, _⟩
    · exact .base (.lst h)
    · exact .base (.frz h)
    · exact .kList h c
  | tup hs _ =>
    rcases hs with (h | ⟨o, h⟩) | ⟨o, its, n, h, c, _⟩
    · exact .base (.tup h)
    · exact .fTuple h
    · exact .kTuple h c
theorem ev_isi {T : String} {b : Bool} (h : DE K M ta σ H d) (hb : kitB (tyN d) T = some b) : Ev (tCB (rIsi K) (tCons ta (tCons (tC (.ty T)) tNil))) σ H (.bl b) := fun H1 x Q q =>
  h H1 x _ fun v H2 x2 hd => ⟨v, .ty T, .type (tyN d), .type T, b, rfl, .ty T, tyx_of (dm_full hd), kit_ty hb, q H2 x2⟩
/-! ### statements -/
variable {D : Ends} {tz : TS} {i : Nat}
theorem q_asgD (h : DE K M te σ H d) (k : ∀ v H1, Ex H H1 → Dm K M H1 v d → tz D (σ.set i (some v)) H1) : tSeq (tAsg te (gName i)) tz D σ H := h H (Ex.refl H) _ fun v H1 x hd => k v H1 x hd
theorem q_asgDL (h : DL K M te σ H ds) (k : ∀ p vs H1, H p = none → Ex H H1 → H1 p = some (.lst vs) → Dms K (p :: M) H1 vs ds → tz D (σ.set i (some (.ref p))) H1) : tSeq (tAsg te (gName i)) tz D σ H := h H (Ex.refl H) _ fun p vs H1 n x hp hd => k p vs H1 n x hp hd
theorem s_retD (h : DE K M te σ H d) (k : ∀ v H1, Ex H H1 → Dm K M H1 v d → D.rt v H1) : tRet te D σ H := h H (Ex.refl H) _ fun v H1 x hd => k v H1 x hd
theorem s_retDL (h : DL K M te σ H ds) (k : ∀ p vs H1, H p = none → Ex H H1 → H1 p = some (.lst vs) → Dms K (p :: M) H1 vs ds → D.rt (.ref p) H1) : tRet te D σ H := h H (Ex.refl H) _ fun p vs H1 n x hp hd => k p vs H1 n x hp hd
/-! ### comprehensions -/
/-- [e for x in t], t a tuple of (l.map enc) -/
theorem dl_lcT {α : Type} {l : List α} {enc f : α → PyData} {tl : TE} {j : Nat} {ws : List Nat} (hM : Dom M H) (h : DE K M tl σ H (.tuple (l.map enc))) (hl : l.length ≤ 1000) (hw : ∀ x, wipe ((wipe σ ws).set j (some x)) ws = wipe σ ws)
    (he : ∀ a ∈ l, ∀ x H1 D, H D = none → Ex H H1 → Dom (D :: M) H1 → Dm K (D :: M) H1 x (enc a) → DE K (D :: M) te ((wipe σ ws).set j (some x)) H1 (f a)) : DL K M (tLc (iTup K tl) (gName j) tYes te ws) σ H (l.map f) := fun H0 x0 Q q => h H0 x0 _ fun v H1 x1 hd => by
  have hd' := hd
  cases hd' with
  | tup hs hv =>
  rename_i a xs
  refine ⟨a, rfl, ⟨xs, ex_t (ex_full _ _) hs⟩, fun Dl hD => ?_⟩
  have hD0 : H0 Dl = none := fresh_back x1 hD
  have hDH : H Dl = none := fresh_back x0 hD0
  have lenx : xs.length = l.length := by rw [dpa_len hv, List.length_map]
  refine lc_tup (xs := xs) (fun i H' => Ex H1 H' ∧ ∃ acc, H' Dl = some (.lst acc) ∧ Dms K (Dl :: M) H' acc ((l.take i).map f)) ⟨Ex.new hD, [], upd_same, .nil⟩ (fun i H' _ p => ex_t p.1 (ex_t (ex_full _ _) hs)) (fun i y H' hy p => ⟨hw y, ?_⟩) (fun H' p => ?_)
  · obtain ⟨p1, acc, p2, p3⟩ := p
    show te ((wipe σ ws).set j (some y)) H' _
    obtain ⟨ey, hey, dy⟩ := dpa_get' hv hy
    rw [List.getElem?_map] at hey
    cases hla : l[i]? with
    | none => rw [hla] at hey; cases hey
    | some la =>
      rw [hla] at hey
      obtain rfl : enc la = ey := Option.some.inj hey
      have hdom : Dom (Dl :: M) H' := ((hM.ex (x0.trans x1)).ex p1).cons (by rw [p2]; exact fun z => nomatch z)
      refine he la (List.mem_of_getElem? hla) y H' Dl hDH ((x0.trans x1).trans p1) hdom (dm_ex p1 (dm_add hD dy)) H' (Ex.refl _) _ fun w H2 x2 hw2 => ?_
      have eM : ExM (Dl :: M) H2 (upd H2 Dl (.lst (acc ++ [w]))) := ExM.mut (by simp)
      refine ⟨acc, x2 _ _ p2, sz_lt (by have := dpa_len p3; rw [List.length_map, List.length_take] at this; omega), (p1.trans x2).mut hD, acc ++ [w], upd_same, ?_⟩
      have e1 : (l.take (i + 1)).map f = (l.take i).map f ++ [f la] := by
        rw [List.take_add_one, hla, List.map_append]
        rfl
      rw [e1]
      exact dpa_app (dms_exM eM (dms_ex x2 p3)) (.cons (dm_exM eM hw2) .nil)
  · obtain ⟨p1, acc, p2, p3⟩ := p
    rw [lenx, List.take_length] at p3
    exact q Dl acc H' hD0 (x1.trans p1) p2 p3
end
/-! ### further words -/
section
variable {K : PySem.W.Frag} {M : List Addr} {σ : L2.St} {H : Hp} {ta tb tc : TE} {X : Cx}
theorem pe_globI {x : Str} {i : Int} {pos : Pos} (hg : Gl X x) (hm : ∃ t, X.mg x = some (.int i t)) (hd : (x == ("__debug__" : Str)) = false := by decide) : PE X (.Name x pos) (tC (.int i)) := by
  obtain ⟨t, hm⟩ := hm
  exact pe_glob hg hm ⟨t, rfl⟩ hd
theorem pe_globS {x : Str} {z : Str} {pos : Pos} (hg : Gl X x) (hm : ∃ t, X.mg x = some (.str z t)) (hd : (x == ("__debug__" : Str)) = false := by decide) : PE X (.Name x pos) (tC (.str z)) := by
  obtain ⟨t, hm⟩ := hm
  exact pe_glob hg hm ⟨t, rfl⟩ hd
/-- a statement that is not come to -/
theorem ps_never {st : Stmt} : PS X st (fun _ _ _ => False) := ⟨fun _ _ _ _ _ _ h => h.elim⟩
theorem ev_chain {f g : Int → Int → Bool} {x y z : Int} (ha : Ev ta σ H (.int x)) (hb : Ev tb σ H (.int y)) (hc : f x y = true → Ev tc σ H (.int z)) :
    Ev (tChain (rI0 fun i j => .bl (f i j)) (rI0 fun i j => .bl (g i j)) ta tb tc) σ H (.bl (f x y && g y z)) := fun H1 e Q q =>
  ha H1 e _ fun H2 e2 => hb H2 (e.trans e2) _ fun H3 e3 => ⟨x, y, rfl, rfl, f x y, rfl, by
    cases hf : f x y with
    | true =>
      rw [if_pos rfl]
      exact hc hf H3 ((e.trans e2).trans e3) _ fun H4 e4 => ⟨y, z, rfl, rfl, by
        have q' := q H4 ((e2.trans e3).trans e4)
        rw [hf] at q'
        exact q'⟩
    | false =>
      rw [if_neg Bool.false_ne_true]
      have q' := q H3 (e2.trans e3)
      rw [hf] at q'
      exact q'⟩
def isI : PyData → Bool
  | .int _ => true
  | _ => false
def isB : PyData → Bool
  | .bool _ => true
  | _ => false
def isTup : PyData → Bool
  | .tuple _ => true
  | _ => false
theorem kit_int (d : PyData) : kitB (tyN d) "int" = some (isI d || isB d) := by cases d <;> (simp only [tyN, isI, isB, isTup]; decide +kernel)
theorem kit_bool (d : PyData) : kitB (tyN d) "bool" = some (isB d) := by cases d <;> (simp only [tyN, isI, isB, isTup]; decide +kernel)
theorem kit_tuple (d : PyData) : kitB (tyN d) "tuple" = some (isTup d) := by cases d <;> (simp only [tyN, isI, isB, isTup]; decide +kernel)
theorem isI_eq (d : PyData) : ((isI d || isB d) && !isB d) = isI d := by cases d <;> rfl
theorem et_truL {p : Addr} {xs : List V} (ha : Ev ta σ H (.ref p)) (h : SqL K H p xs) : EvT (fun σ H Q => ta σ H fun x H' => ∃ k, TruV K x H' k ∧ Q k H') σ H (!xs.isEmpty) := fun H1 e Q q =>
  ha H1 e _ fun H2 e2 => ⟨!xs.isEmpty, .inl ⟨xs, ex_l (e.trans e2) h, rfl⟩, q H2 e2⟩
theorem dpa_snoc {d : PyData} : ∀ {ds : List PyData} {vs : List V}, DpAll K H vs (ds ++ [d]) → ∃ us y, vs = us ++ [y] ∧ DpAll K H us ds ∧ Dp K H y d
  | [], vs, h => by
    obtain ⟨v, rfl, hv⟩ := dpa1 h
    exact ⟨[], v, rfl, .nil, hv⟩
  | e :: ds, vs, h => by
    cases h with
    | cons h1 h2 =>
      obtain ⟨us, y, rfl, h3, h4⟩ := dpa_snoc h2
      exact ⟨_ :: us, y, rfl, .cons h1 h3, h4⟩
/-- f-strings -/
theorem ev_fmtS {y : Str} (h : Ev ta σ H (.str y)) (hl : y.length ≤ 100000) : Ev (tFmt ta) σ H (.str y) := fun H1 e Q q => h H1 e _ fun H2 e2 => .inl ⟨y, rfl, sz_of hl, q H2 e2⟩
theorem ev_fmtI {i : Int} (h : Ev ta σ H (.int i)) (hl : i.natAbs.log2 < 1920) : Ev (tFmt ta) σ H (.str (toString i)) := fun H1 e Q q => h H1 e _ fun H2 e2 => .inr ⟨i, rfl, hl, q H2 e2⟩
theorem js_all : ∀ {ts : List TE} {ys : List (List Nat)} {acc : List Nat}, Paired (fun (t : TE) (y : List Nat) => Ev t σ H (.str (SX.S y))) ts ys → (acc ++ ys.flatten).length ≤ 100000 →
    ∀ H1, Ex H H1 → ∀ Q : Str → Hp → Prop, (∀ H2, Ex H1 H2 → Q (SX.S (acc ++ ys.flatten)) H2) → tJs ts (SX.S acc) σ H1 Q
  | _, _, acc, .nil, _, H1, e, Q, q => by
    have q' := q H1 (Ex.refl _)
    simp only [List.flatten_nil, List.append_nil] at q'
    exact q'
  | _, _, acc, .cons (b := y) (l₂ := ys) r t, hl, H1, e, Q, q => by
    refine r H1 e _ fun H2 e2 => ⟨SX.S y, rfl, ?_, ?_⟩
    · rw [SX.S_cat, SX.S_len]
      refine sz_of ?_
      simp only [List.flatten_cons, List.length_append] at hl ⊢
      omega
    · rw [SX.S_cat]
      refine js_all (acc := acc ++ y) t ?_ H2 (e.trans e2) Q fun H3 e3 => ?_
      · rw [List.append_assoc, ← List.flatten_cons]
        exact hl
      · rw [List.append_assoc, ← List.flatten_cons]
        exact q H3 (e2.trans e3)
theorem ev_joined {ts : List TE} {ys : List (List Nat)} (h : Paired (fun (t : TE) (y : List Nat) => Ev t σ H (.str (SX.S y))) ts ys) (hl : ys.flatten.length ≤ 100000) :
    Ev (fun σ H Q => tJs ts Str.empty σ H fun out H1 => Q (.str out) H1) σ H (.str (SX.S ys.flatten)) := fun H1 e Q q =>
  js_all (acc := []) h hl H1 e _ fun H2 e2 => q H2 e2
/-- a text's item -/
theorem ev_ixS {z : List Nat} {i : Int} {c : Nat} (ha : Ev ta σ H (.str (SX.S z))) (hb : Ev tb σ H (.int i)) (hl : z.length ≤ 100000) (h : atI z i = some c) : Ev (tOp rIxS ta tb) σ H (.str (SX.S [c])) :=
  ev_op ha hb (rv_ixS (by rw [SX.S_len]; exact hl) h)
theorem dpa_strs {α : Type} {g : α → Str} : ∀ {l : List α} {vs : List V}, DpAll K H vs (l.map fun a => PyData.str (g a)) → vs = l.map fun a => V.str (g a)
  | [], _, h => by cases h; rfl
  | a :: l, _, h => by
    cases h with
    | cons h1 h2 =>
      obtain rfl := dpStr h1
      rw [dpa_strs h2]
      rfl
/-- sep.join([..]), the list new -/
theorem ev_join {sep : List Nat} {cs : List (List Nat)} (ho : Ev ta σ H (.str (SX.S sep))) (he : EvL tb σ H (cs.map fun y => V.str (SX.S y))) (hl : (cs.map List.length).sum + cs.length * sep.length ≤ 1000000) :
    Ev (tM1 (fun x xs H Q => ∃ a p, ∃ ys : List Str, x = .str a ∧ xs = [.ref p] ∧ (SqL K H p (ys.map V.str) ∨ SqT K H p (ys.map V.str)) ∧ (ys.map (·.length)).sum + ys.length * a.length ≤ 16777216 ∧ Q (.str (PySem.Txt.join a ys)) H) ta tb) σ H (.str (SX.S (TL.joinL sep cs))) := fun H1 e Q q =>
  ho H1 e _ fun H2 e2 => ⟨⟨_, rfl⟩, he H2 (e.trans e2) _ fun p H3 _ e3 hp => ⟨SX.S sep, p, cs.map SX.S, rfl, rfl, .inl (sq_of (by rw [hp, List.map_map]; rfl)), by rw [SX.lens, List.length_map, SX.S_len]; have e0 : (cs.map fun x => x.length).sum = (cs.map List.length).sum := rfl; omega, by
    rw [SX.join_S]
    exact q H3 (e2.trans e3)⟩⟩
end
end DD

set_option Elab.async false
set_option linter.all false
set_option maxRecDepth 100000
set_option maxHeartbeats 2000000
namespace DK
open PySem PySem.Spec PyProof.Rows L2 Evl
section
variable {K : PySem.W.Frag} {H H' : Hp}
mutual
theorem dp_ex (e : Ex H H') : ∀ (d : PyData) (v : V), Dp K H v d → Dp K H' v d
  | .none, _, h => by cases h; exact .non
  | .bool _, _, h => by cases h; exact .bl _
  | .int _, _, h => by cases h; exact .int _
  | .str _, _, h => by cases h; exact .str _
  | .list ds, _, h => by
    cases h with
    | lst h1 h2 => exact .lst (ex_l e h1) (dp_exAll e ds _ h2)
  | .tuple ds, _, h => by
    cases h with
    | tup h1 h2 => exact .tup (ex_t e h1) (dp_exAll e ds _ h2)
  | .dict _, _, h => by cases h
theorem dp_exAll (e : Ex H H') : ∀ (ds : List PyData) (vs : List V), DpAll K H vs ds → DpAll K H' vs ds
  | [], _, h => by cases h; exact .nil
  | d :: ds, _, h => by
    cases h with
    | cons h1 h2 => exact .cons (dp_ex e d _ h1) (dp_exAll e ds _ h2)
end
mutual
theorem eqv_same : ∀ d : PyData, d.canLay0 = true → PyData.eqv d d = true
  | .none, _ => rfl
  | .bool b, _ => by simp [PyData.eqv]
  | .int i, _ => by simp [PyData.eqv]
  | .str x, _ => by simp [PyData.eqv]
  | .list xs, h => by
    simp only [PyData.eqv]
    exact eqv_sameAll xs (by simpa [PyData.canLay0] using h)
  | .tuple xs, h => by
    simp only [PyData.eqv]
    exact eqv_sameAll xs (by simpa [PyData.canLay0] using h)
  | .dict _, h => by simp [PyData.canLay0] at h
theorem eqv_sameAll : ∀ ds : List PyData, PyData.canLayAll0 ds = true → PyData.eqvAll ds ds = true
  | [], _ => rfl
  | d :: ds, h => by
    have h' : d.canLay0 = true ∧ PyData.canLayAll0 ds = true := by simpa [PyData.canLayAll0] using h
    simp only [PyData.eqvAll]
    rw [eqv_same d h'.1, eqv_sameAll ds h'.2] <;> rfl
end
theorem rv_neD {x y : V} {d e : PyData} (hd : Dp K H x d) (he : Dp K H y e) (sd : SeqAt.shaped d = true) (se : SeqAt.shaped e = true) : RV (rNeD K) x y H (.bl (!PyData.eqv d e)) :=
  fun H1 e1 _ q => ⟨d, e, dp_ex e1 d _ hd, dp_ex e1 e _ he, sd, se, q H1 (Ex.refl H1)⟩
theorem rv_eqD {x y : V} {d e : PyData} (hd : Dp K H x d) (he : Dp K H y e) (sd : SeqAt.shaped d = true) (se : SeqAt.shaped e = true) : RV (rEqD K) x y H (.bl (PyData.eqv d e)) :=
  fun H1 e1 _ q => ⟨d, e, dp_ex e1 d _ hd, dp_ex e1 e _ he, sd, se, q H1 (Ex.refl H1)⟩
theorem rv_neS {x y : V} {d : PyData} (hd : Dp K H x d) (he : Dp K H y d) (sd : SeqAt.shaped d = true) : RV (rNeD K) x y H (.bl false) := by
  have h := rv_neD hd he sd sd
  rw [eqv_same d (SeqAt.canLay_of_shaped sd)] at h
  exact h
theorem dp_bools : ∀ bs : List Bool, DpAll K H (bs.map V.bl) (bs.map PyData.bool)
  | [] => .nil
  | b :: bs => .cons (.bl b) (dp_bools bs)
theorem shaped_bools (bs : List Bool) : SeqAt.shaped (.list (bs.map PyData.bool)) = true := by
  have h1 : ∀ bs : List Bool, PyData.canLayAll0 (bs.map PyData.bool) = true ∧ PyData.depthAll (bs.map PyData.bool) = 0 := fun bs => by
    induction bs with
    | nil => exact ⟨rfl, rfl⟩
    | cons b bs ih => simp [PyData.canLayAll0, PyData.canLay0, PyData.depthAll, PyData.depth, ih.1, ih.2]
  simp [SeqAt.shaped, PyData.canLay0, PyData.depth, (h1 bs).1, (h1 bs).2]
end
end DK

set_option Elab.async false
set_option linter.all false
set_option maxRecDepth 100000
set_option maxHeartbeats 1000000
/-! Terms as data. -/
namespace TM
open PySem PySem.Spec PyProof.Rows L2 Evl DK DD
inductive Hd where | least | most | rank (k : Nat)
inductive Trm where | price (s : Nat) (a : Int) | plain (n : Int) | node (h : Hd) (ps : List Trm)
mutual
def enc : Trm → PyData
  | .price s a => .tuple [.str "price", .int s, .int a]
  | .plain n => .tuple [.str "plain", .int n]
  | .node .least ps => .tuple [.str "least", .tuple (encs ps)]
  | .node .most ps => .tuple [.str "most", .tuple (encs ps)]
  | .node (.rank k) ps => .tuple [.str "rank", .int k, .tuple (encs ps)]
def encs : List Trm → List PyData
  | [] => []
  | t :: ts => enc t :: encs ts
end
theorem encs_map : ∀ ts : List Trm, encs ts = ts.map enc
  | [] => by simp [encs]
  | t :: ts => by simp [encs, encs_map ts]
mutual
def cnt : Trm → Nat
  | .price _ _ => 1
  | .plain _ => 1
  | .node _ ps => cnts ps + 1
def cnts : List Trm → Nat
  | [] => 0
  | t :: ts => cnt t + cnts ts
end
mutual
def dep : Trm → Nat
  | .price _ _ => 1
  | .plain _ => 1
  | .node _ ps => deps ps + 1
def deps : List Trm → Nat
  | [] => 0
  | t :: ts => max (dep t) (deps ts)
end
def big30 (n : Int) : Prop := -(10 ^ 30) ≤ n ∧ n ≤ 10 ^ 30
def hdOk (h : Hd) (m : Nat) : Prop := match h with
  | .rank k => 1 ≤ k ∧ k ≤ m
  | _ => True
mutual
/-- by the numbers of the document, but for the bounds of levels and terms -/
def wf : Trm → Prop
  | .price s a => s ≤ 5 ∧ big30 a
  | .plain n => big30 n
  | .node h ps => 1 ≤ ps.length ∧ ps.length ≤ 6 ∧ hdOk h ps.length ∧ wfs ps
def wfs : List Trm → Prop
  | [] => True
  | t :: ts => wf t ∧ wfs ts
end
theorem wfs_mem : ∀ {ts : List Trm} {t : Trm}, wfs ts → t ∈ ts → wf t
  | a :: ts, t, h, m => by
    simp only [wfs] at h
    rcases List.mem_cons.mp m with rfl | m
    · exact h.1
    · exact wfs_mem h.2 m
theorem wfs_all : ∀ {ts : List Trm}, (∀ t ∈ ts, wf t) → wfs ts
  | [], _ => by simp [wfs]
  | a :: ts, h => by
    simp only [wfs]
    exact ⟨h a (by simp), wfs_all fun t ht => h t (List.mem_cons_of_mem _ ht)⟩
theorem cnt_pos : ∀ t : Trm, 1 ≤ cnt t
  | .price _ _ => by simp [cnt]
  | .plain _ => by simp [cnt]
  | .node _ ps => by simp [cnt]
theorem dep_pos : ∀ t : Trm, 1 ≤ dep t
  | .price _ _ => by simp [dep]
  | .plain _ => by simp [dep]
  | .node _ ps => by simp [dep]
theorem deps_mem : ∀ {ts : List Trm} {t : Trm}, t ∈ ts → dep t ≤ deps ts
  | a :: ts, t, m => by
    simp only [deps]
    rcases List.mem_cons.mp m with rfl | m
    · omega
    · have := deps_mem m
      omega
theorem cnts_app : ∀ (xs ys : List Trm), cnts (xs ++ ys) = cnts xs + cnts ys
  | [], ys => by simp [cnts]
  | x :: xs, ys => by
    rw [List.cons_append]
    simp only [cnts, cnts_app xs ys]
    omega
def kids : Trm → List Trm
  | .node _ ps => ps
  | _ => []
def leaf : Trm → Bool
  | .node _ _ => false
  | _ => true
theorem cnt_kids (t : Trm) : cnt t = cnts (kids t) + 1 := by
  cases t <;> simp [cnt, kids, cnts]
theorem dep_kids {t u : Trm} (h : u ∈ kids t) : dep u + 1 ≤ dep t := by
  cases t with
  | node h' ps =>
    have := deps_mem (show u ∈ ps from h)
    simp only [dep]
    omega
  | price _ _ => cases h
  | plain _ => cases h
theorem wf_kids {t u : Trm} (w : wf t) (h : u ∈ kids t) : wf u := by
  cases t with
  | node h' ps =>
    simp only [wf] at w
    exact wfs_mem w.2.2.2 h
  | price _ _ => cases h
  | plain _ => cases h
/-- the word a term begins with -/
def word : Trm → Str
  | .price _ _ => "price"
  | .plain _ => "plain"
  | .node .least _ => "least"
  | .node .most _ => "most"
  | .node (.rank _) _ => "rank"
/-- the data of a term's tuple -/
def encL : Trm → List PyData
  | .price s a => [.str "price", .int s, .int a]
  | .plain n => [.str "plain", .int n]
  | .node .least ps => [.str "least", .tuple (ps.map enc)]
  | .node .most ps => [.str "most", .tuple (ps.map enc)]
  | .node (.rank k) ps => [.str "rank", .int k, .tuple (ps.map enc)]
theorem enc_eq (t : Trm) : enc t = .tuple (encL t) := by
  match t with
  | .price s a => simp only [enc, encL]
  | .plain n => simp only [enc, encL]
  | .node .least ps => simp only [enc, encL, encs_map]
  | .node .most ps => simp only [enc, encL, encs_map]
  | .node (.rank k) ps => simp only [enc, encL, encs_map]
theorem encL_word (t : Trm) : atI (encL t) 0 = some (.str (word t)) := by
  match t with
  | .price s a => rfl
  | .plain n => rfl
  | .node .least ps => rfl
  | .node .most ps => rfl
  | .node (.rank k) ps => rfl
theorem encL_kids {t : Trm} (h : leaf t = false) : atI (encL t) (-1) = some (.tuple ((kids t).map enc)) := by
  match t, h with
  | .node .least ps, _ => rfl
  | .node .most ps, _ => rfl
  | .node (.rank k) ps, _ => rfl
theorem leaf_word (t : Trm) : leaf t = (decide (V.str (word t) = V.str "price") || decide (V.str (word t) = V.str "plain")) := by
  match t with
  | .price s a => rfl
  | .plain n => rfl
  | .node .least ps => rfl
  | .node .most ps => rfl
  | .node (.rank k) ps => rfl
theorem leaf_kids {t : Trm} (h : leaf t = true) : kids t = [] := by
  cases t with
  | node h' ps => cases h
  | price _ _ => rfl
  | plain _ => rfl
def num (n : Int) : Bool := decide (-(10 ^ 30) ≤ n) && decide (n ≤ 10 ^ 30)
/-- is it of the form of a term, if its parts are terms -/
def form : Trm → Bool
  | .price s a => (decide ((0 : Int) ≤ (s : Int)) && decide ((s : Int) ≤ 5)) && num a
  | .plain n => num n
  | .node (.rank k) ps => (decide ((1 : Int) ≤ (ps.length : Int)) && decide ((ps.length : Int) ≤ 6)) && (decide ((1 : Int) ≤ (k : Int)) && decide ((k : Int) ≤ (ps.length : Int)))
  | .node _ ps => decide ((1 : Int) ≤ (ps.length : Int)) && decide ((ps.length : Int) ≤ 6)
theorem encL_len (t : Trm) : (encL t).length ≤ 3 ∧ 2 ≤ (encL t).length := by
  match t with
  | .price s a => exact ⟨by simp [encL], by simp [encL]⟩
  | .plain n => exact ⟨by simp [encL], by simp [encL]⟩
  | .node .least ps => exact ⟨by simp [encL], by simp [encL]⟩
  | .node .most ps => exact ⟨by simp [encL], by simp [encL]⟩
  | .node (.rank k) ps => exact ⟨by simp [encL], by simp [encL]⟩
mutual
/-- each term in it has the form -/
def fr : Trm → Bool
  | .price s a => form (.price s a)
  | .plain n => form (.plain n)
  | .node h ps => form (.node h ps) && frs ps
def frs : List Trm → Bool
  | [] => true
  | t :: ts => fr t && frs ts
end
theorem frs_iff : ∀ {ts : List Trm}, frs ts = true ↔ ∀ t ∈ ts, fr t = true
  | [] => by simp [frs]
  | a :: ts => by
    simp only [frs, Bool.and_eq_true, List.mem_cons, forall_eq_or_imp]
    exact and_congr Iff.rfl frs_iff
theorem fr_iff (t : Trm) : fr t = true ↔ form t = true ∧ ∀ u ∈ kids t, fr u = true := by
  cases t with
  | price s a => simp [fr, kids]
  | plain n => simp [fr, kids]
  | node h ps =>
    simp only [fr, Bool.and_eq_true, kids]
    exact and_congr Iff.rfl frs_iff
theorem deps_le {n : Nat} : ∀ {ts : List Trm}, deps ts ≤ n ↔ ∀ t ∈ ts, dep t ≤ n
  | [] => by simp [deps]
  | a :: ts => by
    simp only [deps, List.mem_cons, forall_eq_or_imp]
    have := deps_le (n := n) (ts := ts)
    constructor
    · intro h
      exact ⟨by omega, this.mp (by omega)⟩
    · intro h
      have := this.mpr h.2
      omega
theorem dep_iff (t : Trm) (n : Nat) : dep t ≤ n + 1 ↔ ∀ u ∈ kids t, dep u ≤ n := by
  cases t with
  | price s a => simp [dep, kids]
  | plain n => simp [dep, kids]
  | node h ps =>
    simp only [dep, kids]
    rw [← deps_le]
    omega
theorem form_kids {t : Trm} (h : form t = true) : (kids t).length ≤ 6 := by
  match t, h with
  | .price s a, _ => simp [kids]
  | .plain n, _ => simp [kids]
  | .node (.rank k) ps, h => simp [form] at h; simp only [kids]; omega
  | .node .least ps, h => simp [form] at h; simp only [kids]; omega
  | .node .most ps, h => simp [form] at h; simp only [kids]; omega
/-- the document's bounds -/
def okT (t : Trm) : Prop := cnt t ≤ 40 ∧ dep t ≤ 6 ∧ fr t = true
def good (e : Trm × Nat) : Prop := e.2 + dep e.1 ≤ 7 ∧ fr e.1 = true
theorem good_iff (t : Trm) (lv : Nat) : good (t, lv) ↔ lv ≤ 6 ∧ form t = true ∧ ∀ u ∈ kids t, good (u, lv + 1) := by
  unfold good
  have h1 := fr_iff t
  have hd := dep_pos t
  constructor
  · rintro ⟨a, b⟩
    obtain ⟨b1, b2⟩ := h1.mp b
    refine ⟨by simp only at a; omega, b1, fun u hu => ⟨?_, b2 u hu⟩⟩
    have := dep_kids hu
    simp only at a ⊢
    omega
  · rintro ⟨a, b, c⟩
    refine ⟨?_, h1.mpr ⟨b, fun u hu => (c u hu).2⟩⟩
    have : dep t ≤ (6 - lv) + 1 := (dep_iff t (6 - lv)).mpr fun u hu => by
      have := (c u hu).1
      simp only at this
      omega
    simp only
    omega
mutual
/-- its shops are below sh, its numbers within mo -/
def inB (sh mo : Int) : Trm → Prop
  | .price s a => (s : Int) < sh ∧ -mo ≤ a ∧ a ≤ mo
  | .plain n => -mo ≤ n ∧ n ≤ mo
  | .node _ ps => inBs sh mo ps
def inBs (sh mo : Int) : List Trm → Prop
  | [] => True
  | t :: ts => inB sh mo t ∧ inBs sh mo ts
end
theorem inBs_iff {sh mo : Int} : ∀ {ts : List Trm}, inBs sh mo ts ↔ ∀ t ∈ ts, inB sh mo t
  | [] => by simp [inBs]
  | a :: ts => by
    simp only [inBs, List.mem_cons, forall_eq_or_imp]
    exact and_congr Iff.rfl inBs_iff
/-- how many terms a term of so many levels has at most, each with at most three parts -/
def cap : Nat → Nat
  | 0 => 0
  | l + 1 => 1 + 3 * cap l
/-- what a law draws -/
structure Gen (sh mo : Int) (l : Nat) (t : Trm) : Prop where
  fr : fr t = true
  dep : dep t ≤ l
  cnt : cnt t ≤ cap l
  inB : inB sh mo t
theorem cnts_le {m : Nat} : ∀ {ts : List Trm}, (∀ t ∈ ts, cnt t ≤ m) → cnts ts ≤ ts.length * m
  | [], _ => by simp [cnts]
  | a :: ts, h => by
    have h1 := h a (by simp)
    have h2 := cnts_le (ts := ts) (m := m) fun t ht => h t (List.mem_cons_of_mem _ ht)
    simp only [cnts, List.length_cons, Nat.succ_mul]
    omega
theorem num_of {mo a : Int} (h1 : -mo ≤ a) (h2 : a ≤ mo) (hm : mo ≤ 10 ^ 30) : num a = true := by
  unfold num
  rw [decide_eq_true (by omega), decide_eq_true (by omega)] <;> rfl
theorem Gen.plain {sh mo a : Int} {l : Nat} (h1 : -mo ≤ a) (h2 : a ≤ mo) (hm : mo ≤ 10 ^ 30) : Gen sh mo (l + 1) (.plain a) :=
  ⟨by simp only [TM.fr, form]; exact num_of h1 h2 hm, by simp [TM.dep], by simp only [TM.cnt, cap]; omega, by simp only [TM.inB]; exact ⟨h1, h2⟩⟩
theorem Gen.price {sh mo a : Int} {s l : Nat} (h0 : (s : Int) < sh) (h6 : sh ≤ 6) (h1 : -mo ≤ a) (h2 : a ≤ mo) (hm : mo ≤ 10 ^ 30) : Gen sh mo (l + 1) (.price s a) :=
  ⟨by
    simp only [TM.fr, form]
    rw [num_of h1 h2 hm, decide_eq_true (by omega), decide_eq_true (by omega)] <;> rfl, by simp [TM.dep], by simp only [TM.cnt, cap]; omega, by simp only [TM.inB]; exact ⟨h0, h1, h2⟩⟩
theorem Gen.node {sh mo : Int} {l : Nat} {h : Hd} {ps : List Trm} (h1 : 1 ≤ ps.length) (h3 : ps.length ≤ 3) (hh : hdOk h ps.length) (hp : ∀ t ∈ ps, Gen sh mo l t) : Gen sh mo (l + 1) (.node h ps) := by
  refine ⟨?_, ?_, ?_, ?_⟩
  · rw [fr_iff]
    refine ⟨?_, fun u hu => (hp u hu).fr⟩
    cases h with
    | least => simp only [form]; rw [decide_eq_true (by omega), decide_eq_true (by omega)] <;> rfl
    | most => simp only [form]; rw [decide_eq_true (by omega), decide_eq_true (by omega)] <;> rfl
    | rank k =>
      simp only [hdOk] at hh
      simp only [form]
      rw [decide_eq_true (by omega), decide_eq_true (by omega), decide_eq_true (by omega), decide_eq_true (by omega)] <;> rfl
  · rw [dep_iff]
    exact fun u hu => (hp u hu).dep
  · have := cnts_le (m := cap l) fun t ht => (hp t ht).cnt
    simp only [TM.cnt, cap]
    have h4 : ps.length * cap l ≤ 3 * cap l := Nat.mul_le_mul_right _ h3
    omega
  · simp only [TM.inB]
    exact inBs_iff.mpr fun u hu => (hp u hu).inB
theorem Gen.okT {sh mo : Int} {l : Nat} {t : Trm} (h : Gen sh mo l t) (hl : l ≤ 4) : okT t := by
  refine ⟨?_, by have := h.dep; omega, h.fr⟩
  have := h.cnt
  have hc : cap l ≤ 40 := by
    match l, hl with
    | 0, _ => decide
    | 1, _ => decide
    | 2, _ => decide
    | 3, _ => decide
    | 4, _ => decide
  omega
theorem cnts_mem : ∀ {ts : List Trm} {t : Trm}, t ∈ ts → cnt t ≤ cnts ts
  | a :: ts, t, h => by
    simp only [cnts]
    rcases List.mem_cons.mp h with rfl | h
    · omega
    · have := cnts_mem h
      omega
end TM

set_option Elab.async false
set_option linter.all false
set_option maxRecDepth 100000
set_option maxHeartbeats 1000000
/-! Terms as texts: codes of what is written. -/
namespace TX
open PySem PySem.Spec PyProof.Rows L2 Evl DK DD TM SX PySem.W
/-- the digits of a number -/
def dg (n : Nat) : List Nat := (Nat.toDigits 10 n).map Char.toNat
theorem str_nat (n : Nat) : Str.ofString (toString ((n : Nat) : Int)) = S (dg n) := by
  rw [← S_tl (Str.ofString (toString ((n : Nat) : Int))), KIN.signs_num]
  rfl
def intc (n : Int) : List Nat := (if n < 0 then [45] else []) ++ dg n.natAbs
theorem str_int (n : Int) : Str.ofString (toString n) = S (intc n) := by
  cases n with
  | ofNat m =>
    have h := str_nat m
    have e : intc (Int.ofNat m) = dg m := by
      unfold intc
      rw [if_neg (by simp)]
      rfl
    rw [e]
    exact h
  | negSucc m =>
    have e : intc (Int.negSucc m) = 45 :: dg (m + 1) := by
      unfold intc
      rw [if_pos (by omega)]
      rfl
    rw [e, Str.ofString_eq_toList]
    show (⟨(("-" ++ Nat.repr (m + 1)).toList.map Char.toNat).toArray⟩ : Str) = _
    rw [String.toList_append, List.map_append, Nat.toList_repr]
    rfl
def addc (a : Int) : List Nat := if a = 0 then [] else [32, (if a < 0 then 45 else 43), 32] ++ dg a.natAbs
def hdc : Hd → List Nat
  | .least => [108, 101, 97, 115, 116]
  | .most => [109, 111, 115, 116]
  | .rank k => [114, 97, 110, 107, 32] ++ dg k
mutual
/-- the text of a term -/
def wrc : Trm → List Nat
  | .price s a => (97 + s) :: addc a
  | .plain n => intc n
  | .node h ps => hdc h ++ ([40] ++ (TL.joinL [44, 32] (wrcs ps) ++ [41]))
def wrcs : List Trm → List (List Nat)
  | [] => []
  | t :: ts => wrc t :: wrcs ts
end
theorem wrcs_map : ∀ ts : List Trm, wrcs ts = ts.map wrc
  | [] => by simp [wrcs]
  | t :: ts => by simp [wrcs, wrcs_map ts]
theorem dg_len {n : Nat} (h : n ≤ 10 ^ 30) : (dg n).length ≤ 31 := by
  unfold dg
  rw [List.length_map]
  exact PyProof.Rows.digits10_le (by decide) (by omega)
theorem joinL_len (s : List Nat) : ∀ ys : List (List Nat), (TL.joinL s ys).length ≤ (ys.map List.length).sum + ys.length * s.length
  | [] => by simp [TL.joinL]
  | [p] => by simp [TL.joinL]
  | p :: q :: r => by
    have := joinL_len s (q :: r)
    simp only [TL.joinL, List.length_append, List.map_cons, List.sum_cons, List.length_cons, Nat.succ_mul] at this ⊢
    omega
theorem num_abs {a : Int} (h : num a = true) : a.natAbs ≤ 10 ^ 30 := by
  simp only [num, Bool.and_eq_true, decide_eq_true_eq] at h
  omega
mutual
theorem wrc_len : ∀ t : Trm, fr t = true → (wrc t).length ≤ 60 * cnt t
  | .price s a, h => by
    simp only [TM.fr, form, Bool.and_eq_true] at h
    have := dg_len (num_abs h.2)
    simp only [wrc, addc, TM.cnt]
    split
    · simp
    · simp only [List.length_cons, List.length_append, List.length_nil]
      omega
  | .plain n, h => by
    simp only [TM.fr, form] at h
    have := dg_len (num_abs h)
    simp only [wrc, intc, TM.cnt]
    split
    · simp only [List.length_cons, List.length_append, List.length_nil]
      omega
    · simp only [List.length_append, List.length_nil]
      omega
  | .node hd ps, h => by
    have hf := (fr_iff (.node hd ps)).mp h
    have kl := form_kids hf.1
    simp only [kids] at kl
    have h2 := wrcs_len ps (TM.frs_iff.mpr hf.2)
    have hj := joinL_len [44, 32] (wrcs ps)
    have hl : (wrcs ps).length = ps.length := by rw [wrcs_map, List.length_map]
    rw [hl] at hj
    have hh : (hdc hd).length ≤ 36 := by
      cases hd with
      | least => decide
      | most => decide
      | rank k =>
        have hk : k ≤ 6 := by
          have := hf.1
          simp only [form, Bool.and_eq_true, decide_eq_true_eq] at this
          omega
        have := dg_len (n := k) (by omega)
        simp only [hdc, List.length_append, List.length_cons, List.length_nil]
        omega
    simp only [wrc, TM.cnt, List.length_append, List.length_cons, List.length_nil] at hj ⊢
    omega
theorem wrcs_len : ∀ ts : List Trm, TM.frs ts = true → ((wrcs ts).map List.length).sum ≤ 60 * cnts ts
  | [], _ => by simp [wrcs, cnts]
  | t :: ts, h => by
    simp only [TM.frs, Bool.and_eq_true] at h
    have h1 := wrc_len t h.1
    have h2 := wrcs_len ts h.2
    simp only [wrcs, cnts, List.map_cons, List.sum_cons]
    omega
end
/-! ### the law's words -/
mutual
def lw : Trm → List (List Nat)
  | .price s a => if a = 0 then [[97 + s]] else [[97 + s], [32], [if a > 0 then 43 else 45], [32], dg a.natAbs]
  | .plain n => (if n < 0 then [[45]] else []) ++ [dg n.natAbs]
  | .node .least ps => [[108, 101, 97, 115, 116], [40]] ++ (lws ps ++ [[41]])
  | .node .most ps => [[109, 111, 115, 116], [40]] ++ (lws ps ++ [[41]])
  | .node (.rank k) ps => [[114, 97, 110, 107], [32], dg k, [40]] ++ (lws ps ++ [[41]])
def lws : List Trm → List (List Nat)
  | [] => []
  | [t] => lw t
  | t :: u :: ts => lw t ++ ([[44], [32]] ++ lws (u :: ts))
end
mutual
theorem lw_flat : ∀ t : Trm, (lw t).flatten = wrc t
  | .price s a => by
    simp only [lw, wrc, addc]
    split
    · simp
    · rename_i h
      have : (if a > 0 then 43 else 45) = (if a < 0 then 45 else 43) := by
        split <;> split <;> omega
      simp [this]
  | .plain n => by
    simp only [lw, wrc, intc]
    split <;> simp
  | .node .least ps => by simp [lw, wrc, hdc, lws_flat ps]
  | .node .most ps => by simp [lw, wrc, hdc, lws_flat ps]
  | .node (.rank k) ps => by simp [lw, wrc, hdc, lws_flat ps]
theorem lws_flat : ∀ ts : List Trm, (lws ts).flatten = TL.joinL [44, 32] (wrcs ts)
  | [] => by simp [lws, wrcs, TL.joinL]
  | [t] => by simp [lws, wrcs, TL.joinL, lw_flat t]
  | t :: u :: ts => by
    have := lws_flat (u :: ts)
    simp only [wrcs] at this
    simp [lws, wrcs, TL.joinL, lw_flat t, this]
end
theorem joinL_nil : ∀ ys : List (List Nat), TL.joinL [] ys = ys.flatten
  | [] => rfl
  | [p] => by simp [TL.joinL]
  | p :: q :: r => by
    have := joinL_nil (q :: r)
    simp only [TL.joinL, this]
    simp
end TX

set_option Elab.async false
set_option linter.all false
set_option maxRecDepth 100000
set_option maxHeartbeats 1000000
/-! A reader of a text: an object with the text and the place. -/
namespace RD
open PySem PySem.Spec PyProof.Rows L2 Evl DK DD TM TX SX PySem.W
/-- all but r is as it was -/
def But (r : Addr) (H H' : Hp) : Prop := ∀ a, a ≠ r → H' a = H a
theorem But.refl (r : Addr) (H : Hp) : But r H H := fun _ _ => rfl
theorem But.trans {r : Addr} {H H1 H2 : Hp} (a : But r H H1) (b : But r H1 H2) : But r H H2 := fun x n => (b x n).trans (a x n)
theorem But.upd {r : Addr} {H : Hp} {o : HO} : But r H (L2.upd H r o) := fun a n => upd_ne n
def flds (cs : List Nat) (n : Nat) : List (Str × V) := [("text", .str (S cs)), ("at", .int (n : Int))]
def rdr (C dx : Addr) (cs : List Nat) (n : Nat) : HO := .ins C dx (flds cs n)
theorem lk_text (cs : List Nat) (n : Nat) : (flds cs n).lookup (Str.ofString "text") = some (.str (S cs)) := by simp [flds, List.lookup]
theorem lk_at (cs : List Nat) (n : Nat) : (flds cs n).lookup (Str.ofString "at") = some (.int (n : Int)) := by
  have z : (Str.ofString "at" == Str.ofString "text") = false := by decide +kernel
  simp [flds, List.lookup, z]
theorem put_at (cs : List Nat) (n : Nat) (m : Int) (k : Nat) (h : m = (k : Int)) : putF (Str.ofString "at") (.int m) (flds cs n) = flds cs k := by
  have z : ¬ (Str.ofString "text" = Str.ofString "at") := by decide +kernel
  subst h
  simp [flds, putF, z]
theorem cut1 {cs : List Nat} {n : Nat} (h : n ≤ cs.length) : cutS (S cs) (some (n : Int)) (some ((n : Int) + 1)) = S ((cs.drop n).take 1) := by
  have e : ((n : Int) + 1) = ((n + 1 : Nat) : Int) := by omega
  unfold cutS
  rw [e, HT.sIx_nat, HT.sIx_nat, S_len]
  show S _ = _
  rw [Nat.min_eq_left h]
  by_cases h1 : n + 1 ≤ cs.length
  · rw [Nat.min_eq_left h1, show n + 1 - n = 1 by omega]
  · have : n = cs.length := by omega
    rw [Nat.min_eq_right (by omega), this, List.drop_length]
    simp
theorem cutN {cs : List Nat} {n k : Nat} (h : n + k ≤ cs.length) : cutS (S cs) (some (n : Int)) (some ((n + k : Nat) : Int)) = S ((cs.drop n).take k) := by
  unfold cutS
  rw [HT.sIx_nat, HT.sIx_nat, S_len]
  show S _ = _
  rw [Nat.min_eq_left h, Nat.min_eq_left (show n ≤ cs.length by omega), show n + k - n = k by omega]
theorem cut0 {cs : List Nat} {k : Nat} : cutS (S cs) none (some (k : Int)) = S (cs.take k) := by
  unfold cutS
  rw [HT.sIx_none, HT.sIx_nat, S_len]
  show S ((cs.drop 0).take (min k cs.length - 0)) = _
  rw [List.drop_zero, Nat.sub_zero]
  by_cases h : k ≤ cs.length
  · rw [Nat.min_eq_left h]
  · rw [Nat.min_eq_right (by omega), List.take_of_length_le (by omega), List.take_of_length_le (by omega)]
/-- how many blanks stand ahead -/
def skip : List Nat → Nat
  | [] => 0
  | c :: cs => if c = 32 then skip cs + 1 else 0
theorem skip_le : ∀ cs : List Nat, skip cs ≤ cs.length
  | [] => by simp [skip]
  | c :: cs => by
    simp only [skip]
    split
    · have := skip_le cs
      simp only [List.length_cons]
      omega
    · simp
theorem skip_take : ∀ (cs : List Nat) (k : Nat), k ≤ skip cs → (((cs.drop k).take 1 = [32]) ↔ k < skip cs)
  | [], k, h => by simp [skip] at h ⊢
  | c :: cs, 0, h => by
    simp only [skip]
    by_cases hc : c = 32 <;> simp [hc]
  | c :: cs, k + 1, h => by
    simp only [skip] at h ⊢
    by_cases hc : c = 32
    · rw [if_pos hc] at h ⊢
      have := skip_take cs k (by omega)
      simp only [List.drop_succ_cons]
      rw [this]
      omega
    · rw [if_neg hc] at h
      omega
section
variable {K : PySem.W.Frag} {σ : L2.St} {H : Hp} {ta tb : TE} {C dx r : Addr} {cs : List Nat} {n : Nat}
theorem ev_fld {fs : List (Str × V)} {f : Str} {v : V} (ha : Ev ta σ H (.ref r)) (ho : H r = some (.ins C dx fs)) (cl : Cls K C) (hn : NoAttr K C f) (hl : fs.lookup f = some v) : Ev (tFld K ta f) σ H v := fun H1 e Q q =>
  ha H1 e _ fun H2 e2 => ⟨r, C, dx, fs, v, rfl, (e.trans e2) _ _ ho, cl, hn, hl, q H2 e2⟩
theorem ev_slS {tl th : TO} {z : List Nat} {lo hi : Option Int} {y : Str} (h : Ev ta σ H (.str (S z))) (h1 : EvO tl σ H lo) (h2 : EvO th σ H hi) (hl : z.length ≤ 100000) (e : cutS (S z) lo hi = y) : Ev (tSl rSlS ta tl th) σ H (.str y) := fun H1 x Q q =>
  h H1 x _ fun H2 x2 => h1 H2 (x.trans x2) _ fun H3 x3 => h2 H3 ((x.trans x2).trans x3) _ fun H4 x4 => ⟨S z, rfl, sz_of (by rw [S_len]; exact hl), by
    rw [e]
    exact q H4 ((x2.trans x3).trans x4)⟩
theorem ev_lenS {y : List Nat} (h : Ev ta σ H (.str (S y))) (hl : y.length ≤ 100000) : Ev (tCB (fun xs H Q => ∃ z, xs = [.str z] ∧ z.length ≤ sizeLine ∧ Q (.int z.length) H) (tCons ta tNil)) σ H (.int (y.length : Int)) := fun H1 x Q q =>
  h H1 x _ fun H2 x2 => ⟨S y, rfl, sz_of (by rw [S_len]; exact hl), by
    rw [S_len]
    exact q H2 x2⟩
theorem ev_inS {c : Nat} {z : List Nat} (ha : Ev ta σ H (.str (S [c]))) (hb : Ev tb σ H (.str (S z))) : Ev (tOp (fun x y H Q => ∃ (c : Nat) (z : Str), x = .str ⟨#[c]⟩ ∧ y = .str z ∧ Q (.bl (decide (c ∈ z.cps.toList))) H) ta tb) σ H (.bl (decide (c ∈ z))) := fun H1 e Q q =>
  ha H1 e _ fun H2 e2 => hb H2 (e.trans e2) _ fun H3 e3 => ⟨c, S z, rfl, rfl, q H3 (e2.trans e3)⟩
theorem ev_ninS {c : Nat} {z : List Nat} (ha : Ev ta σ H (.str (S [c]))) (hb : Ev tb σ H (.str (S z))) : Ev (tOp (fun x y H Q => ∃ (c : Nat) (z : Str), x = .str ⟨#[c]⟩ ∧ y = .str z ∧ Q (.bl (!decide (c ∈ z.cps.toList))) H) ta tb) σ H (.bl (!decide (c ∈ z))) := fun H1 e Q q =>
  ha H1 e _ fun H2 e2 => hb H2 (e.trans e2) _ fun H3 e3 => ⟨c, S z, rfl, rfl, q H3 (e2.trans e3)⟩
end
/-- the signs of al that stand ahead -/
def runL (al : List Nat) : List Nat → Nat
  | [] => 0
  | c :: cs => if c ∈ al then runL al cs + 1 else 0
theorem runL_le (al : List Nat) : ∀ cs : List Nat, runL al cs ≤ cs.length
  | [] => by simp [runL]
  | c :: cs => by
    simp only [runL]
    split
    · have := runL_le al cs
      simp only [List.length_cons]
      omega
    · simp
theorem runL_at (al : List Nat) : ∀ (cs : List Nat) (k c : Nat), k ≤ runL al cs → cs[k]? = some c → (c ∈ al ↔ k < runL al cs)
  | [], k, c, h, e => by simp at e
  | d :: cs, 0, c, h, e => by
    simp at e
    subst e
    simp only [runL]
    by_cases hc : d ∈ al <;> simp [hc]
  | d :: cs, k + 1, c, h, e => by
    simp only [runL] at h ⊢
    by_cases hc : d ∈ al
    · rw [if_pos hc] at h ⊢
      have := runL_at al cs k c (by omega) (by simpa using e)
      rw [this]
      omega
    · rw [if_neg hc] at h
      omega
theorem runL_end (al : List Nat) : ∀ (cs : List Nat), cs.length ≤ runL al cs → runL al cs = cs.length := fun cs h => Nat.le_antisymm (runL_le al cs) h
theorem lk_no {f : Str} (cs : List Nat) (n : Nat) (h1 : (f == Str.ofString "text") = false) (h2 : (f == Str.ofString "at") = false) : (flds cs n).lookup f = none := by simp [flds, List.lookup, h1, h2]
/-! ### words with blanks between them -/
def Lo : List (List Nat) → List Nat → Prop
  | [], l => skip l = l.length
  | w :: ws, l => ∃ l', l.drop (skip l) = w ++ l' ∧ Lo ws l'
theorem skip_drop : ∀ l : List Nat, skip (l.drop (skip l)) = 0
  | [] => rfl
  | c :: l => by
    simp only [skip]
    by_cases h : c = 32
    · rw [if_pos h]
      exact skip_drop l
    · rw [if_neg h]
      simp [skip, h]
theorem lo_skip : ∀ {ts : List (List Nat)} {l : List Nat}, Lo ts l → Lo ts (l.drop (skip l))
  | [], l, h => by
    have h' : skip l = l.length := h
    show skip (l.drop (skip l)) = (l.drop (skip l)).length
    rw [skip_drop, List.length_drop]
    omega
  | w :: ws, l, ⟨l', h1, h2⟩ => ⟨l', by rw [skip_drop, List.drop_zero]; exact h1, h2⟩
/-- what may stand behind a word of signs of al -/
def nx (al : List Nat) : List (List Nat) → Prop
  | [] => True
  | w :: _ => ∃ c w', w = c :: w' ∧ c ∉ al
theorem lo_head {al : List Nat} (h32 : 32 ∉ al) : ∀ {ws : List (List Nat)} {l : List Nat}, Lo ws l → nx al ws → ∀ c l', l = c :: l' → c ∉ al
  | [], l, h, _, c, l', e => by
    subst e
    have h' : skip (c :: l') = (c :: l').length := h
    simp only [skip] at h'
    by_cases hc : c = 32
    · rw [hc]
      exact h32
    · rw [if_neg hc] at h'
      simp at h'
  | w :: ws, l, ⟨l2, h1, _⟩, hn, c, l', e => by
    subst e
    by_cases hc : c = 32
    · rw [hc]
      exact h32
    · obtain ⟨d, w', rfl, hd⟩ := hn
      simp only [skip, if_neg hc, List.drop_zero, List.cons_append, List.cons.injEq] at h1
      rw [h1.1]
      exact hd
theorem runL_app {al : List Nat} : ∀ {w l : List Nat}, (∀ c ∈ w, c ∈ al) → (∀ c l', l = c :: l' → c ∉ al) → runL al (w ++ l) = w.length
  | [], l, _, h2 => by
    cases l with
    | nil => rfl
    | cons c l' =>
      show runL al (c :: l') = 0
      simp only [runL]
      rw [if_neg (h2 c l' rfl)]
  | a :: w, l, h1, h2 => by
    show runL al (a :: (w ++ l)) = w.length + 1
    simp only [runL]
    rw [if_pos (h1 a (by simp)), runL_app (fun c hc => h1 c (by simp [hc])) h2]
theorem lo_run {al : List Nat} {w : List Nat} {ws : List (List Nat)} {l : List Nat} (h : Lo (w :: ws) l) (hw : ∀ c ∈ w, c ∈ al) (h32 : 32 ∉ al) (hn : nx al ws) :
    (l.drop (skip l)).take (runL al (l.drop (skip l))) = w ∧ Lo ws ((l.drop (skip l)).drop w.length) := by
  obtain ⟨l', h1, h2⟩ := h
  rw [h1, runL_app hw (lo_head h32 h2 hn)]
  exact ⟨by simp, by simpa using h2⟩
theorem lo_run0 {al : List Nat} {ws : List (List Nat)} {l : List Nat} (h : Lo ws l) (h32 : 32 ∉ al) (hn : nx al ws) : runL al (l.drop (skip l)) = 0 := by
  have := runL_app (al := al) (w := []) (l := l.drop (skip l)) (by simp) (lo_head h32 (lo_skip h) hn)
  simpa using this
theorem lo_take {c : Nat} {w : List Nat} {ws : List (List Nat)} {l : List Nat} (h : Lo ((c :: w) :: ws) l) : (l.drop (skip l)).take 1 = [c] ∧ skip l < l.length := by
  obtain ⟨l', h1, _⟩ := h
  refine ⟨by rw [h1]; rfl, ?_⟩
  have h2 : (l.drop (skip l)).length = w.length + 1 + l'.length := by
    rw [h1]
    simp only [List.length_append, List.length_cons]
  rw [List.length_drop] at h2
  omega
def letters : List Nat := (List.range 26).map (97 + ·)
def digs : List Nat := (List.range 10).map (48 + ·)
theorem dg_digs (m : Nat) : ∀ c ∈ dg m, c ∈ digs := fun c hc => by
  unfold dg at hc
  obtain ⟨ch, hch, e⟩ := List.mem_map.mp hc
  have r := PyProof.Rows.digit_range (Nat.isDigit_of_mem_toDigits (by decide) (by decide) hch)
  rw [← e]
  unfold digs
  rw [List.mem_map]
  exact ⟨ch.toNat - 48, by rw [List.mem_range]; omega, by omega⟩
theorem dg_ne (m : Nat) : dg m ≠ [] := fun e => by
  have h := PySem.toDigits_len_ge 10 m
  unfold dg at e
  rw [List.map_eq_nil_iff.mp e] at h
  exact absurd h (by decide)
theorem dg_zero {m : Nat} {r : List Nat} (h : dg m = 48 :: r) : m = 0 := by
  induction m using Nat.strongRecOn generalizing r with
  | _ m ih =>
    by_cases h1 : m < 10
    · unfold dg at h
      rw [Nat.toDigits_of_lt_base h1] at h
      simp only [List.map_cons, List.map_nil, List.cons.injEq] at h
      have : ∀ d : Nat, d < 10 → (Nat.digitChar d).toNat = 48 → d = 0 := by decide
      exact this m h1 h.1
    · have hm : m % 10 < 10 := Nat.mod_lt m (by decide)
      have t : Nat.toDigits 10 (m / 10) ++ Nat.toDigits 10 (m % 10) = Nat.toDigits 10 (10 * (m / 10) + m % 10) := Nat.toDigits_append_toDigits (by decide) (by omega) hm
      rw [Nat.div_add_mod] at t
      have h2 : dg m = dg (m / 10) ++ dg (m % 10) := by
        unfold dg
        rw [← t, List.map_append]
      rw [h2] at h
      cases hq : dg (m / 10) with
      | nil => exact absurd hq (dg_ne _)
      | cons c q =>
        rw [hq] at h
        simp only [List.cons_append, List.cons.injEq] at h
        rw [h.1] at hq
        have := ih (m / 10) (by omega) hq
        omega
theorem dg_read {m : Nat} (h : m ≤ 10 ^ 30) : PySem.intText? (S (dg m)) = some (m : Int) := by
  have hl := dg_len h
  have e := PySem.intText_digits (x := S (dg m)) (by
    intro c hc
    have := dg_digs m c hc
    unfold digs at this
    obtain ⟨k, hk, rfl⟩ := List.mem_map.mp this
    rw [List.mem_range] at hk
    exact ⟨by omega, by omega⟩) (dg_ne m) (by rw [S_len]; omega)
  rw [e]
  show some (((PySem.NumText.digitsVal (dg m) : Nat) : Int)) = _
  unfold dg
  rw [KIN.val_back]
end RD

set_option Elab.async false
set_option linter.all false
set_option maxRecDepth 100000
set_option maxHeartbeats 2000000
/-! An error that a clause caught and a name keeps: behind the clause its object is told of. All that the body raises is caught. -/
namespace XC2
open PySem PySem.Spec PyProof.Rows L2 DK
/-- an error's class, as isinstance and the reading of fields ask it -/
structure XC (K : PySem.W.Frag) (C : Addr) : Prop where
  isCls : (PySem.W.clsIn K C).isSome = true
  getA : PySem.W.findIn K (.ref C) "__getattribute__" = .some (.some (.builtin "BaseException.__getattribute__"))
  getB : PySem.W.findIn K (.ref C) "__getattr__" = .some Option.none
  sub : PySem.W.subIn K (.ref C) (.type "BaseException") = .some true
  dict : PySem.W.hasDictIn K C = true
  clsA : PySem.W.findIn K (.ref C) "__class__" = .some (.some (.builtin "object.__class__"))
  clsG : PySem.W.specialIn K (.builtin "object.__class__") "__get__" = .some (.some (.builtin "getset_descriptor.__get__"))
  clsT : PySem.W.takesIn K (.builtin "object.__class__") = .some true
  obj : PySem.W.mroIn K C (.type "object") = .some true
def xcB (K : PySem.W.Frag) (C : Addr) : Bool :=
  [(PySem.W.clsIn K C).isSome, decide (PySem.W.findIn K (.ref C) "__getattribute__" = .some (.some (.builtin "BaseException.__getattribute__"))), decide (PySem.W.findIn K (.ref C) "__getattr__" = .some Option.none),
   decide (PySem.W.subIn K (.ref C) (.type "BaseException") = .some true), PySem.W.hasDictIn K C, decide (PySem.W.findIn K (.ref C) "__class__" = .some (.some (.builtin "object.__class__"))),
   decide (PySem.W.specialIn K (.builtin "object.__class__") "__get__" = .some (.some (.builtin "getset_descriptor.__get__"))), decide (PySem.W.takesIn K (.builtin "object.__class__") = .some true), decide (PySem.W.mroIn K C (.type "object") = .some true)].all id
theorem xcB_ok {K : PySem.W.Frag} {C : Addr} (h : xcB K C = true) : XC K C := by
  simp only [xcB, List.all_cons, List.all_nil, id, Bool.and_eq_true, decide_eq_true_eq] at h
  exact ⟨h.1, h.2.1, h.2.2.1, h.2.2.2.1, h.2.2.2.2.1, h.2.2.2.2.2.1, h.2.2.2.2.2.2.1, h.2.2.2.2.2.2.2.1, h.2.2.2.2.2.2.2.2.1⟩
/-- at a: a caught error of the class cls, its own dict at d or none -/
def ExC (cls : Value) (d : Option Addr) (a : Addr) : HO := .ext fun h => ∃ (oe : Obj) (vs : Array Value), h.get? a = some oe ∧ Zc cls d oe ∧ oe.data = .fields vs
/-- what is known of a caught error, at a, towards the def's entry and what is pinned -/
structure Own (X : Cx) (pins : List (Addr × Obj)) (a : Addr) : Prop where
  loc : a ≠ X.env.locals
  frm : a ∉ X.fs
  new : X.s_0.heap.get? a = none
  pin : ∀ p ∈ X.pn ++ pins, p.1 ≠ a
section
variable {X : Cx} {pins : List (Addr × Obj)} {σ : L2.St} {H : Hp} {s : Shared}
/-- an object of ours is told of from here on -/
theorem track {a : Addr} {oe : Obj} {vs : Array Value} {cls : Value} {d : Option Addr} (I : Inv X pins σ H s) (O : Own X pins a) (na : H a = none) (there : s.heap.get? a = some oe) (z : Zc cls d oe) (data : oe.data = .fields vs) :
    Inv X pins σ (upd H a (ExC cls d a)) s := by
  have old : ∀ {b : Addr} {o : HO}, H b = some o → upd H a (ExC cls d a) b = some o := fun {b o} q => (upd_ne (ne_of_none q na)).trans q
  have away : ∀ {b : Addr}, b ≠ a → H b = none → upd H a (ExC cls d a) b = none := fun {b} hb q => (upd_ne hb).trans q
  have B := I.base
  exact {
    ok := I.ok
    os := I.os
    bare := I.bare
    base := { B with
      free := fun b o q n hx => away (fun e => by rw [e, O.new] at q; cases q) (B.free b o q n hx)
      tups := fun b xs q => old (B.tups b xs q)
      frzs := fun b o u q => old (B.frzs b o u q)
      tbls := fun b ps q => (B.tbls b ps q).elim fun m r => ⟨m, old r⟩ }
    loc := I.loc
    cell := I.cell
    free := away (Ne.symm O.loc) I.free
    freeC := fun x c q => away (fun e => by
      obtain ⟨v, o, ho, hv⟩ := I.cell x c q
      rw [e, there, Option.some.injEq] at ho
      rw [← ho, data] at hv
      cases hv) (I.freeC x c q)
    pin := fun p hp => ⟨(I.pin p hp).1, away (O.pin p hp) (I.pin p hp).2.1, (I.pin p hp).2.2⟩
    hok := HOk.laidN I.hok (fun _ _ q => q) na ⟨⟨oe, vs, there, z, data⟩, ⟨oe, there⟩, fun _ _ w k => w.elim fun o w => w.elim fun v w => ⟨o, v, k o w.1, w.2⟩⟩
    len := I.len }
/-- an error in the air is no frame of ours, was not there at the entry and is not pinned -/
theorem own_of {a : Addr} {B h : Heap} {Z : Obj → Prop} {sI : Shared} (hs : X.stack = X.env :: X.outer) (hf : X.env.frame = some X.env.locals) (hx : X.ex = []) (J : Inv X pins σ H sI)
    (ground : ∀ b o, sI.heap.get? b = some o → b ∉ frs X.stack → B.get? b = some o) (F : HandSPX.FlyingZ B (X.env :: X.outer) a Z h) : Own X pins a := by
  obtain ⟨_, bare, frames, _⟩ := id F
  obtain ⟨oe, vs, at_a, _, flds⟩ := F.there
  have off : a ∉ frs (X.env :: X.outer) := fun hm => (frames.mem hm).elim fun _ w => w.elim fun o w => w.2 vs (by
    have e : oe = o := Option.some.inj (at_a.symm.trans w.1)
    rw [← e]
    exact flds)
  have frL : ∀ {b : Addr}, b = X.env.locals → b ∈ frs (X.env :: X.outer) := fun {b} e => List.mem_filterMap.mpr ⟨X.env, .head _, by rw [hf, e]⟩
  have frO : ∀ {b : Addr}, b ∈ X.fs → b ∈ frs (X.env :: X.outer) := fun {b} hm => (List.mem_filterMap.mp hm).elim fun e w => List.mem_filterMap.mpr ⟨e, .tail _ w.1, w.2⟩
  have split : ∀ {b : Addr}, b ∈ frs X.stack → b = X.env.locals ∨ b ∈ X.fs := fun {b} hm => by
    rw [hs] at hm
    obtain ⟨e, he, q⟩ := List.mem_filterMap.mp hm
    cases he with
    | head => exact .inl (Option.some.inj (q.symm.trans hf))
    | tail _ he => exact .inr (List.mem_filterMap.mpr ⟨e, he, q⟩)
  have gone : ∀ {o : Obj}, sI.heap.get? a = some o → False := fun {o} q => by
    have := ground a o q (by rw [hs]; exact off)
    rw [bare] at this
    cases this
  refine ⟨fun e => off (frL e), fun hm => off (frO hm), ?_, fun p hp e => ?_⟩
  · rcases hq : X.s_0.heap.get? a with _ | o
    · rfl
    · exact (J.base.there a o hq (by rw [hx]; exact List.not_mem_nil)).elim fun _ q => (gone q).elim
  · have P := J.pin p hp
    rw [← e] at gone
    exact gone P.1
end
/-- a try's body, by what is wished of its errors; a clause's suite -/
def Body (X : Cx) (body : List Stmt) (tb : WX → TS) : Prop := ∀ (W : WX) (pn : List (Addr × Obj)) (xe : Value → Shared → Prop), Takes (X.tr pn xe) W → PassesOwn (model X.prog X.w) X.A X.env xe → PSs (X.tr pn xe) body (tb W)
def Suite (X : Cx) (rows : List Stmt) (ts : Addr → Value → Option Addr → TS) : Prop := ∀ (a : Addr) (oe : Obj) (cls : Value) (d : Option Addr) (pn : List (Addr × Obj)), Zc cls d oe → (∃ vs, oe.data = .fields vs) → PSs (X.suite a ((a, oe) :: pn)) rows (ts a cls d)
/-- the ends of a suite, the error's name in slot i gone behind it, the error told of where it goes on -/
def endsK (i : Nat) (a : Addr) (cls : Value) (d : Option Addr) (D : Ends) : Ends where
  nx := fun σ H => D.nx (σ.set i none) (upd H a (ExC cls d a))
  rt := D.rt
  bk := fun σ H => D.bk (σ.set i none) H
  ct := fun σ H => D.ct (σ.set i none) H
/-- what is wished of an error in the body: the clause's class takes it, and the suite goes well -/
def wKept (K : PySem.W.Frag) (c : Value) (i : Nat) (ts : Addr → Value → Option Addr → TS) (D : Ends) : WX := fun cls d σ H =>
  PySem.W.exmOne K cls c = some true ∧ ∀ a, H a = none → ts a cls d (endsK i a cls d D) (σ.set i (some (.ref a))) H
section
variable {X : Cx} {pins : List (Addr × Obj)}
/-- behind the suite -/
theorem suite_end {a : Addr} {oe : Obj} {vs : Array Value} {cls : Value} {d : Option Addr} {n : Str} {i : Nat} {at_ : Pos} (ok : X.Ok) (hN : X.N.Nodup) (hi : X.N[i]? = some n) (hl : X.env.kindOf n = some .local) (O : Own X pins a) (z : Zc cls d oe) (data : oe.data = .fields vs) {D : Ends} {s6 : Shared} :
    ∀ f : Flow, SP (X.suite a ((a, oe) :: (X.pn ++ pins))) [] (endsK i a cls d D) f s6 → wpAny (model X.prog X.w) X.A (do bindName X.env n .none; unbindBehindTheSuite X.env n at_) (fun _ s7 => SP X pins D f s7) X.xe s6 := fun f hsp => by
  have go : ∀ {σ6 : L2.St} {H6 : Hp} {R : Shared → Prop}, Inv (X.suite a ((a, oe) :: (X.pn ++ pins))) [] σ6 H6 s6 → (∀ s7, Inv X pins (σ6.set i none) H6 s7 → Inv X pins (σ6.set i none) (upd H6 a (ExC cls d a)) s7 → R s7) →
      wpAny (model X.prog X.w) X.A (do bindName X.env n .none; unbindBehindTheSuite X.env n at_) (fun _ s7 => R s7) X.xe s6 := fun I k =>
    gone_ok (X := X.suite a ((a, oe) :: (X.pn ++ pins))) I hN hi hl fun s7 I7 => by
      have P := I7.pin (a, oe) (by simp)
      exact k s7 (I7.unsuite ok) (track (I7.unsuite ok) O P.2.1 P.1 z data)
  match f, hsp with
  | .next, ⟨_, _, I, q⟩ => exact go I fun s7 _ T => ⟨_, _, T, q⟩
  | .brk, ⟨_, _, I, q⟩ => exact go I fun s7 T _ => ⟨_, _, T, q⟩
  | .cont, ⟨_, _, I, q⟩ => exact go I fun s7 T _ => ⟨_, _, T, q⟩
  | .ret _, ⟨_, _, _, I, r, q⟩ => exact go I fun s7 T _ => ⟨_, _, _, T, r, q⟩
/-- the clause takes an error of the body -/
theorem clause {x n : Str} {c : Value} {i : Nat} {b₀ : Stmt} {suite : List Stmt} {np p1 : Pos} {ts : Addr → Value → Option Addr → TS} {D : Ends} (hs : X.stack = X.env :: X.outer) (hf : X.env.frame = some X.env.locals) (hN : X.N.Nodup) (hi : X.N[i]? = some n) (hl : X.env.kindOf n = some .local)
    (hg : Gl X x) (hdb : (x == ("__debug__" : Str)) = false) (hm : X.mg x = some c) (hx : X.ex = []) (ok : X.Ok) (hsu : Suite X (b₀ :: suite) ts) {u : Value} {s1 : Shared} {xe : Value → Shared → Prop} (E : XE (X.tr (X.pn ++ pins) xe) (wKept X.K c i ts D) u s1) :
    wpAny (model X.prog X.w) X.A (noteFrame u X.env) (fun _ s₂ => wpAny (model X.prog X.w) X.A (setFlight u none) (fun _ s₃ => wpAny (model X.prog X.w) X.A (handleBy u X.env [.ExceptHandler (some (.Name x np)) (some n) (b₀ :: suite) p1]) (SP X pins D) X.xe s₃) X.xe s₂) X.xe s1 := by
  obtain ⟨a, B, sI, pins', σ', H', cls, d, rfl, J', ground, slots, sky, na, sameOs, gens, takes, well⟩ := E
  have J := J'.ofTry (X := X) ok
  refine Sky.land Zc.steady (ok.frames.trans (congrArg some hs)) hf (hs ▸ sky) fun h3 F3 up3 => ?_
  have at3 : ∀ {h : Heap}, HandSPX.FlyingZ B (X.env :: X.outer) a (Zc cls d) h → s1.heap.UpToSlots h → ∃ oe vs, h.get? a = some oe ∧ Zc cls d oe ∧ oe.data = .fields vs ∧ Inv (X.suite a ((a, oe) :: (X.pn ++ pins))) [] σ' H' { s1 with heap := h } := fun {h} F up => by
    have O := own_of hs hf hx J ground F
    obtain ⟨oe, vs, h1, h2, h3⟩ := F.there
    have I : Inv X pins σ' H' { s1 with heap := h } := J.landed ground F.1 (slots.trans up) sameOs gens
    exact ⟨oe, vs, h1, h2, h3, I.suite h1 h3 na O.loc O.frm⟩
  obtain ⟨oe, vs, g1, g2, g3, I3⟩ := at3 F3 up3
  refine wpAny_handleBy_cons (codeAny_handlers_test ?_) fun q => nomatch q
  refine ld_glob (X := X.suite a ((a, oe) :: (X.pn ++ pins))) I3 hg hm ?_ hdb
  have look : PySem.W.Looks (model X.prog X.w) h3 (typeOf (.ref a)) cls := fun _ _ _ _ keeps q => wpAny_typeOf_ref (keeps _ _ g1) (g2.1.symm ▸ q)
  refine (PySem.W.exm_one (M := model X.prog X.w) I3.kIn look takes).here (codeAny_handlers_suite_as ?_)
  refine HandSPX.lands_againZ F3 fun h4 F4 up4 => ?_
  obtain ⟨oe4, vs4, k1, k2, k3, I4⟩ := at3 F4 (up3.trans up4)
  refine store_ok (X := X.suite a ((a, oe4) :: (X.pn ++ pins))) (v := .ref a) I4 hN hi (.inl hl) rfl (fun s5 I5 => ?_) (.inr hl)
  exact wpAny_mono ((hsu a oe4 cls d (X.pn ++ pins) k2 ⟨_, k3⟩).run [] s5 _ H' _ I5 (well a na)) (fun f s6 hsp => suite_end ok hN hi hl (own_of hs hf hx J ground F4) k2 k3 f hsp) fun _ _ z => z.elim
theorem ps_kept {x n : Str} {c : Value} {i : Nat} {body suite : List Stmt} {b₀ : Stmt} {np p1 p2 : Pos} {tb : WX → TS} {ts : Addr → Value → Option Addr → TS} (hs : X.stack = X.env :: X.outer) (hf : X.env.frame = some X.env.locals) (hN : X.N.Nodup) (hi : X.N[i]? = some n) (hl : X.env.kindOf n = some .local)
    (hg : Gl X x) (hdb : (x == ("__debug__" : Str)) = false) (hm : X.mg x = some c) (hx : X.ex = []) (hb : Body X body tb) (hsu : Suite X (b₀ :: suite) ts) :
    PS X (.Try body [.ExceptHandler (some (.Name x np)) (some n) (b₀ :: suite) p1] [] [] p2) fun D σ H => tb (wKept X.K c i ts D) D σ H := .mk fun pins s σ H D I well => by
  have ok := I.ok
  refine wpAny_Try_except (wpAny_mono ((hb (wKept X.K c i ts D) (X.pn ++ pins) _ (fun u s1 E => clause (np := np) (p1 := p1) hs hf hN hi hl hg hdb hm hx ok hsu E) PassesOwn.looking).run [] s σ H D (I.toTry _) well) (fun f s1 hsp => ?_) fun _ _ q => q)
  match f, hsp with
  | .next, ⟨_, _, T, q⟩ => exact wpAny_execs_nil ⟨_, _, T.ofTry ok, q⟩
  | .brk, ⟨_, _, T, q⟩ => exact ⟨_, _, T.ofTry ok, q⟩
  | .cont, ⟨_, _, T, q⟩ => exact ⟨_, _, T.ofTry ok, q⟩
  | .ret _, ⟨_, _, _, T, r, q⟩ => exact ⟨_, _, _, T.ofTry ok, r, q⟩
end
/-- a kept error with its fields -/
def CxV (H : Hp) (a C : Addr) (fs : List (Str × V)) : Prop :=
  (fs = [] ∧ H a = some (ExC (.ref C) none a)) ∨ ∃ d, H a = some (ExC (.ref C) (some d) a) ∧ H d = some (.xd fs)
theorem CxV.ex {H H' : Hp} {a C : Addr} {fs : List (Str × V)} (h : CxV H a C fs) (e : Evl.Ex H H') : CxV H' a C fs :=
  h.imp (fun w => ⟨w.1, e _ _ w.2⟩) fun w => w.elim fun d w => ⟨d, e _ _ w.1, e _ _ w.2⟩
section
variable {X : Cx} {pins : List (Addr × Obj)} {σ : L2.St} {H : Hp} {s : Shared}
theorem exc_at {cls : Value} {a : Addr} {d : Option Addr} (I : Inv X pins σ H s) (h : H a = some (ExC cls d a)) : ∃ oe, s.heap.get? a = some oe ∧ Zc cls d oe ∧ PySem.W.notCls oe = true := by
  obtain ⟨oe, vs, e, z, data⟩ := (I.hok a _ h).1
  exact ⟨oe, e, z, by simp only [PySem.W.notCls, data]⟩
theorem CxV.inst {a C : Addr} {fs : List (Str × V)} (I : Inv X pins σ H s) (h : CxV H a C fs) : ∃ ox od, PySem.W.InstAt s.heap a ox C od := by
  rcases h with ⟨_, h⟩ | ⟨d, h, hd⟩
  · obtain ⟨oe, e, z, n⟩ := exc_at I h
    exact ⟨oe, none, e, z.1, n, by rw [z.2]; trivial⟩
  · obtain ⟨oe, e, z, n⟩ := exc_at I h
    obtain ⟨mA, ns, _⟩ := show ObjOk X.prog X.w H s.heap d (.xd fs) from I.hok d _ hd
    obtain ⟨od, eo, _⟩ := lookIn_ns ns
    exact ⟨oe, some od, e, z.1, n, by rw [z.2]; exact eo⟩
end
/-- isinstance(error, class) -/
def rIsC (K : PySem.W.Frag) : List V → Hp → VK → Prop := fun xs H Q => ∃ (a C : Addr) (fs : List (Str × V)) (c : V) (cv : Value) (b : Bool),
  xs = [.ref a, c] ∧ CxV H a C fs ∧ XC K C ∧ ClsV c cv ∧ PySem.W.kitOne K (.ref C) cv = some b ∧ Q (.bl b) H
/-- error.n -/
def tXc (K : PySem.W.Frag) (n : Str) (te : TE) : TE := fun σ H Q => te σ H fun x H1 => ∃ (a C : Addr) (fs : List (Str × V)) (v : V),
  x = .ref a ∧ CxV H1 a C fs ∧ XC K C ∧ PySem.W.findIn K (.ref C) n = .some Option.none ∧ fs.lookup n = some v ∧ Q v H1
section
variable {X : Cx}
theorem call_isC : CallR X (.builtin "isinstance") (rIsC X.K) := fun pins s σ H xs us Q I r h => by
  obtain ⟨a, C, fs, c, cv, b, rfl, hv, T, k, e, q⟩ := h
  obtain ⟨_, u2, rfl, rfl, r2⟩ := vals2 r
  obtain ⟨ox, od, J⟩ := hv.inst I
  rw [k.eq r2]
  exact PySem.W.kia_one (PySem.W.kitx_exc T.isCls T.getA T.getB T.sub T.clsA T.clsG T.clsT T.obj) I.kIn J e Value.noConfusion fun tk => ⟨.bl b, H, I.tok tk, rfl, q⟩
theorem pe_xc {e : Expr} {te : TE} {pos : Pos} {n : Str} (he : PE X e te) (hb : attributeBase e n X.env (eval e X.env) = eval e X.env := by rfl) : PE X (.Attribute e n pos) (tXc X.K n te) := .mk fun pins s σ H Q I h =>
  attr_of hb <| thn (he.run pins s σ H _ I h) fun u s1 hh => by
    obtain ⟨_, H1, I1, rx, a, C, fs, v, rfl, hv, T, hno, l, q⟩ := hh
    obtain rfl : u = Value.ref a := rx
    rcases hv with ⟨rfl, _⟩ | ⟨d, h1, h2⟩
    · cases l
    obtain ⟨oe, e1, z, nc⟩ := exc_at I1 h1
    obtain ⟨mA, ns, row⟩ := show ObjOk X.prog X.w H1 s1.heap d (.xd fs) from I1.hok d _ h2
    obtain ⟨od, e2, find⟩ := lookIn_ns ns
    obtain ⟨w, hw, rw_⟩ := RelO.some_of (v := v) (o := mA n) (l ▸ row n)
    have J : PySem.W.InstAt s1.heap a oe C (some od) := ⟨e1, z.1, nc, by rw [z.2]; exact e2⟩
    exact HandSPX.exc_get I1.kIn J T.getA T.getB T.sub (PySem.W.findObj_own T.dict hno rfl ((find n).trans (congrArg some hw))) (handed_of rw_) ⟨v, H1, I1.tok _, rw_, q⟩
end
section
variable {K : PySem.W.Frag} {σ : L2.St} {H : Hp} {ta : TE} {C : Addr}
theorem ev_isC {a : Addr} {fs : List (Str × V)} {cx : V} {cv : Value} {b : Bool} (ha : Evl.Ev ta σ H (.ref a)) (hx : CxV H a C fs) (T : XC K C) (k : ClsV cx cv) (e : PySem.W.kitOne K (.ref C) cv = some b) : Evl.Ev (tCB (rIsC K) (tCons ta (tCons (tC cx) tNil))) σ H (.bl b) := fun H1 e1 Q q =>
  ha H1 e1 _ fun H2 e2 => ⟨a, C, fs, cx, cv, b, rfl, hx.ex (e1.trans e2), T, k, e, q H2 e2⟩
theorem ev_xc {a : Addr} {fs : List (Str × V)} {n : Str} {v : V} (ha : Evl.Ev ta σ H (.ref a)) (hx : CxV H a C fs) (T : XC K C) (hn : PySem.W.findIn K (.ref C) n = .some Option.none) (hl : fs.lookup n = some v) : Evl.Ev (tXc K n ta) σ H v := fun H1 e1 Q q =>
  ha H1 e1 _ fun H2 e2 => ⟨a, C, fs, v, rfl, hx.ex (e1.trans e2), T, hn, hl, q H2 e2⟩
end
end XC2

set_option Elab.async false
set_option linter.all false
set_option maxRecDepth 100000
set_option maxHeartbeats 2000000
/-! Which error is of which kind. -/
namespace XC2
open PySem PySem.Spec PyProof.Rows L2 DK
structure Kit (K : PySem.W.Frag) (L : List Addr) (S : Addr) : Prop where
  ll : ∀ (i j : Nat) (C D : Addr), L[i]? = some C → L[j]? = some D → PySem.W.kitOne K (.ref C) (.ref D) = some (decide (i = j))
  lv : ∀ (i : Nat) (C : Addr), L[i]? = some C → PySem.W.kitOne K (.ref C) (.type "ValueError") = some true
  xc : ∀ (i : Nat) (C : Addr), L[i]? = some C → XC K C
  em : ∀ (i : Nat) (C : Addr), L[i]? = some C → PySem.W.exmOne K (.ref C) (.ref S) = some true
def kitTab (K : PySem.W.Frag) (L : List Addr) (S : Addr) : Bool := (List.range L.length).all fun i => match L[i]? with
  | none => true
  | some C => xcB K C && (decide (PySem.W.exmOne K (.ref C) (.ref S) = some true) && (decide (PySem.W.kitOne K (.ref C) (.type "ValueError") = some true) &&
    (List.range L.length).all fun j => match L[j]? with
      | none => true
      | some D => decide (PySem.W.kitOne K (.ref C) (.ref D) = some (decide (i = j)))))
theorem kit_of_tab {K : PySem.W.Frag} {L : List Addr} {S : Addr} (h : kitTab K L S = true) : Kit K L S := by
  unfold kitTab at h
  have hL : ∀ (i : Nat) (C : Addr), L[i]? = some C → i ∈ List.range L.length := fun i C e => List.mem_range.mpr (List.getElem?_eq_some_iff.mp e).1
  have row : ∀ (i : Nat) (C : Addr), L[i]? = some C → xcB K C = true ∧ PySem.W.exmOne K (.ref C) (.ref S) = some true ∧ PySem.W.kitOne K (.ref C) (.type "ValueError") = some true ∧
      ∀ (j : Nat) (D : Addr), L[j]? = some D → PySem.W.kitOne K (.ref C) (.ref D) = some (decide (i = j)) := fun i C e => by
    have z := List.all_eq_true.mp h i (hL i C e)
    simp only [e, Bool.and_eq_true, decide_eq_true_eq] at z
    obtain ⟨z1, z2, z4, z5⟩ := z
    refine ⟨z1, z2, z4, fun j D e2 => ?_⟩
    have y := List.all_eq_true.mp z5 j (hL j D e2)
    simp only [e2, decide_eq_true_eq] at y
    exact y
  exact ⟨fun i j C D e1 e2 => (row i C e1).2.2.2 j D e2, fun i C e => (row i C e).2.2.1, fun i C e => xcB_ok (row i C e).1, fun i C e => (row i C e).2.1⟩
/-- one def, two promises -/
theorem fn_or {P : Program} {w : World} {K : PySem.W.Frag} {mg : Str → Option Value} {base : Heap} {CX : CXT} {k : Nat} {f : Addr} {fd : FuncData} {ps : List Str} {sp sp' : Sp} (F : FnOk P w K mg base CX k f fd ps sp) (G : FnOk P w K mg base CX k f fd ps sp') :
    FnOk P w K mg base CX k f fd ps (fun vs H Q E => sp vs H Q E ∨ sp' vs H Q E) :=
  ⟨fun vs H Q E h => h.elim (F.len vs H Q E) (G.len vs H Q E), fun A outer s H args us vs Q E hr he hb hv h => h.elim (F.run A outer s H args us vs Q E hr he hb hv) (G.run A outer s H args us vs Q E hr he hb hv)⟩
end XC2

set_option Elab.async false
set_option linter.all false
set_option maxRecDepth 100000
set_option maxHeartbeats 2000000
/-! Loops over texts, list(text), index of a sign in a text. -/
namespace LS
open PySem PySem.Spec PyProof.Rows L2 Evl DK DD SX RD
/-- for c in a text -/
theorem for_str {g : TG} {tb : TS} {D : Ends} {σ : L2.St} {H : Hp} {cs : List Nat} (Pv : Nat → L2.St → Hp → Prop) (h0 : Pv 0 σ H)
    (hs : ∀ i c σ H, cs[i]? = some c → Pv i σ H → g (.str (S [c])) σ H fun σ2 H2 => tb { D with nx := Pv (i + 1), ct := Pv (i + 1), bk := D.nx } σ2 H2) (hd : ∀ σ H, Pv cs.length σ H → D.nx σ H) :
    ∃ W : Nat → Nat → L2.St → Hp → Prop, (∃ m, W 0 m σ H) ∧ ∀ i m σ H, W i m σ H →
      ((Its (S cs)).stop i H ∧ D.nx σ H) ∨ ((Its (S cs)).go i H ∧ ∃ N : L2.St → Hp → Prop, (∀ σ' H', N σ' H' → ∃ m', m' < m ∧ W (i + 1) m' σ' H') ∧ ∀ x H', (Its (S cs)).yld i H x H' → g x σ H' fun σ2 H2 => tb { D with nx := N, ct := N, bk := D.nx } σ2 H2) := by
  have hsz : (S cs).cps.size = cs.length := by simp [S]
  refine ⟨fun i m σ H => m = cs.length - i ∧ i ≤ cs.length ∧ Pv i σ H, ⟨cs.length, by simp, Nat.zero_le _, h0⟩, ?_⟩
  rintro i m σ H ⟨rfl, hi, p⟩
  by_cases hlt : i < cs.length
  · refine .inr ⟨(show i < (S cs).cps.size by omega), Pv (i + 1), fun σ' H' p' => ⟨cs.length - (i + 1), by omega, rfl, hlt, p'⟩, fun x H' y => ?_⟩
    obtain ⟨e, c, hc, rfl⟩ := y
    subst e
    have hc' : cs[i]? = some c := by
      have : (S cs).cps = cs.toArray := rfl
      rw [this] at hc
      simpa using hc
    exact hs i c σ _ hc' p
  · have e : i = cs.length := by omega
    subst e
    exact .inl ⟨(show (S cs).cps.size ≤ cs.length by omega), hd σ H p⟩
section
variable {K : PySem.W.Frag} {M : List Addr} {σ : L2.St} {H : Hp} {ta tb : TE} {D : Ends} {tz tu : TS} {g : TG}
theorem s_forS {cs : List Nat} (h : Ev ta σ H (.str (S cs))) (Pv : Nat → L2.St → Hp → Prop) (h0 : ∀ H1, Ex H H1 → Pv 0 σ H1)
    (hs : ∀ i c σ' H', cs[i]? = some c → Pv i σ' H' → g (.str (S [c])) σ' H' fun σ2 H2 => tu { D with nx := Pv (i + 1), ct := Pv (i + 1), bk := D.nx } σ2 H2) (hd : ∀ σ' H', Pv cs.length σ' H' → D.nx σ' H') : tFor (iStr ta) g tu D σ H :=
  h H (Ex.refl H) _ fun H1 e => ⟨S cs, rfl, for_str Pv (h0 H1 e) hs hd⟩
theorem q_forS {cs : List Nat} (h : Ev ta σ H (.str (S cs))) (Pv : Nat → L2.St → Hp → Prop) (h0 : ∀ H1, Ex H H1 → Pv 0 σ H1)
    (hs : ∀ i c σ' H', cs[i]? = some c → Pv i σ' H' → g (.str (S [c])) σ' H' fun σ2 H2 => tu { D with nx := Pv (i + 1), ct := Pv (i + 1), bk := tz D } σ2 H2) (hd : ∀ σ' H', Pv cs.length σ' H' → tz D σ' H') : tSeq (tFor (iStr ta) g tu) tz D σ H :=
  s_forS (D := { D with nx := tz D }) h Pv h0 hs hd
end
section
variable {σ : L2.St} {H : Hp} {D : Ends} {tz tu : TS} {t : TT}
/-- a statement, a word behind it -/
theorem q_word {t : TS} (W : L2.St → Hp → Prop) (h : ∀ N : L2.St → Hp → Prop, (∀ σ' H', W σ' H' → N σ' H') → t { D with nx := N } σ H) (k : ∀ σ' H', W σ' H' → tz D σ' H') : tSeq t tz D σ H := h (tz D) k
/-- an if without else, a word behind it -/
theorem q_ifW {b : Bool} (W : L2.St → Hp → Prop) (h : EvT t σ H b) (h1 : b = true → ∀ H1, Ex H H1 → ∀ N : L2.St → Hp → Prop, (∀ σ' H', W σ' H' → N σ' H') → tu { D with nx := N } σ H1) (h2 : b = false → ∀ H1, Ex H H1 → W σ H1) (k : ∀ σ' H', W σ' H' → tz D σ' H') :
    tSeq (tIfS t tu tNext) tz D σ H := q_when h (fun hb H1 e => h1 hb H1 e (tz D) k) (fun hb H1 e => k _ _ (h2 hb H1 e))
end
/-- list(text) -/
def rListStr : List V → Hp → VK → Prop := fun xs H Q => ∃ cs : List Nat, xs = [.str (S cs)] ∧ cs.length ≤ 100000 ∧ ∀ l, H l = none → Q (.ref l) (upd H l (.lst (cs.map fun c => V.str (S [c]))))
theorem vals_signs {x : Str} : ∀ (cs : List Nat) (its : List Value), its.length = cs.length → (∀ (i c : Nat), cs[i]? = some c → ∃ t, its[i]? = some (Value.str (S [c]) t)) → Vals (cs.map fun c => V.str (S [c])) its
  | [], [], _, _ => .nil
  | c :: cs, v :: its, hl, h => by
    obtain ⟨t, ht⟩ := h 0 c rfl
    simp at ht
    subst ht
    exact .cons ⟨t, rfl⟩ (vals_signs (x := x) cs its (by simpa using hl) fun i d hd => h (i + 1) d (by simpa using hd))
theorem call_list_strR {X : Cx} (hc : X.calm = true) : CallR X (.type "list") rListStr := by
  intro pins s σ H xs us Q I r h
  obtain ⟨cs, rfl, hl, q⟩ := h
  obtain ⟨u, rfl, rx⟩ := vals1 r
  obtain ⟨t, rfl⟩ := rx
  have hsz : (S cs).cps.size = cs.length := by simp [S]
  refine call_list_str (I.ok.hd hc) (S cs) t (fun h' tk acc c' hk e hi => ?_) (by rw [hsz, sizeLine_eq]; omega)
  have hv : Vals (cs.map fun c => V.str (S [c])) acc.toList := by
    refine vals_signs (x := S cs) cs acc.toList (by rw [Array.length_toList, hi.1, hsz]) fun i c hci => ?_
    have hi' : i < (S cs).cps.size := by
      rw [hsz]
      exact (List.getElem?_eq_some_iff.mp hci).1
    obtain ⟨v, hv⟩ : ∃ v, acc[i]? = some v := ⟨_, Array.getElem?_eq_getElem (by rw [hi.1]; exact hi')⟩
    obtain ⟨c2, u, h1, h2⟩ := hi.2 i v hv
    have h3 : c2 = c := by
      have : (S cs).cps = cs.toArray := rfl
      rw [this] at h1
      have h1' : cs[i]? = some c2 := by simpa using h1
      rw [h1'] at hci
      exact Option.some.inj hci
    subst h3
    exact ⟨u, by rw [h2] at hv; simpa using hv⟩
  refine ⟨.ref s.heap.objs.size, _, I.laid (t' := tk) hk (Nat.le_refl _) (show ObjOk X.prog X.w _ h' _ (.lst (cs.map fun c => V.str (S [c]))) from ⟨by rw [List.length_map, sizeLine_eq]; omega, acc.toList, c', hv, by rw [Array.toArray_toList]; exact e⟩), rfl, q _ (I.hok.fresh (Nat.le_refl _))⟩
theorem el_listS {σ : L2.St} {H : Hp} {ta : TE} {cs : List Nat} (ha : Ev ta σ H (.str (S cs))) (hl : cs.length ≤ 100000) : EvL (tCB rListStr (tCons ta tNil)) σ H (cs.map fun c => V.str (S [c])) := fun H1 e Q q =>
  ha H1 e _ fun H2 e2 => ⟨cs, rfl, hl, fun l hn => q l _ (fresh_back e2 hn) (e2.trans (Ex.new hn)) upd_same⟩
end LS

set_option Elab.async false
set_option linter.all false
set_option maxRecDepth 100000
set_option maxHeartbeats 2000000
/-! More data: == of data one of which is flat, t + u, appended data, slices. -/
namespace DD
open PySem PySem.Spec PyProof.Rows L2 Evl DK
/-- ==, != where one side is not deep -/
def rEqM (K : PySem.W.Frag) : R2 := fun x y H Q => ∃ d e, Dp K H x d ∧ Dp K H y e ∧ d.canLay0 = true ∧ e.canLay0 = true ∧ min d.depth e.depth ≤ 64 ∧ Q (.bl (PyData.eqv d e)) H
def rNeM (K : PySem.W.Frag) : R2 := fun x y H Q => ∃ d e, Dp K H x d ∧ Dp K H y e ∧ d.canLay0 = true ∧ e.canLay0 = true ∧ min d.depth e.depth ≤ 64 ∧ Q (.bl (!PyData.eqv d e)) H
section
variable {X : Cx}
theorem op_eqM (hu : X.A.units + 64 < cLine) : OpR X (compareOp .Eq) (rEqM X.K) := by
  intro pins s σ H x y v u Q I rx ry h
  obtain ⟨d, e, hd, he, sd, se, hm, q⟩ := h
  obtain ⟨as, r1⟩ := Dp.reads I d x v hd rx
  obtain ⟨bs, r2⟩ := Dp.reads I e y u he ry
  exact SeqAt.compareEq_reads r1 r2 sd se (by omega) ⟨.bl _, H, I, rfl, q⟩
theorem op_neM (hu : X.A.units + 64 < cLine) : OpR X (compareOp .NotEq) (rNeM X.K) := by
  intro pins s σ H x y v u Q I rx ry h
  obtain ⟨d, e, hd, he, sd, se, hm, q⟩ := h
  obtain ⟨as, r1⟩ := Dp.reads I d x v hd rx
  obtain ⟨bs, r2⟩ := Dp.reads I e y u he ry
  exact SeqAt.compareNe_reads r1 r2 sd se (by omega) ⟨.bl _, H, I, rfl, q⟩
end
section
variable {K : PySem.W.Frag} {M : List Addr} {σ : L2.St} {H H' : Hp} {te ta tb : TE} {t : TA} {d e : PyData} {ds es : List PyData} {v : V} {D : Ends} {tz : TS} {i : Nat}
theorem ev_eqM (ha : DE K M ta σ H d) (hb : DE K M tb σ H e) (sd : d.canLay0 = true) (se : e.canLay0 = true) (hm : min d.depth e.depth ≤ 64) : Ev (tOp (rEqM K) ta tb) σ H (.bl (PyData.eqv d e)) := fun H1 x Q q =>
  ha H1 x _ fun v1 H2 e2 d1 => hb H2 (x.trans e2) _ fun v2 H3 e3 d2 => ⟨d, e, dm_full (dm_ex e3 d1), dm_full d2, sd, se, hm, q H3 (e2.trans e3)⟩
theorem ev_neM (ha : DE K M ta σ H d) (hb : DE K M tb σ H e) (sd : d.canLay0 = true) (se : e.canLay0 = true) (hm : min d.depth e.depth ≤ 64) : Ev (tOp (rNeM K) ta tb) σ H (.bl (!PyData.eqv d e)) := fun H1 x Q q =>
  ha H1 x _ fun v1 H2 e2 d1 => hb H2 (x.trans e2) _ fun v2 H3 e3 d2 => ⟨d, e, dm_full (dm_ex e3 d1), dm_full d2, sd, se, hm, q H3 (e2.trans e3)⟩
theorem ev_eqD (ha : DE K M ta σ H d) (hb : DE K M tb σ H e) (sd : SeqAt.shaped d = true) (se : SeqAt.shaped e = true) : Ev (tOp (rEqD K) ta tb) σ H (.bl (PyData.eqv d e)) := fun H1 x Q q =>
  ha H1 x _ fun v1 H2 e2 d1 => hb H2 (x.trans e2) _ fun v2 H3 e3 d2 => ⟨d, e, dm_full (dm_ex e3 d1), dm_full d2, sd, se, q H3 (e2.trans e3)⟩
theorem ev_neD (ha : DE K M ta σ H d) (hb : DE K M tb σ H e) (sd : SeqAt.shaped d = true) (se : SeqAt.shaped e = true) : Ev (tOp (rNeD K) ta tb) σ H (.bl (!PyData.eqv d e)) := fun H1 x Q q =>
  ha H1 x _ fun v1 H2 e2 d1 => hb H2 (x.trans e2) _ fun v2 H3 e3 d2 => ⟨d, e, dm_full (dm_ex e3 d1), dm_full d2, sd, se, q H3 (e2.trans e3)⟩
/-- t + u -/
theorem de_catA (hM : Dom M H) (ha : DE K M ta σ H (.tuple ds)) (hb : DE K M tb σ H (.tuple es)) (hl : ds.length + es.length ≤ 100000) : DE K M (tOp (rCatA K) ta tb) σ H (.tuple (ds ++ es)) := fun H1 x Q q =>
  ha H1 x _ fun v1 H2 e2 d1 => hb H2 (x.trans e2) _ fun v2 H3 e3 d2 => by
    have d1' := dm_ex e3 d1
    have e23 := e2.trans e3
    cases d1' with
    | tup hs1 hv1 =>
      cases d2 with
      | tup hs2 hv2 =>
        rename_i a xs b ys
        have l1 := dpa_len hv1
        have l2 := dpa_len hv2
        refine ⟨a, b, xs, ys, rfl, rfl, ex_t (ex_full _ _) hs1, ex_t (ex_full _ _) hs2, sz_of (by omega), fun hx => ?_, fun hx hy => ?_, fun hx hy p hp => ?_⟩
        · have : ds = [] := by
            rw [hx] at l1
            exact List.length_eq_zero_iff.mp l1.symm
          rw [this] at q
          exact q _ H3 e23 (.tup hs2 hv2)
        · have : es = [] := by
            rw [hy] at l2
            exact List.length_eq_zero_iff.mp l2.symm
          rw [this, List.append_nil] at q
          exact q _ H3 e23 (.tup hs1 hv1)
        · have eX : Ex H3 (upd H3 p (.tup (xs ++ ys))) := Ex.new hp
          exact q _ _ (e23.trans eX) (.tup (st_of (mi_of ((hM.ex (x.trans e23)).nin hp) upd_same)) (dms_ex eX (dpa_app hv1 hv2)))
theorem da_dl2 {es fs : List PyData} (hM : Dom M H) (h1 : DL K M ta σ H es) (h2 : DL K M tb σ H fs) : DL K M (tLst (tCons ta (tCons tb tNil))) σ H [.list es, .list fs] :=
  dl_lst (da_cons (de_dl hM h1) (da_cons (de_dl hM h2) da_nil)) (show 2 ≤ 1000 by decide)
theorem dpa_ints : ∀ {is : List Int} {vs : List V}, DpAll K H vs (is.map PyData.int) → vs = is.map V.int
  | [], _, h => by cases h; rfl
  | i :: is, _, h => by
    cases h with
    | cons h1 h2 =>
      obtain rfl := dpInt h1
      rw [dpa_ints h2]
      rfl
/-- sum of a new list of ints -/
theorem ev_sumL {is : List Int} (h : DL K M te σ H (is.map PyData.int)) : Ev (tCB (rSum K) (tCons te tNil)) σ H (.int is.sum) := fun H1 x Q q =>
  h H1 x _ fun p us H2 n e2 hp hd => ⟨p, is, rfl, sq_of (by rw [hp, dpa_ints (dms_full hd)]), q H2 e2⟩
/-- l.append(e), l tracked at an address of M -/
theorem q_appD {l : Addr} {xs : List V} (hl : H l = some (.lst xs)) (hv : σ[i]? = some (some (.ref l))) (h : DE K M te σ H d) (hz : xs.length < 100000) (k : ∀ v H1, Ex H H1 → Dm K M H1 v d → tz D σ (upd H1 l (.lst (xs ++ [v])))) :
    tSeq (tDrop (tBM K "list" rAppend (tVar i) (tCons te tNil))) tz D σ H :=
  ⟨_, hv, .inl ⟨rfl, _, sq_of hl⟩, h H (Ex.refl H) _ fun v H1 e1 hd => ⟨l, xs, v, rfl, rfl, e1 _ _ hl, sz_lt hz, k v H1 e1 hd⟩⟩
theorem s_appD {l : Addr} {xs : List V} (hl : H l = some (.lst xs)) (hv : σ[i]? = some (some (.ref l))) (h : DE K M te σ H d) (hz : xs.length < 100000) (k : ∀ v H1, Ex H H1 → Dm K M H1 v d → D.nx σ (upd H1 l (.lst (xs ++ [v])))) :
    tDrop (tBM K "list" rAppend (tVar i) (tCons te tNil)) D σ H :=
  ⟨_, hv, .inl ⟨rfl, _, sq_of hl⟩, h H (Ex.refl H) _ fun v H1 e1 hd => ⟨l, xs, v, rfl, rfl, e1 _ _ hl, sz_lt hz, k v H1 e1 hd⟩⟩
theorem ixN_last (n : Nat) : ixN (n + 1) (-1) = some n := by
  unfold ixN
  rw [if_neg (by decide), if_pos (by omega)]
  exact congrArg some (by omega)
/-- l[-1] = e -/
theorem q_setLast {l : Addr} {us' : List V} {vt : V} (hl : H l = some (.lst (us' ++ [vt]))) (hv : σ[i]? = some (some (.ref l))) (h : DE K M te σ H d) (k : ∀ v H1, Ex H H1 → Dm K M H1 v d → tz D σ (upd H1 l (.lst (us' ++ [v])))) :
    tSeq (tAsg te (gSub (tVar i) (tUn (rU fun i => .int (-i)) (tC (.int 1))) rSetL)) tz D σ H :=
  h H (Ex.refl H) _ fun v H1 e1 hd => ⟨_, hv, 1, rfl, l, us' ++ [vt], -1, us'.length, rfl, rfl, e1 _ _ hl, by rw [List.length_append, List.length_singleton]; exact ixN_last _, by
    have e : (us' ++ [vt]).set us'.length v = us' ++ [v] := by simp
    rw [e]
    exact k v H1 e1 hd⟩
theorem dl_list {a : Addr} {vs : List V} (hM : Dom M H) (ha : Ev ta σ H (.ref a)) (h : H a = some (.lst vs)) (hd : Dms K (a :: M) H vs ds) {lo hi : Option Int} {tl th : TO} (h1 : EvO tl σ H lo) (h2 : EvO th σ H hi) {es : List PyData} {ws : List V} (hc : cutV vs lo hi = ws) (hw : Dms K (a :: M) H ws es) :
    DL K M (tSl (rSlL K) ta tl th) σ H es := fun H1 x Q q =>
  ha H1 x _ fun H2 e2 => h1 H2 (x.trans e2) _ fun H3 e3 => h2 H3 ((x.trans e2).trans e3) _ fun H4 e4 => by
    have e24 := (e2.trans e3).trans e4
    refine ⟨a, vs, rfl, sq_of ((x.trans e24) _ _ h), fun p hp => ?_⟩
    rw [hc]
    have eX : Ex H4 (upd H4 p (.lst ws)) := Ex.new hp
    exact q p ws _ (fresh_back e24 hp) (e24.trans eX) upd_same (dms_ex eX (dms_add hp (dms_less (dms_ex (x.trans e24) hw))))
end
end DD

set_option Elab.async false
set_option linter.all false
set_option maxRecDepth 100000
set_option maxHeartbeats 4000000
namespace TM
open PySem PySem.Spec PyProof.Rows L2 DK DD
mutual
theorem lay_enc : ∀ t : Trm, PyData.canLay0 (enc t) = true ∧ (enc t).depth ≤ 2 * dep t
  | .price s a => by
    simp only [enc, PyData.canLay0, PyData.canLayAll0, PyData.depth, PyData.depthAll, TM.dep]
    exact ⟨by decide +kernel, by decide⟩
  | .plain n => by
    simp only [enc, PyData.canLay0, PyData.canLayAll0, PyData.depth, PyData.depthAll, TM.dep]
    exact ⟨by decide +kernel, by decide⟩
  | .node .least ps => by
    obtain ⟨h1, h2⟩ := lay_encs ps
    simp only [enc, PyData.canLay0, PyData.canLayAll0, PyData.depth, PyData.depthAll, TM.dep, h1]
    exact ⟨by decide +kernel, by omega⟩
  | .node .most ps => by
    obtain ⟨h1, h2⟩ := lay_encs ps
    simp only [enc, PyData.canLay0, PyData.canLayAll0, PyData.depth, PyData.depthAll, TM.dep, h1]
    exact ⟨by decide +kernel, by omega⟩
  | .node (.rank k) ps => by
    obtain ⟨h1, h2⟩ := lay_encs ps
    simp only [enc, PyData.canLay0, PyData.canLayAll0, PyData.depth, PyData.depthAll, TM.dep, h1]
    exact ⟨by decide +kernel, by omega⟩
theorem lay_encs : ∀ ts : List Trm, PyData.canLayAll0 (encs ts) = true ∧ PyData.depthAll (encs ts) ≤ 2 * deps ts
  | [] => by simp [encs, PyData.canLayAll0, PyData.depthAll]
  | t :: ts => by
    obtain ⟨h1, h2⟩ := lay_enc t
    obtain ⟨h3, h4⟩ := lay_encs ts
    simp only [encs, PyData.canLayAll0, PyData.depthAll, h1, h3, deps]
    exact ⟨rfl, by omega⟩
end
theorem shaped_enc {t : Trm} (h : dep t ≤ 6) : SeqAt.shaped (enc t) = true := by
  obtain ⟨h1, h2⟩ := lay_enc t
  unfold SeqAt.shaped
  rw [h1, decide_eq_true (by omega)]
  rfl
theorem canLay_encs (ps : List Trm) : PyData.canLayAll0 (ps.map enc) = true := by
  rw [← encs_map]
  exact (lay_encs ps).1
end TM

set_option Elab.async false
set_option linter.all false
set_option maxRecDepth 100000
set_option maxHeartbeats 4000000
/-! set(xs), xs a list of ints: a set with its members' places kept, so that sorted() may read it. -/
namespace SE
open PySem PySem.Spec PyProof.Rows L2
section
variable {P : Program} {w : World} {A : Around} {E : Value → Shared → Prop} {s : Shared}
theorem mem_at {items : Array Value} {ns : List Int} (hi : IntsAre items.toList ns) (i : Nat) (v : Value) (e : items[i]? = some v) : ∃ k t, ns[i]? = some k ∧ v = .int k t := by
  have hn : items.size = ns.length := by
    have q := IntsAre.length hi
    rwa [Array.length_toList] at q
  have hlt : i < ns.length := hn ▸ (Array.getElem?_eq_some_iff.mp e).1
  obtain ⟨t, rfl⟩ := IntsAre.int_at hi i v (by rw [Array.getElem?_toList]; exact e)
  exact ⟨ns[i], t, List.getElem?_eq_getElem hlt, by rw [List.getD_eq_getElem?_getD, List.getElem?_eq_getElem hlt] <;> rfl⟩
/-- T(args): made by __new__, then filled by __init__, whose check may read the heap -/
theorem call_type_run {T newId initId : String} {args : List Value} {Q M : Value → Shared → Prop} (ft : TypeCalled T newId initId) (fits : checkTypeCall T ⟨args, []⟩ = pure ())
    (make : codeAny (model P w) A.in1 (.call (.builtin newId) ⟨.type T :: args, []⟩) (wants M E) s)
    (fill : ∀ r t, M r t → t.TypeIs r T ∧ codeAny (model P w) A.in1 (.call (.builtin initId) ⟨r :: args, []⟩) (wants (fun v t' => v = .none ∧ Q r t') E) t) :
    wpAny (model P w) A (call (.type T) args) Q E s := by
  have ⟨c, tl, mro⟩ := ft.mro
  have := ft.made
  have := ft.sub
  have := ft.notType
  have := ft.canCreate
  refine wpAny_call (codeAny_of_tree (wpAny_pure ⟨Code.quiet_builtin _ (by decide +kernel), codeAny_builtin F.entry_type_call ?_⟩))
  rw [Around.under_plain (weight_type_call_type _ _ _) rfl]
  repeat (any_goals (first | assumption | wp_step))

  refine codeAny_mono make fun q t hq => ?_
  match q, hq with
  | .ok (.ret r), hq =>
    have ⟨hT, run⟩ := fill _ _ hq
    have := ft.init.lookup
    have := ft.init.bind r
    repeat (any_goals (first | assumption | wp_step))

    refine codeAny_mono run fun q2 t2 h2 => ?_
    match q2, h2 with
    | .ok (.ret v), h2 =>
      have ⟨e, fin⟩ := h2
      subst e
      repeat (any_goals (first | assumption | wp_step))
    | .error _, h2 => exact h2
    | .ok .next, h2 => exact h2.elim
    | .ok .brk, h2 => exact h2.elim
    | .ok .cont, h2 => exact h2.elim
  | .error _, hq => exact hq
  | .ok .next, hq => exact hq.elim
  | .ok .brk, hq => exact hq.elim
  | .ok .cont, hq => exact hq.elim
abbrev emptyAt (w : World) : Obj := { cls := .type "set", dict := none, data := .set #[] 0 (.fresh 0 0 (!w.params.followText "set-order")) }
theorem set_of_ints {l : Addr} {items : Array Value} {ns : List Int} {Q : Value → Shared → Prop} (calm : A.handled = none) (hl : s.heap.IsList l items) (hi : IntsAre items.toList ns) (room : ns.length + 1 < scanBound)
    (k : ∀ (h' : Heap) (tk c : Nat), SetR w h' s.heap.objs.size (fun j => decide (j ∈ ns)) c → c ≤ ns.length → (∀ b o, s.heap.get? b = some o → h'.get? b = some o) → Q (.ref s.heap.objs.size) { s with heap := h', toks := tk }) :
    wpAny (model P w) A (call (.type "set") [.ref l]) Q E s := by
  have size : items.size = ns.length := by
    have q := IntsAre.length hi
    rwa [Array.length_toList] at q
  obtain ⟨hp, g, d, tk, os⟩ := s
  refine call_type_run (M := fun r t => r = .ref hp.objs.size ∧ t = { heap := hp.push (emptyAt w), gens := g, drawn := d, toks := tk, os := os }) F.called_set (F.typeCall_set_1 _) (code_set_led1 _ ⟨rfl, rfl⟩) fun r t z => ?_
  obtain ⟨rfl, rfl⟩ := z
  have new : (hp.push (emptyAt w)).get? hp.objs.size = some (emptyAt w) := Heap.get?_push_size _ rfl
  have hT : Shared.TypeIs { heap := hp.push (emptyAt w), gens := g, drawn := d, toks := tk, os := os } (.ref hp.objs.size) "set" := ⟨_, new, rfl⟩
  refine ⟨hT, codeAny_call_builtin F.called_set.init.plain F.entry_set_init (check_set_init_1 hT ?_)⟩
  have old : (hp.push (emptyAt w)).IsList l items := hl.push _
  have h1 := F.sub_list_set
  have h2 := F.sub_list_frozenset
  have h3 : (Value.type "list" == Value.type "dict") = false := by decide
  obtain ⟨⟨_, dd, _, sl⟩, hol, hcl, nl, hdl⟩ := id old
  simp only at hcl hdl
  subst hcl hdl
  have lt : l < hp.objs.size := by
    obtain ⟨o, ho, _⟩ := hl
    exact Heap.lt_size ho
  unfold Builtin.«set.__init__»
  unfold noKeywords Builtin.Frozenset.updateFrom
  generalize ep : pyIter = PI
  wp_walk
  subst ep
  refine wpAny_pyIter_list old (wpAny_bind (wpAny_runValue ?_))
  have lt2 : l ≠ (hp.push (emptyAt w)).objs.size := by
    rw [Heap.size_push]
    exact Nat.ne_of_lt (Nat.lt_succ_of_lt lt)
  have far : hp.objs.size ∉ [(hp.push (emptyAt w)).objs.size, l] := by
    rw [Heap.size_push]
    simp only [List.mem_cons, List.not_mem_nil, or_false, not_or]
    exact ⟨Nat.ne_of_lt (Nat.lt_succ_self _), Nat.ne_of_gt lt⟩
  have W := (Walks.list (prog := P) (w := w) (A := A.in1.in1.in1) (by simp [calm]) (hp.push (emptyAt w)).objs.size l lt2 items).toS
  refine set_update_ints W hp.objs.size far ns size room (mem_at hi) (items.size - 0) 0 _ (by omega) (Nat.zero_le _) ⟨⟨_, Heap.get?_push_size _ rfl, rfl, rfl⟩, old.push _⟩ ⟨0, Nat.le_refl 0, setR_new_at (Heap.get?_push_of_some _ new)⟩ fun t c m hc R => ?_
  have e : t = { heap := t.heap, gens := g, drawn := d, toks := t.toks, os := os } := by
    have e1 := m.gens
    have e2 := m.drawn
    have e3 := m.os
    cases t
    simp only at e1 e2 e3
    subst e1 e2 e3
    rfl
  refine wpAny_pure (wpAny_pure ⟨rfl, ?_⟩)
  rw [e]
  refine k _ _ c R (size ▸ hc) fun b o eb => m.heap b o ?_ (Heap.get?_push_of_some _ (Heap.get?_push_of_some _ eb))
  have lb := Heap.lt_size eb
  simp only [List.mem_cons, List.not_mem_nil, or_false, not_or]
  rw [Heap.size_push]
  exact ⟨Nat.ne_of_lt lb, Nat.ne_of_lt (Nat.lt_succ_of_lt lb)⟩
end
section
variable {X : Cx}
def rSetI (K : PySem.W.Frag) (w : World) : List V → Hp → VK → Prop := fun xs H Q => ∃ (l : Addr) (ns : List Int), xs = [.ref l] ∧ SqL K H l (ns.map V.int) ∧ ns.length < 4000 ∧
  ∀ (p : Addr) (c : Nat), H p = none → c ≤ ns.length → Q (.ref p) (upd H p (SetO w p (fun j => decide (j ∈ ns)) c))
theorem cr_setI (hc : X.calm = true) : CallR X (.type "set") (rSetI X.K X.w) := by
  intro pins s σ H xs us Q I r h
  obtain ⟨l, ns, rfl, hq, hz, q⟩ := h
  obtain ⟨its, rv, hl, _⟩ := I.list hq
  rw [Vals.ref1 r]
  refine set_of_ints (I.ok.hd hc) hl.isList (ns := ns) (by simpa using rv.ints) (by unfold scanBound; omega) fun h' tk c R hcn k => ?_
  exact ⟨.ref _, upd H s.heap.objs.size (SetO X.w s.heap.objs.size (fun j => decide (j ∈ ns)) c), I.laid (t' := tk) k (Nat.le_refl _) (setO_new R), rfl, q _ c (I.hok.fresh (Nat.le_refl _)) hcn⟩
end
end SE

set_option Elab.async false
set_option linter.all false
set_option maxRecDepth 100000
set_option maxHeartbeats 2000000
/-! What a term tells of prices, in what order numbers stand, which shops a term names. -/
theorem _root_.DK.hu1 {k : Nat} {A : PySem.Around} (hr : L2.Room k A) : A.units + 1 < PySem.cLine := by
  have := DK.hu64 hr
  omega
namespace TM
open PySem PySem.Spec PyProof.Rows L2 DK DD
/-- ascending -/
def asc (l : List Int) : List Int := l.mergeSort fun a b => decide (a ≤ b)
theorem asc_perm (l : List Int) : (asc l).Perm l := List.mergeSort_perm l _
theorem asc_len (l : List Int) : (asc l).length = l.length := (asc_perm l).length_eq
theorem asc_pw (l : List Int) : (asc l).Pairwise (· ≤ ·) := by
  have h := List.pairwise_mergeSort (le := fun a b : Int => decide (a ≤ b)) (fun a b c h1 h2 => by simp at h1 h2 ⊢; omega) (fun a b => by simp; omega) l
  exact h.imp fun h => by simpa using h
theorem asc_uni {a b : List Int} (p : a.Perm b) (s : a.Pairwise (· ≤ ·)) : a = asc b :=
  List.Perm.eq_of_pairwise (fun x y _ _ h1 h2 => Int.le_antisymm h1 h2) s (asc_pw b) (p.trans (asc_perm b).symm)
/-- each number once -/
def ded : List Int → List Int
  | [] => []
  | x :: l => if x ∈ ded l then ded l else x :: ded l
theorem mem_ded {i : Int} : ∀ {l : List Int}, i ∈ ded l ↔ i ∈ l
  | [] => by simp [ded]
  | x :: l => by
    have ih := mem_ded (i := i) (l := l)
    rw [ded]
    split
    · rename_i h
      rw [ih, List.mem_cons]
      exact ⟨.inr, fun z => z.elim (fun e => e ▸ mem_ded.mp h) id⟩
    · rw [List.mem_cons, List.mem_cons, ih]
theorem nodup_ded : ∀ l : List Int, (ded l).Nodup
  | [] => by simp [ded]
  | x :: l => by
    rw [ded]
    split
    · exact nodup_ded l
    · exact List.nodup_cons.mpr ⟨by assumption, nodup_ded l⟩
theorem len_ded : ∀ l : List Int, (ded l).length ≤ l.length
  | [] => by simp [ded]
  | x :: l => by
    have := len_ded l
    rw [ded]
    split
    · rw [List.length_cons]; omega
    · rw [List.length_cons, List.length_cons]; omega
/-- ascending, each once -/
def uni (l : List Int) : List Int := asc (ded l)
theorem mem_uni {i : Int} {l : List Int} : i ∈ uni l ↔ i ∈ l := by
  unfold uni
  rw [(asc_perm _).mem_iff, mem_ded]
theorem uni_len (l : List Int) : (uni l).length ≤ l.length := by
  unfold uni
  rw [asc_len]
  exact len_ded l
theorem uni_lt (l : List Int) : (uni l).Pairwise (· < ·) := L2.lt_of_le_nodup _ (asc_pw _) ((asc_perm _).nodup_iff.mpr (nodup_ded l))
theorem lt_uni : ∀ {a b : List Int}, a.Pairwise (· < ·) → b.Pairwise (· < ·) → (∀ i, i ∈ a ↔ i ∈ b) → a = b
  | [], [], _, _, _ => rfl
  | [], y :: b, _, _, h => absurd ((h y).mpr (by simp)) (by simp)
  | x :: a, [], _, _, h => absurd ((h x).mp (by simp)) (by simp)
  | x :: a, y :: b, ha, hb, h => by
    obtain ⟨ha1, ha2⟩ := List.pairwise_cons.mp ha
    obtain ⟨hb1, hb2⟩ := List.pairwise_cons.mp hb
    have e : x = y := by
      have h1 := (h x).mp (by simp)
      have h2 := (h y).mpr (by simp)
      rw [List.mem_cons] at h1 h2
      rcases h1 with h1 | h1
      · exact h1
      · rcases h2 with h2 | h2
        · exact h2.symm
        · have := hb1 x h1
          have := ha1 y h2
          omega
    subst e
    rw [lt_uni ha2 hb2 fun i => ?_]
    have hi := h i
    rw [List.mem_cons, List.mem_cons] at hi
    constructor
    · intro m
      have := ha1 i m
      exact (hi.mp (.inr m)).elim (fun z => by omega) id
    · intro m
      have := hb1 i m
      exact (hi.mpr (.inr m)).elim (fun z => by omega) id
/-- the number that a word takes out of ascending ones -/
def pick (h : Hd) (l : List Int) : Int := match h with
  | .least => l.getD 0 0
  | .most => l.getD (l.length - 1) 0
  | .rank k => l.getD (k - 1) 0
mutual
def val (ps : List Int) : Trm → Int
  | .price s a => ps.getD s 0 + a
  | .plain n => n
  | .node h ts => pick h (asc (vals ps ts))
def vals (ps : List Int) : List Trm → List Int
  | [] => []
  | t :: ts => val ps t :: vals ps ts
end
theorem vals_map (ps : List Int) : ∀ ts : List Trm, vals ps ts = ts.map (val ps)
  | [] => rfl
  | t :: ts => by rw [vals, vals_map ps ts] <;> rfl
mutual
/-- the shops in a term, from left to right -/
def shs : Trm → List Int
  | .price s _ => [(s : Int)]
  | .plain _ => []
  | .node _ ts => shss ts
def shss : List Trm → List Int
  | [] => []
  | t :: ts => shs t ++ shss ts
end
theorem shss_mem {x : Int} : ∀ {ts : List Trm}, x ∈ shss ts ↔ ∃ t ∈ ts, x ∈ shs t
  | [] => by simp [shss]
  | t :: ts => by
    rw [shss, List.mem_append, shss_mem (ts := ts)]
    simp
theorem shss_flat : ∀ ts : List Trm, shss ts = ts.flatMap shs
  | [] => rfl
  | t :: ts => by rw [shss, shss_flat ts] <;> rfl
mutual
theorem shs_len : ∀ t : Trm, (shs t).length ≤ cnt t
  | .price s a => by simp [shs, cnt]
  | .plain n => by simp [shs, cnt]
  | .node h ts => by
    have := shss_len ts
    simp only [shs, cnt]
    omega
theorem shss_len : ∀ ts : List Trm, (shss ts).length ≤ cnts ts
  | [] => by simp [shss, cnts]
  | t :: ts => by
    have h1 := shs_len t
    have h2 := shss_len ts
    simp only [shss, cnts, List.length_append]
    omega
end
mutual
theorem shs_in {sh mo : Int} : ∀ {t : Trm}, inB sh mo t → ∀ x ∈ shs t, x < sh
  | .price s a, h, x, hx => by
    simp only [shs, List.mem_singleton] at hx
    subst hx
    exact h.1
  | .plain n, _, x, hx => by simp [shs] at hx
  | .node _ ts, h, x, hx => shss_in (ts := ts) h x hx
theorem shss_in {sh mo : Int} : ∀ {ts : List Trm}, inBs sh mo ts → ∀ x ∈ shss ts, x < sh
  | [], _, x, hx => by simp [shss] at hx
  | t :: ts, h, x, hx => by
    rw [shss, List.mem_append] at hx
    rcases hx with hx | hx
    · exact shs_in (t := t) h.1 x hx
    · exact shss_in (ts := ts) h.2 x hx
end
section
variable {K : PySem.W.Frag} {M : List Addr} {σ : L2.St} {H : Hp} {te : TE}
theorem ev_ixNewL {ta tb : TE} {xs : List V} {i : Int} {v : V} (ha : Evl.EvL ta σ H xs) (hb : Evl.Ev tb σ H (.int i)) (h : atI xs i = some v) : Evl.Ev (tOp (rIxL K) ta tb) σ H v := fun H1 e Q q =>
  ha H1 e _ fun p H2 _ e2 hp => hb H2 (e.trans e2) _ fun H3 e3 => ⟨p, xs, i, v, rfl, rfl, Evl.sq_of (e3 _ _ hp), h, q H3 (e2.trans e3)⟩
theorem dp_ints : ∀ is : List Int, DpAll K H (is.map V.int) (is.map PyData.int)
  | [] => .nil
  | i :: is => .cons (.int i) (dp_ints is)
/-- sorted(xs), xs a new list of ints -/
theorem dl_asc {is : List Int} (h : DL K M te σ H (is.map PyData.int)) (hl : is.length < 64) : DL K M (tCB (rSorted K) (tCons te tNil)) σ H ((asc is).map PyData.int) := fun H1 x Q q =>
  h H1 x _ fun p vs H2 n e hp hd => by
    obtain rfl := dpa_ints hd
    refine ⟨p, is, rfl, Evl.sq_of hp, hl, fun ns' r hperm hpw hr => ?_⟩
    obtain rfl := asc_uni hperm hpw
    exact q r _ _ (by
      cases hz : H1 r with
      | none => rfl
      | some o => rw [e _ _ hz] at hr; cases hr) (e.trans (Evl.Ex.new hr)) upd_same (dp_ints _)
/-- sorted(set(xs)), xs a new list of ints -/
theorem dl_uni {w : World} {is : List Int} (h : DL K M te σ H (is.map PyData.int)) (hl : is.length < 64) : DL K M (tCB (rSortedSet w) (tCons (tCB (SE.rSetI K w) (tCons te tNil)) tNil)) σ H ((uni is).map PyData.int) := fun H1 x Q q =>
  h H1 x _ fun p vs H2 n e hp hd => by
    obtain rfl := dpa_ints hd
    refine ⟨p, is, rfl, Evl.sq_of hp, by omega, fun a c na hc => ?_⟩
    refine ⟨a, _, c, rfl, upd_same, by omega, fun ns r hpw hm hlen hr => ?_⟩
    obtain rfl : ns = uni is := lt_uni hpw (uni_lt is) fun i => by
      rw [hm, mem_uni]
      simp
    exact q r _ _ (by
      cases hz : H1 r with
      | none => rfl
      | some o =>
        have := Evl.Ex.new (o := SetO w a (fun j => decide (j ∈ is)) c) na _ _ (e _ _ hz)
        rw [this] at hr
        cases hr) ((e.trans (Evl.Ex.new na)).trans (Evl.Ex.new hr)) upd_same (dp_ints _)
theorem dpa_bools : ∀ {bs : List Bool} {vs : List V}, DpAll K H vs (bs.map PyData.bool) → vs = bs.map V.bl
  | [], _, h => by cases h; rfl
  | b :: bs, _, h => by
    cases h with
    | cons h1 h2 =>
      cases h1
      rw [dpa_bools h2] <;> rfl
def isLst : PyData → Bool
  | .list _ => true
  | _ => false
theorem kit_list (d : PyData) : kitB (tyN d) "list" = some (isLst d) := by cases d <;> (simp only [tyN, isLst]; decide +kernel)
/-- all(xs), xs a new list of booleans -/
theorem ev_allL {bs : List Bool} (h : DL K M te σ H (bs.map PyData.bool)) : Evl.Ev (tCB (rAll K) (tCons te tNil)) σ H (.bl (bs.all id)) := fun H1 x Q q =>
  h H1 x _ fun p vs H2 n e hp hd => by
    obtain rfl := dpa_bools hd
    exact ⟨p, bs, rfl, Evl.sq_of hp, q H2 e⟩
end
end TM
namespace TM
open PySem PySem.Spec PyProof.Rows L2 DK DD
section
variable {K : PySem.W.Frag} {M : List Addr} {σ : L2.St} {H : Hp} {te : TE}
/-- [e for x in xs], xs a list of (l.map enc) -/
theorem dl_lcL {α : Type} {l : List α} {enc f : α → PyData} {tl : TE} {j : Nat} {ws : List Nat} (hM : Dom M H) (h : DE K M tl σ H (.list (l.map enc))) (hl : l.length ≤ 1000) (hw : ∀ x, wipe ((wipe σ ws).set j (some x)) ws = wipe σ ws)
    (he : ∀ a ∈ l, ∀ x H1 D, H D = none → Evl.Ex H H1 → Dom (D :: M) H1 → Dm K (D :: M) H1 x (enc a) → DE K (D :: M) te ((wipe σ ws).set j (some x)) H1 (f a)) : DL K M (tLc (iList K tl) (gName j) tYes te ws) σ H (l.map f) := fun H0 x0 Q q => h H0 x0 _ fun v H1 x1 hd => by
  have hd' := hd
  cases hd' with
  | lst hs hv =>
  rename_i a xs
  have sq : ∀ H', Evl.Ex H1 H' → SqL K H' a xs := fun H' e => Evl.ex_l e (Evl.ex_l (ex_full _ _) hs)
  refine ⟨a, rfl, ⟨xs, sq _ (Evl.Ex.refl _)⟩, fun Dl hD => ?_⟩
  have h0 : H0 Dl = none := Evl.fresh_back x1 hD
  have hx : xs.length = l.length := by rw [dpa_len hv, List.length_map]
  refine lc_list (xs := xs) (fun i H' => Evl.Ex H1 H' ∧ ∃ acc, H' Dl = some (.lst acc) ∧ Dms K (Dl :: M) H' acc ((l.take i).map f)) ⟨Evl.Ex.new hD, [], upd_same, .nil⟩ (fun i H' _ p => sq _ p.1) (fun i y H' hy p => ⟨hw y, ?_⟩) (fun H' p => ?_)
  · obtain ⟨p1, acc, p2, p3⟩ := p
    obtain ⟨ey, hey, dy⟩ := dpa_get' hv hy
    obtain ⟨la, hla, rfl⟩ : ∃ la, l[i]? = some la ∧ enc la = ey := by
      rw [List.getElem?_map] at hey
      cases z : l[i]? with
      | none => rw [z] at hey; cases hey
      | some la => rw [z] at hey; exact ⟨la, rfl, Option.some.inj hey⟩
    have hdom : Dom (Dl :: M) H' := ((hM.ex (x0.trans x1)).ex p1).cons (by rw [p2]; exact fun z => nomatch z)
    refine he la (List.mem_of_getElem? hla) y H' Dl (Evl.fresh_back x0 h0) ((x0.trans x1).trans p1) hdom (dm_ex p1 (dm_add hD dy)) H' (Evl.Ex.refl _) _ fun w H2 x2 hw2 => ?_
    have eM : ExM (Dl :: M) H2 (upd H2 Dl (.lst (acc ++ [w]))) := ExM.mut (by simp)
    refine ⟨acc, x2 _ _ p2, Evl.sz_lt (by have := dpa_len p3; rw [List.length_map, List.length_take] at this; omega), (p1.trans x2).mut hD, acc ++ [w], upd_same, ?_⟩
    rw [List.take_add_one, hla, List.map_append]
    exact dpa_app (dms_exM eM (dms_ex x2 p3)) (.cons (dm_exM eM hw2) .nil)
  · obtain ⟨p1, acc, p2, p3⟩ := p
    rw [hx, List.take_length] at p3
    exact q Dl acc H' h0 (x1.trans p1) p2 p3
/-- [y for x in t for y in e], t a tuple of (l.map enc), e a list of (f x) -/
theorem dl_lc2 {α : Type} {l : List α} {enc : α → PyData} {f : α → List PyData} {tl te1 : TE} {j i1 : Nat} {ws ws1 : List Nat} (hM : Dom M H) (h : DE K M tl σ H (.tuple (l.map enc))) (tot : (l.flatMap f).length ≤ 1000) (hw : ∀ x, wipe ((wipe σ ws).set j (some x)) ws = wipe σ ws)
    (hw1 : ∀ x y, wipe ((wipe ((wipe σ ws).set j (some x)) ws1).set i1 (some y)) ws1 = wipe ((wipe σ ws).set j (some x)) ws1) (hy : ∀ x y, ((wipe ((wipe σ ws).set j (some x)) ws1).set i1 (some y))[i1]? = some (some y))
    (he : ∀ a ∈ l, ∀ x H1 D, H D = none → Evl.Ex H H1 → Dom (D :: M) H1 → Dm K (D :: M) H1 x (enc a) → DE K (D :: M) te1 ((wipe σ ws).set j (some x)) H1 (.list (f a))) :
    DL K M (tLc2 (iTup K tl) (gName j) tYes (iList K te1) (gName i1) tYes (tVar i1) ws ws1) σ H (l.flatMap f) := fun H0 x0 Q q => h H0 x0 _ fun v H1 x1 hd => by
  have hd' := hd
  cases hd' with
  | tup hs hv =>
  rename_i a xs
  have sq : ∀ H', Evl.Ex H1 H' → SqT K H' a xs := fun H' e => Evl.ex_t e (Evl.ex_t (ex_full _ _) hs)
  refine ⟨a, rfl, ⟨xs, sq _ (Evl.Ex.refl _)⟩, fun Dl hD => ?_⟩
  have h0 : H0 Dl = none := Evl.fresh_back x1 hD
  have hx : xs.length = l.length := by rw [dpa_len hv, List.length_map]
  let S : Nat → Hp → Prop := fun i H' => i ≤ xs.length ∧ Evl.Ex H1 H' ∧ ∃ acc, H' Dl = some (.lst acc) ∧ Dms K (Dl :: M) H' acc ((l.take i).flatMap f)
  refine ⟨fun i m H' => m = xs.length - i ∧ S i H', ⟨_, rfl, Nat.zero_le _, Evl.Ex.new hD, [], upd_same, .nil⟩, ?_⟩
  rintro i m H' ⟨rfl, hi, p1, acc, p2, p3⟩
  by_cases hlt : i < xs.length
  · refine .inr ⟨⟨xs, xs[i], sq _ p1, by simp [hlt]⟩, S (i + 1), fun H' p' => ⟨xs.length - (i + 1), by omega, rfl, p'⟩, fun x H2 z => ?_⟩
    obtain ⟨rfl, z⟩ := z
    obtain ⟨ey, hey, dy⟩ := dpa_get' hv (z xs (sq _ p1))
    obtain ⟨la, hla, rfl⟩ : ∃ la, l[i]? = some la ∧ enc la = ey := by
      rw [List.getElem?_map] at hey
      cases z : l[i]? with
      | none => rw [z] at hey; cases hey
      | some la => rw [z] at hey; exact ⟨la, rfl, Option.some.inj hey⟩
    have hdom : Dom (Dl :: M) H2 := ((hM.ex (x0.trans x1)).ex p1).cons (by rw [p2]; exact fun z => nomatch z)
    refine ⟨hw x, ?_⟩
    refine he la (List.mem_of_getElem? hla) x H2 Dl (Evl.fresh_back x0 h0) ((x0.trans x1).trans p1) hdom (dm_ex p1 (dm_add hD dy)) H2 (Evl.Ex.refl _) _ fun w H4 x4 hw4 => ?_
    cases hw4 with
    | lst hs1 hv1 =>
    rename_i a1 ys
    refine ⟨a1, rfl, ⟨ys, Evl.ex_l (ex_full _ _) hs1⟩, ?_⟩
    have take1 : (l.take (i + 1)).flatMap f = (l.take i).flatMap f ++ f la := by
      rw [List.take_add_one, hla, List.flatMap_append]
      simp
    have part : ((l.take (i + 1)).flatMap f).length ≤ (l.flatMap f).length := by
      have := congrArg List.length (congrArg (List.flatMap f) (List.take_append_drop (i + 1) l))
      rw [List.flatMap_append, List.length_append] at this
      omega
    have hyl : ys.length = (f la).length := dpa_len hv1
    let U : Nat → Hp → Prop := fun k H' => k ≤ ys.length ∧ Evl.Ex H1 H' ∧ SqL K (mi H' (Dl :: M)) a1 ys ∧ Dms K (Dl :: M) H' ys (f la) ∧ ∃ acc, H' Dl = some (.lst acc) ∧ Dms K (Dl :: M) H' acc ((l.take i).flatMap f ++ (f la).take k)
    refine ⟨fun k m H' => m = ys.length - k ∧ U k H', ⟨_, rfl, Nat.zero_le _, p1.trans x4, hs1, hv1, acc, x4 _ _ p2, by simpa using dms_ex x4 p3⟩, ?_⟩
    rintro k m H5 ⟨rfl, hk, u1, u2, u3, acc, u4, u5⟩
    have sq5 := Evl.ex_l (ex_full _ _) u2
    by_cases hlt1 : k < ys.length
    · refine .inr ⟨⟨ys, ys[k], sq5, by simp [hlt1]⟩, U (k + 1), fun H' p' => ⟨ys.length - (k + 1), by omega, rfl, p'⟩, fun y H6 z => ?_⟩
      obtain ⟨rfl, z⟩ := z
      have z := z ys sq5
      refine ⟨hw1 x y, ?_⟩
      simp only [tYes, ↓reduceIte]
      refine Evl.ev_var (hy x y) H6 (Evl.Ex.refl _) _ fun H7 x7 => ?_
      obtain ⟨ed, hed, dd⟩ := dpa_get' u3 z
      have eM : ExM (Dl :: M) H7 (upd H7 Dl (.lst (acc ++ [y]))) := ExM.mut (by simp)
      have e57 := ex_mi (M := Dl :: M) x7
      refine ⟨acc, x7 _ _ u4, Evl.sz_lt ?_, by omega, (u1.trans x7).mut hD, Evl.ex_l (exM_mi eM) (Evl.ex_l e57 u2), dms_exM eM (dms_ex x7 u3), acc ++ [y], upd_same, ?_⟩
      · have := dpa_len u5
        rw [List.length_append, List.length_take] at this
        rw [take1, List.length_append] at part
        omega
      · rw [List.take_add_one, hed, ← List.append_assoc]
        exact dpa_app (dms_exM eM (dms_ex x7 u5)) (.cons (dm_exM eM (dm_ex x7 dd)) .nil)
    · have e : k = ys.length := by omega
      subst e
      refine .inl ⟨⟨ys, sq5, Nat.le_refl _⟩, by omega, u1, acc, u4, ?_⟩
      rw [take1]
      rw [hyl, List.take_length] at u5
      exact u5
  · have e : i = xs.length := by omega
    subst e
    rw [hx, List.take_length] at p3
    exact .inl ⟨⟨xs, sq _ p1, Nat.le_refl _⟩, q Dl acc H' h0 (x1.trans p1) p2 p3⟩
/-- list(xs), tuple or list: a new list of the same -/
theorem dl_copy {ds : List PyData} (h : DE K M te σ H (.list ds)) : DL K M (tCB (fun xs H Q => ∃ p ys, xs = [.ref p] ∧ (SqL K H p ys ∨ SqT K H p ys) ∧ ∀ l, H l = none → Q (.ref l) (upd H l (.lst ys))) (tCons te tNil)) σ H ds := fun H1 x Q q =>
  h H1 x _ fun v H2 x2 hd => by
    cases hd with
    | lst hs hv =>
      exact ⟨_, _, rfl, .inl (Evl.ex_l (ex_full _ _) hs), fun l hl => q l _ _ (Evl.fresh_back x2 hl) (x2.trans (Evl.Ex.new hl)) upd_same (dms_ex (Evl.Ex.new hl) (dms_add hl hv))⟩
/-- tuple(xs), xs a list of ints: a new tuple of the same -/
theorem eu_tuple {is : List Int} (h : DE K M te σ H (.list (is.map PyData.int))) : Evl.EvU (tCB (fun xs H Q => ∃ p ys, xs = [.ref p] ∧ ((SqL K H p ys ∧ ∀ l, H l = none → Q (.ref l) (upd H l (.tup ys))) ∨ (SqT K H p ys ∧ Q (.ref p) H))) (tCons te tNil)) σ H (is.map V.int) := fun H1 x Q q =>
  h H1 x _ fun v H2 x2 hd => by
    cases hd with
    | lst hs hv =>
      obtain rfl := dpa_ints hv
      exact ⟨_, _, rfl, .inl ⟨Evl.ex_l (ex_full _ _) hs, fun l hl => q l _ (Evl.fresh_back x2 hl) (x2.trans (Evl.Ex.new hl)) upd_same⟩⟩
/-! ### dicts with tuples of ints as keys -/
def ky (is : List Int) : List L2.Key := is.map Sum.inl
theorem ky_kV (is : List Int) : (ky is).map kV = is.map V.int := by
  unfold ky
  rw [List.map_map]
  rfl
theorem ky_inj {a b : List Int} (h : ky a = ky b) : a = b := by
  have := congrArg (List.map fun k : L2.Key => match k with | .inl i => i | .inr _ => 0) h
  unfold ky at this
  rw [List.map_map, List.map_map] at this
  simpa [Function.comp_def] using this
theorem ev_dnotin {d : Addr} {kvs : List (List L2.Key × V)} {is : List Int} {i : Nat} (hd : H d = some (.dT kvs)) (hi : σ[i]? = some (some (.ref d))) (ht : Evl.EvU te σ H (is.map V.int)) : Evl.Ev (tDNotIn te (tVar i)) σ H (.bl (!(valV kvs (ky is)).isSome)) := fun H1 e1 Q q =>
  ht H1 e1 _ fun p H2 n2 e2 hp => ⟨_, hi, d, _, rfl, DGet.t (e2 _ _ (e1 _ _ hd)) (by rw [ky_kV]; exact hp), q H2 e2⟩
theorem ev_din {d : Addr} {kvs : List (List L2.Key × V)} {is : List Int} {i : Nat} (hd : H d = some (.dT kvs)) (hi : σ[i]? = some (some (.ref d))) (ht : Evl.EvU te σ H (is.map V.int)) : Evl.Ev (tDIn te (tVar i)) σ H (.bl (valV kvs (ky is)).isSome) := fun H1 e1 Q q =>
  ht H1 e1 _ fun p H2 n2 e2 hp => ⟨_, hi, d, _, rfl, DGet.t (e2 _ _ (e1 _ _ hd)) (by rw [ky_kV]; exact hp), q H2 e2⟩
theorem ev_dget {d : Addr} {kvs : List (List L2.Key × V)} {is : List Int} {i : Nat} {v : V} (hd : H d = some (.dT kvs)) (hi : σ[i]? = some (some (.ref d))) (ht : Evl.EvU te σ H (is.map V.int)) (hv : valV kvs (ky is) = some v) : Evl.Ev (tDGet (tVar i) te) σ H v := fun H1 e1 Q q =>
  ⟨_, hi, ht H1 e1 _ fun p H2 n2 e2 hp => ⟨d, v, rfl, by rw [← hv]; exact DGet.t (e2 _ _ (e1 _ _ hd)) (by rw [ky_kV]; exact hp), q H2 e2⟩⟩
theorem ev_dlen {d : Addr} {kvs : List (List L2.Key × V)} {i : Nat} (hd : H d = some (.dT kvs)) (hi : σ[i]? = some (some (.ref d))) : Evl.Ev (tCB rLenT (tCons (tVar i) tNil)) σ H (.int (kvs.length : Int)) :=
  Evl.ev_cb (Evl.ea_cons (Evl.ev_var hi) Evl.ea_nil) fun H1 e1 Q q => ⟨d, kvs, rfl, e1 _ _ hd, q H1 (Evl.Ex.refl _)⟩
theorem q_dputT {d : Addr} {kvs : List (List L2.Key × V)} {is : List Int} {i : Nat} {v : V} {tv : TE} {tz : TS} {D : Ends} (hd : H d = some (.dT kvs)) (hz : kvs.length < 100000) (hi : σ[i]? = some (some (.ref d))) (hv : Evl.Ev tv σ H v) (ht : Evl.EvU te σ H (is.map V.int))
    (k : ∀ H1, Evl.Ex H H1 → tz D σ (upd H1 d (.dT (putK kvs (ky is) v)))) : tSeq (sDPut (tVar i) te tv) tz D σ H :=
  hv H (Evl.Ex.refl _) _ fun H1 e1 => ⟨_, hi, ht H1 e1 _ fun p H2 n2 e2 hp => ⟨d, _, rfl, DPut.t (e2 _ _ (e1 _ _ hd)) (by rw [ky_kV]; exact hp) (Evl.sz_lt hz), k _ (e1.trans e2)⟩⟩
/-- the dict of what came, with when -/
def keysD (x : Nat → List Int) (n : Nat) : List (List L2.Key × V) := (List.range n).map fun i => (ky (x i), V.int (i : Int))
/-- when what comes at n came before -/
def bef (x : Nat → List Int) (n : Nat) : Option Nat := (List.range n).find? fun f => decide (x f = x n)
theorem val_keys (x : Nat → List Int) (n : Nat) : valV (keysD x n) (ky (x n)) = (bef x n).map fun f : Nat => V.int (f : Int) := by
  unfold valV keysD bef
  rw [List.find?_map, Option.map_map]
  have : ((fun kv : List L2.Key × V => decide (kv.1 = ky (x n))) ∘ fun i => (ky (x i), V.int (i : Int))) = fun f => decide (x f = x n) := funext fun f => by
    show decide (ky (x f) = ky (x n)) = decide (x f = x n)
    by_cases h : x f = x n
    · rw [h, decide_eq_true rfl, decide_eq_true rfl]
    · rw [decide_eq_false h, decide_eq_false fun z => h (ky_inj z)]
  rw [this]
  rfl
theorem put_keys {x : Nat → List Int} {n : Nat} (h : bef x n = none) : putK (keysD x n) (ky (x n)) (.int (n : Int)) = keysD x (n + 1) := by
  unfold putK
  rw [valV_any, val_keys, h]
  simp [keysD, List.range_succ]
theorem bef_some {x : Nat → List Int} {n f : Nat} (h : bef x n = some f) : f < n ∧ x f = x n := by
  have h1 := List.mem_of_find?_eq_some h
  have h2 := List.find?_some h
  exact ⟨List.mem_range.mp h1, of_decide_eq_true h2⟩
theorem keys_len (x : Nat → List Int) (n : Nat) : (keysD x n).length = n := by
  unfold keysD
  rw [List.length_map, List.length_range]
end
end TM
namespace TM
theorem cap_up (l : Nat) : cap l ≤ cap (l + 1) := by
  show cap l ≤ 1 + 3 * cap l
  omega
theorem Gen.up {sh mo : Int} {l : Nat} {t : Trm} (h : Gen sh mo l t) : Gen sh mo (l + 1) t :=
  ⟨h.fr, Nat.le_succ_of_le h.dep, Nat.le_trans h.cnt (cap_up l), h.inB⟩
theorem Gen.up1 {sh mo : Int} {t : Trm} (h : Gen sh mo 1 t) : ∀ l, Gen sh mo (l + 1) t
  | 0 => h
  | l + 1 => (Gen.up1 h l).up
end TM

set_option Elab.async false
set_option linter.all false
set_option maxRecDepth 100000
set_option maxHeartbeats 4000000
namespace K21
open PySem PySem.Spec PyProof.Rows L2 DK DD TM
def topS (i : Nat) : Stmt := PySem.Challenge.pw_pricespin_k21_orders_played.main.body.getD i (.Pass ⟨0, 0, 0, 0⟩)
abbrev s_is_int : Stmt := topS 13
theorem sc_is_int : FnScope ["value"] ["value"] (defScope s_is_int) := ⟨rfl, rfl, rfl, by decide +kernel, rfl, by decide +kernel, by decide +kernel⟩
abbrev s_is_int_from : Stmt := topS 14
theorem sc_is_int_from : FnScope ["value", "least", "greatest"] ["value", "least", "greatest"] (defScope s_is_int_from) := ⟨rfl, rfl, rfl, by decide +kernel, rfl, by decide +kernel, by decide +kernel⟩
abbrev s_is_number : Stmt := topS 15
theorem sc_is_number : FnScope ["value"] ["value"] (defScope s_is_number) := ⟨rfl, rfl, rfl, by decide +kernel, rfl, by decide +kernel, by decide +kernel⟩
abbrev s_is_int_list : Stmt := topS 16
abbrev N_is_int_list : List Str := ["value", "fewest", "greatest", "item"]
theorem sc_is_int_list : FnScope ["value", "fewest", "greatest", "item"] ["value", "fewest", "greatest"] (defScope s_is_int_list) := ⟨rfl, rfl, rfl, by decide +kernel, rfl, by decide +kernel, by decide +kernel⟩
abbrev s_is_leaf : Stmt := topS 17
theorem sc_is_leaf : FnScope ["term"] ["term"] (defScope s_is_leaf) := ⟨rfl, rfl, rfl, by decide +kernel, rfl, by decide +kernel, by decide +kernel⟩
abbrev s_parts_of : Stmt := topS 18
theorem sc_parts_of : FnScope ["term"] ["term"] (defScope s_parts_of) := ⟨rfl, rfl, rfl, by decide +kernel, rfl, by decide +kernel, by decide +kernel⟩
abbrev s_is_term : Stmt := topS 19
abbrev N_is_term : List Str := ["value", "waiting", "many", "part", "level", "inner"]
theorem sc_is_term : FnScope ["value", "waiting", "many", "part", "level", "inner"] ["value"] (defScope s_is_term) := ⟨rfl, rfl, rfl, by decide +kernel, rfl, by decide +kernel, by decide +kernel⟩
abbrev s_check_term : Stmt := topS 20
theorem sc_check_term : FnScope ["term"] ["term"] (defScope s_check_term) := ⟨rfl, rfl, rfl, by decide +kernel, rfl, by decide +kernel, by decide +kernel⟩
abbrev s_shops_in : Stmt := topS 21
theorem sc_shops_in : FnScope ["term"] ["term"] (defScope s_shops_in) := ⟨rfl, rfl, rfl, by decide +kernel, rfl, by decide +kernel, by decide +kernel⟩
abbrev s_tell : Stmt := topS 22
abbrev N_tell : List Str := ["term", "prices", "word", "ascending", "part"]
theorem sc_tell : FnScope ["term", "prices", "word", "ascending", "part"] ["term", "prices"] (defScope s_tell) := ⟨rfl, rfl, rfl, by decide +kernel, rfl, by decide +kernel, by decide +kernel⟩
abbrev s__has_form : Stmt := topS 23
theorem sc__has_form : FnScope ["term", "word"] ["term"] (defScope s__has_form) := ⟨rfl, rfl, rfl, by decide +kernel, rfl, by decide +kernel, by decide +kernel⟩
abbrev s__are_parts : Stmt := topS 24
theorem sc__are_parts : FnScope ["value"] ["value"] (defScope s__are_parts) := ⟨rfl, rfl, rfl, by decide +kernel, rfl, by decide +kernel, by decide +kernel⟩
abbrev s__all_shops : Stmt := topS 25
abbrev N__all_shops : List Str := ["term", "part", "shop"]
theorem sc__all_shops : FnScope ["term", "part", "shop"] ["term"] (defScope s__all_shops) := ⟨rfl, rfl, rfl, by decide +kernel, rfl, by decide +kernel, by decide +kernel⟩
abbrev s_check_rules : Stmt := topS 28
abbrev N_check_rules : List Str := ["rules", "rule"]
theorem sc_check_rules : FnScope ["rules", "rule"] ["rules"] (defScope s_check_rules) := ⟨rfl, rfl, rfl, by decide +kernel, rfl, by decide +kernel, by decide +kernel⟩
abbrev s_check_market : Stmt := topS 29
theorem sc_check_market : FnScope ["rules", "prices"] ["rules", "prices"] (defScope s_check_market) := ⟨rfl, rfl, rfl, by decide +kernel, rfl, by decide +kernel, by decide +kernel⟩
abbrev s_check_prices : Stmt := topS 30
theorem sc_check_prices : FnScope ["prices", "many"] ["prices", "many"] (defScope s_check_prices) := ⟨rfl, rfl, rfl, by decide +kernel, rfl, by decide +kernel, by decide +kernel⟩
abbrev s_check_order : Stmt := topS 31
abbrev N_check_order : List Str := ["order", "many", "fewest", "shop"]
theorem sc_check_order : FnScope ["order", "many", "fewest", "shop"] ["order", "many", "fewest"] (defScope s_check_order) := ⟨rfl, rfl, rfl, by decide +kernel, rfl, by decide +kernel, by decide +kernel⟩
abbrev s_is_shop : Stmt := topS 32
theorem sc_is_shop : FnScope ["value", "many"] ["value", "many"] (defScope s_is_shop) := ⟨rfl, rfl, rfl, by decide +kernel, rfl, by decide +kernel, by decide +kernel⟩
abbrev s_fits : Stmt := topS 33
abbrev N_fits : List Str := ["term", "many", "shop"]
theorem sc_fits : FnScope ["term", "many", "shop"] ["term", "many"] (defScope s_fits) := ⟨rfl, rfl, rfl, by decide +kernel, rfl, by decide +kernel, by decide +kernel⟩
abbrev s_played : Stmt := topS 36
theorem sc_played : FnScope ["rules", "prices", "order", "present", "reached", "first"] ["rules", "prices", "order"] (defScope s_played) := ⟨rfl, rfl, rfl, by decide +kernel, rfl, by decide +kernel, by decide +kernel⟩
abbrev s__steps : Stmt := topS 37
theorem sc__steps : FnScope ["rules", "prices", "order", "behind", "present", "shop"] ["rules", "prices", "order"] (defScope s__steps) := ⟨rfl, rfl, rfl, by decide +kernel, rfl, by decide +kernel, by decide +kernel⟩
abbrev s__repriced : Stmt := topS 38
theorem sc__repriced : FnScope ["rules", "prices", "shop", "changed"] ["rules", "prices", "shop"] (defScope s__repriced) := ⟨rfl, rfl, rfl, by decide +kernel, rfl, by decide +kernel, by decide +kernel⟩
abbrev s__law_source : Stmt := topS 40
theorem sc__law_source : FnScope ["script", "cells", "k"] ["script"] (defScope s__law_source) := ⟨rfl, rfl, rfl, by decide +kernel, rfl, by decide +kernel, by decide +kernel⟩
abbrev s__law_draw : Stmt := topS 41
theorem sc__law_draw : FnScope ["source", "limit", "cells", "turn", "place", "cell", "number"] ["source", "limit"] (defScope s__law_draw) := ⟨rfl, rfl, rfl, by decide +kernel, rfl, by decide +kernel, by decide +kernel⟩
abbrev s__law_great : Stmt := topS 42
theorem sc__law_great : FnScope ["source", "limit", "total", "k"] ["source", "limit"] (defScope s__law_great) := ⟨rfl, rfl, rfl, by decide +kernel, rfl, by decide +kernel, by decide +kernel⟩
abbrev s__law_add : Stmt := topS 43
theorem sc__law_add : FnScope ["source", "most"] ["source", "most"] (defScope s__law_add) := ⟨rfl, rfl, rfl, by decide +kernel, rfl, by decide +kernel, by decide +kernel⟩
abbrev s__law_end : Stmt := topS 44
theorem sc__law_end : FnScope ["source", "many", "most"] ["source", "many", "most"] (defScope s__law_end) := ⟨rfl, rfl, rfl, by decide +kernel, rfl, by decide +kernel, by decide +kernel⟩
abbrev s__law_term : Stmt := topS 45
abbrev N__law_term : List Str := ["source", "many", "most", "deep", "kind", "parts", "k"]
theorem sc__law_term : FnScope ["source", "many", "most", "deep", "kind", "parts", "k"] ["source", "many", "most", "deep"] (defScope s__law_term) := ⟨rfl, rfl, rfl, by decide +kernel, rfl, by decide +kernel, by decide +kernel⟩
abbrev s__law_bounded : Stmt := topS 46
theorem sc__law_bounded : FnScope ["source", "many", "most", "low", "term"] ["source", "many", "most"] (defScope s__law_bounded) := ⟨rfl, rfl, rfl, by decide +kernel, rfl, by decide +kernel, by decide +kernel⟩
abbrev s__law_rules : Stmt := topS 47
abbrev N__law_rules : List Str := ["source", "most", "many", "k"]
theorem sc__law_rules : FnScope ["source", "most", "many", "k"] ["source", "most"] (defScope s__law_rules) := ⟨rfl, rfl, rfl, by decide +kernel, rfl, by decide +kernel, by decide +kernel⟩
abbrev s__law_value : Stmt := topS 48
abbrev N__law_value : List Str := ["term", "prices", "values", "part"]
theorem sc__law_value : FnScope ["term", "prices", "values", "part"] ["term", "prices"] (defScope s__law_value) := ⟨rfl, rfl, rfl, by decide +kernel, rfl, by decide +kernel, by decide +kernel⟩
abbrev s__law_behind : Stmt := topS 49
theorem sc__law_behind : FnScope ["rules", "prices", "shop", "found"] ["rules", "prices", "shop"] (defScope s__law_behind) := ⟨rfl, rfl, rfl, by decide +kernel, rfl, by decide +kernel, by decide +kernel⟩
abbrev s__law_due : Stmt := topS 50
theorem sc__law_due : FnScope ["rules", "order", "prices", "now", "number", "known", "first", "shop"] ["rules", "order", "prices"] (defScope s__law_due) := ⟨rfl, rfl, rfl, by decide +kernel, rfl, by decide +kernel, by decide +kernel⟩
abbrev s__law_told : Stmt := topS 51
theorem sc__law_told : FnScope ["rules", "order", "prices", "caught", "found", "e"] ["rules", "order", "prices"] (defScope s__law_told) := ⟨rfl, rfl, rfl, by decide +kernel, rfl, by decide +kernel, by decide +kernel⟩
abbrev s_law : Stmt := topS 52
abbrev N_law : List Str := ["script", "source", "turn", "most", "rules", "prices", "order", "kept", "long", "twice", "still", "seven", "swap", "k", "rule"]
theorem sc_law : FnScope ["script", "source", "turn", "most", "rules", "prices", "order", "kept", "long", "twice", "still", "seven", "swap", "k", "rule"] ["script"] (defScope s_law) := ⟨rfl, rfl, rfl, by decide +kernel, rfl, by decide +kernel, by decide +kernel⟩
abbrev v__GREATEST_NUMBER : Int := 10 ^ 30
abbrev v_MOST_SHOPS : Int := 6
abbrev v__MOST_PARTS : Int := 6
abbrev v__MOST_TERMS : Int := 40
abbrev v__MOST_LEVELS : Int := 6
/-- an error's class -/
structure XCls (K : PySem.W.Frag) (mg : Str → Option Value) (x : Str) where
  C : Addr
  g : mg x = some (.ref C)
  k : PySem.W.keepIn K (.ref C) = true
  q : PySem.W.excIn K C [.type "ValueError", .type "Exception", .type "BaseException", .type "object"] "ValueError.__new__" = true
  ex : PySem.W.subIn K (.ref C) (.type "BaseException") = some true
  ty : PySem.W.typeIn K (.ref C) = some (.type "type")
structure Top (K : PySem.W.Frag) (mg : Str → Option Value) where
  is_int : At K mg "is_int" s_is_int ["value"]
  is_int_from : At K mg "is_int_from" s_is_int_from ["value", "least", "greatest"]
  is_number : At K mg "is_number" s_is_number ["value"]
  is_int_list : At K mg "is_int_list" s_is_int_list ["value", "fewest", "greatest"]
  is_leaf : At K mg "is_leaf" s_is_leaf ["term"]
  parts_of : At K mg "parts_of" s_parts_of ["term"]
  is_term : At K mg "is_term" s_is_term ["value"]
  check_term : At K mg "check_term" s_check_term ["term"]
  shops_in : At K mg "shops_in" s_shops_in ["term"]
  tell : At K mg "tell" s_tell ["term", "prices"]
  _has_form : At K mg "_has_form" s__has_form ["term"]
  _are_parts : At K mg "_are_parts" s__are_parts ["value"]
  _all_shops : At K mg "_all_shops" s__all_shops ["term"]
  check_rules : At K mg "check_rules" s_check_rules ["rules"]
  check_market : At K mg "check_market" s_check_market ["rules", "prices"]
  check_prices : At K mg "check_prices" s_check_prices ["prices", "many"]
  check_order : At K mg "check_order" s_check_order ["order", "many", "fewest"]
  is_shop : At K mg "is_shop" s_is_shop ["value", "many"]
  fits : At K mg "fits" s_fits ["term", "many"]
  played : At K mg "played" s_played ["rules", "prices", "order"]
  _steps : At K mg "_steps" s__steps ["rules", "prices", "order"]
  _repriced : At K mg "_repriced" s__repriced ["rules", "prices", "shop"]
  _law_source : At K mg "_law_source" s__law_source ["script"]
  _law_draw : At K mg "_law_draw" s__law_draw ["source", "limit"]
  _law_great : At K mg "_law_great" s__law_great ["source", "limit"]
  _law_add : At K mg "_law_add" s__law_add ["source", "most"]
  _law_end : At K mg "_law_end" s__law_end ["source", "many", "most"]
  _law_term : At K mg "_law_term" s__law_term ["source", "many", "most", "deep"]
  _law_bounded : At K mg "_law_bounded" s__law_bounded ["source", "many", "most"]
  _law_rules : At K mg "_law_rules" s__law_rules ["source", "most"]
  _law_value : At K mg "_law_value" s__law_value ["term", "prices"]
  _law_behind : At K mg "_law_behind" s__law_behind ["rules", "prices", "shop"]
  _law_due : At K mg "_law_due" s__law_due ["rules", "order", "prices"]
  _law_told : At K mg "_law_told" s__law_told ["rules", "order", "prices"]
  law : At K mg "law" s_law ["script"]
  g__GREATEST_NUMBER : ∃ t, mg "_GREATEST_NUMBER" = some (.int v__GREATEST_NUMBER t)
  g_MOST_SHOPS : ∃ t, mg "MOST_SHOPS" = some (.int v_MOST_SHOPS t)
  g__MOST_PARTS : ∃ t, mg "_MOST_PARTS" = some (.int v__MOST_PARTS t)
  g__MOST_TERMS : ∃ t, mg "_MOST_TERMS" = some (.int v__MOST_TERMS t)
  g__MOST_LEVELS : ∃ t, mg "_MOST_LEVELS" = some (.int v__MOST_LEVELS t)
  g__LONGEST_ORDER : ∃ t, mg "_LONGEST_ORDER" = some (.int 1000 t)
  g__MOST_REPRICINGS : ∃ t, mg "_MOST_REPRICINGS" = some (.int 1000 t)
  InvalidTerm : XCls K mg "InvalidTerm"
  InvalidRules : XCls K mg "InvalidRules"
  InvalidPrices : XCls K mg "InvalidPrices"
  InvalidOrder : XCls K mg "InvalidOrder"
  TooMany : XCls K mg "TooMany"
  n_len : mg "len" = none
  n_isinstance : mg "isinstance" = none
  n_abs : mg "abs" = none
  n_range : mg "range" = none
  n_int : mg "int" = none
  n_bool : mg "bool" = none
  n_tuple : mg "tuple" = none
  n_list : mg "list" = none
  n_all : mg "all" = none
  n_sorted : mg "sorted" = none
  n_set : mg "set" = none
section
variable {P : Program} {w : World} {K : PySem.W.Frag} {mg : Str → Option Value} {base : Heap}
abbrev RIsInt : List PyData → PyData → Prop := fun ds r => ∃ d, ds = [d] ∧ r = .bool (isI d)
theorem ok_is_int (T : Top K mg) : FnOk P w K mg base CX0 1 T.is_int.f T.is_int.fd ["value"] (spR K RIsInt) := by
  refine T.is_int.F.ok sc_is_int (fun vs H Q E h => ?_) (fun cdv A outer s H vs Q E hr h => ?_)
  · obtain ⟨M, ds, r, _, hv, ⟨d, rfl, _⟩, _⟩ := h
    exact dpa_len hv
  obtain ⟨M, ds, r, hM, hv, ⟨d, rfl, rfl⟩, q⟩ := h
  obtain ⟨v, rfl, hd⟩ := dpa1 hv
  refine ⟨_, (pss_one (ps_ret (pe_and (pe_callB call_isi (by rfl) T.n_isinstance (by decide +kernel) (pa_cons (pv 0) (pa_cons (pe_bltn (v := .ty "int") rfl T.n_int (by decide +kernel) rfl) pa_nil))) (pe_one (pe_not (pe_callB call_isi (by rfl) T.n_isinstance (by decide +kernel) (pa_cons (pv 0) (pa_cons (pe_bltn (v := .ty "bool") rfl T.n_bool (by decide +kernel) rfl) pa_nil)))))))), ?_⟩
  exact Evl.s_ret (Evl.ev_is (Evl.ev_andV (ev_isi (de_v hd (by rfl)) (kit_int d)) (fun _ => Evl.ev_notV (ev_isi (de_v hd (by rfl)) (kit_bool d)))) (congrArg V.bl (isI_eq d))) fun H1 e => q _ H1 e (sc_dp rfl)
def inR (lo hi : Int) : PyData → Bool
  | .int i => decide (lo ≤ i) && decide (i ≤ hi)
  | _ => false
abbrev RFrom : List PyData → PyData → Prop := fun ds r => ∃ d lo hi, ds = [d, .int lo, .int hi] ∧ r = .bool (inR lo hi d)
theorem ok_is_int_from (T : Top K mg) : FnOk P w K mg base CX0 2 T.is_int_from.f T.is_int_from.fd ["value", "least", "greatest"] (spR K RFrom) := by
  refine T.is_int_from.F.ok sc_is_int_from (fun vs H Q E h => ?_) (fun cdv A outer s H vs Q E hr h => ?_)
  · obtain ⟨M, ds, r, _, hv, ⟨d, lo, hi, rfl, _⟩, _⟩ := h
    exact dpa_len hv
  obtain ⟨M, ds, r, hM, hv, ⟨d, lo, hi, rfl, rfl⟩, q⟩ := h
  obtain ⟨v, v1, v2, rfl, hd, h1, h2⟩ := dpa3 hv
  obtain rfl := dpInt h1
  obtain rfl := dpInt h2
  refine ⟨_, (pss_one (ps_ret (pe_and (pe_call (ok_is_int T) (hr.mono (by omega)) (by rfl) T.is_int.g T.is_int.F.kp T.is_int.b .nil pass0 (pa_cons (pv 0) pa_nil)) (pe_one (pe_chain op_le op_le (pv 1) (pv 0) (pv 2)))))), ?_⟩
  have h0 : Evl.Ev (tCall (spR K RIsInt) [] E0 (tCons (tVar 0) tNil)) [some v, some (.int lo), some (.int hi)] H (.bl (isI d)) := ev_sc (de_callR hM (da_cons (de_v hd (by rfl)) da_nil) (R := RIsInt) ⟨d, rfl, rfl⟩) rfl
  cases hI : isI d with
  | false =>
    rw [hI] at h0
    refine Evl.s_ret (Evl.ev_andV h0 (b := false) (fun z => nomatch z)) fun H1 e => q _ H1 e ?_
    have : inR lo hi d = false := by
      cases d <;> first | rfl | cases hI
    rw [this]
    exact .bl _
  | true =>
    rw [hI] at h0
    cases d with
    | int i =>
      obtain rfl := dpInt hd
      exact Evl.s_ret (Evl.ev_andV h0 (fun _ => ev_chain (Evl.ev_var rfl) (Evl.ev_var rfl) (fun _ => Evl.ev_var rfl))) fun H1 e => q _ H1 e (.bl _)
    | _ => cases hI
abbrev RNum : List PyData → PyData → Prop := fun ds r => ∃ n, ds = [.int n] ∧ r = .bool (num n)
theorem ok_is_number (T : Top K mg) : FnOk P w K mg base CX0 3 T.is_number.f T.is_number.fd ["value"] (spR K RNum) := by
  refine T.is_number.F.ok sc_is_number (fun vs H Q E h => ?_) (fun cdv A outer s H vs Q E hr h => ?_)
  · obtain ⟨M, ds, r, _, hv, ⟨n, rfl, _⟩, _⟩ := h
    exact dpa_len hv
  obtain ⟨M, ds, r, hM, hv, ⟨n, rfl, rfl⟩, q⟩ := h
  obtain ⟨v, rfl, hd⟩ := dpa1 hv
  obtain rfl := dpInt hd
  refine ⟨_, (pss_one (ps_ret (pe_call (ok_is_int_from T) (hr.mono (by omega)) (by rfl) T.is_int_from.g T.is_int_from.F.kp T.is_int_from.b .nil pass0 (pa_cons (pv 0) (pa_cons (pe_un un_neg (pe_globI rfl T.g__GREATEST_NUMBER)) (pa_cons (pe_globI rfl T.g__GREATEST_NUMBER) pa_nil)))))), ?_⟩
  exact Evl.s_ret (ev_sc (de_callR (E := E0) hM (da_cons (de_sc (Evl.ev_var rfl) rfl) (da_cons (de_sc (Evl.ev_un Evl.ev_c Evl.ru_neg) rfl) (da_cons (de_sc Evl.ev_c rfl) da_nil))) (R := RFrom) ⟨.int n, _, _, rfl, rfl⟩) rfl) fun H1 e => q _ H1 e (.bl _)
theorem ev_word {t : Trm} {σ : L2.St} {H : Hp} {M : List Addr} {v : V} {te : TE} (h : Evl.Ev te σ H v) (hv : Dm K M H v (enc t)) : Evl.Ev (tOp (rIxT K) te (tC (.int 0))) σ H (.str (word t)) := by
  have hd := de_ev (K := K) (M := M) h hv
  rw [enc_eq] at hd
  exact ev_sc (de_ixT hd Evl.ev_c (encL_word t)) rfl
abbrev RLeaf : List PyData → PyData → Prop := fun ds r => ∃ t, ds = [enc t] ∧ r = .bool (leaf t)
theorem ok_is_leaf (T : Top K mg) : FnOk P w K mg base CX0 1 T.is_leaf.f T.is_leaf.fd ["term"] (spR K RLeaf) := by
  refine T.is_leaf.F.ok sc_is_leaf (fun vs H Q E h => ?_) (fun cdv A outer s H vs Q E hr h => ?_)
  · obtain ⟨M, ds, r, _, hv, ⟨t, rfl, _⟩, _⟩ := h
    exact dpa_len hv
  obtain ⟨M, ds, r, hM, hv, ⟨t, rfl, rfl⟩, q⟩ := h
  obtain ⟨v, rfl, hd⟩ := dpa1 hv
  refine ⟨_, (pss_one (ps_ret (pe_or (pe_cmpR op_eq (pe_ix ix_tup (pv 0) pe_int (fun _ _ => rfl)) pe_str (nomark _)) (pe_one (pe_cmpR op_eq (pe_ix ix_tup (pv 0) pe_int (fun _ _ => rfl)) pe_str (nomark _)))))), ?_⟩
  exact Evl.s_ret (Evl.ev_is (Evl.ev_orV (Evl.ev_op (ev_word (Evl.ev_var (by rfl)) hd) Evl.ev_c (Evl.rv_eq rfl)) (fun _ => Evl.ev_op (ev_word (Evl.ev_var (by rfl)) hd) Evl.ev_c (Evl.rv_eq rfl))) (congrArg V.bl (leaf_word t).symm)) fun H1 e => q _ H1 e (.bl _)
abbrev RParts : List PyData → PyData → Prop := fun ds r => ∃ t, ds = [enc t] ∧ r = .tuple ((kids t).map enc)
theorem ok_parts_of (T : Top K mg) : FnOk P w K mg base CX0 2 T.parts_of.f T.parts_of.fd ["term"] (spR K RParts) := by
  refine T.parts_of.F.ok sc_parts_of (fun vs H Q E h => ?_) (fun cdv A outer s H vs Q E hr h => ?_)
  · obtain ⟨M, ds, r, _, hv, ⟨t, rfl, _⟩, _⟩ := h
    exact dpa_len hv
  obtain ⟨M, ds, r, hM, hv, ⟨t, rfl, rfl⟩, q⟩ := h
  obtain ⟨v, rfl, hd⟩ := dpa1 hv
  refine ⟨_, (pss_cons (ps_if (pt_val (pe_call (ok_is_leaf T) (hr.mono (by omega)) (by rfl) T.is_leaf.g T.is_leaf.F.kp T.is_leaf.b .nil pass0 (pa_cons (pv 0) pa_nil))) (pss_one (ps_ret (pe_tup pa_nil))) pss_nil)
      (pss_one (ps_ret (pe_ix ix_tup (pv 0) (pe_un un_neg pe_int) (fun _ _ => rfl))))), ?_⟩
  refine Evl.q_when (Evl.et_B (ev_sc (de_callR (E := E0) hM (da_cons (de_v hd (by rfl)) da_nil) (R := RLeaf) ⟨t, rfl, rfl⟩) rfl)) (fun hb H1 e1 => ?_) (fun hb H1 e1 => ?_)
  · rw [leaf_kids hb] at q
    exact s_retD (de_tup (hM.ex e1) da_nil (by simp)) fun v H2 e2 hv => q v H2 (e1.trans e2) hv
  · have hd2 := hd
    rw [enc_eq] at hd2
    exact s_retD (de_ixT (DE.mono e1 (de_v hd2 (by rfl))) (Evl.ev_un Evl.ev_c Evl.ru_neg) (encL_kids hb)) fun v H2 e2 hv => q v H2 (e1.trans e2) hv
abbrev RArePs : List PyData → PyData → Prop := fun ds r => ∃ xs, ds = [.tuple xs] ∧ r = .bool (decide ((1 : Int) ≤ (xs.length : Int)) && decide ((xs.length : Int) ≤ 6))
theorem ok__are_parts (T : Top K mg) : FnOk P w K mg base CX0 1 T._are_parts.f T._are_parts.fd ["value"] (spR K RArePs) := by
  refine T._are_parts.F.ok sc__are_parts (fun vs H Q E h => ?_) (fun cdv A outer s H vs Q E hr h => ?_)
  · obtain ⟨M, ds, r, _, hv, ⟨xs, rfl, _⟩, _⟩ := h
    exact dpa_len hv
  obtain ⟨M, ds, r, hM, hv, ⟨xs, rfl, rfl⟩, q⟩ := h
  obtain ⟨v, rfl, hd⟩ := dpa1 hv
  refine ⟨_, (pss_one (ps_ret (pe_and (pe_callB call_isi (by rfl) T.n_isinstance (by decide +kernel) (pa_cons (pv 0) (pa_cons (pe_bltn (v := .ty "tuple") rfl T.n_tuple (by decide +kernel) rfl) pa_nil))) (pe_one (pe_chain op_le op_le pe_int (pe_callB (r := Evl.rLenS K) call_len_seq (by rfl) T.n_len PySem.boot_len (pa_cons (pv 0) pa_nil)) (pe_globI rfl T.g__MOST_PARTS)))))), ?_⟩
  exact Evl.s_ret (Evl.ev_andV (ev_isi (de_v hd (by rfl)) (kit_tuple _)) (fun _ => ev_chain Evl.ev_c (ev_lenD (de_v hd (by rfl)) (.inl rfl)) (fun _ => Evl.ev_c))) fun H1 e => q _ H1 e (.bl _)
abbrev RForm : List PyData → PyData → Prop := fun ds r => ∃ t, ds = [enc t] ∧ r = .bool (form t)
theorem ok__has_form (T : Top K mg) : FnOk P w K mg base CX0 4 T._has_form.f T._has_form.fd ["term"] (spR K RForm) := by
  refine T._has_form.F.ok sc__has_form (fun vs H Q E h => ?_) (fun cdv A outer s H vs Q E hr h => ?_)
  · obtain ⟨M, ds, r, _, hv, ⟨t, rfl, _⟩, _⟩ := h
    exact dpa_len hv
  obtain ⟨M, ds, r, hM, hv, ⟨t, rfl, rfl⟩, q⟩ := h
  obtain ⟨v, rfl, hd⟩ := dpa1 hv
  refine ⟨_, (pss_cons (ps_if (PW.pt (pw_or (pt_not (pt_val (pe_callB call_isi (by rfl) T.n_isinstance (by decide +kernel) (pa_cons (pv 0) (pa_cons (pe_bltn (v := .ty "tuple") rfl T.n_tuple (by decide +kernel) rfl) pa_nil))))) (pw_or1 (pt_cmpR op_eq (pe_callB (r := Evl.rLenS K) call_len_seq (by rfl) T.n_len PySem.boot_len (pa_cons (pv 0) pa_nil)) pe_int (nomark _))))) (pss_one (ps_ret pe_bl)) pss_nil)
      (pss_cons (ps_set (i := 1) sc__has_form.nd rfl (Or.inl rfl) (pe_ix ix_tup (pv 0) pe_int (fun _ _ => rfl)))
      (pss_cons (ps_if (pt_cmpR op_eq (pv 1) pe_str (nomark _)) (pss_one (ps_ret (pe_and (pe_cmpR op_eq (pe_callB (r := Evl.rLenS K) call_len_seq (by rfl) T.n_len PySem.boot_len (pa_cons (pv 0) pa_nil)) pe_int (nomark _)) (pe_and (pe_call (ok_is_int_from T) (hr.mono (by omega)) (by rfl) T.is_int_from.g T.is_int_from.F.kp T.is_int_from.b .nil pass0 (pa_cons (pe_ix ix_tup (pv 0) pe_int (fun _ _ => rfl)) (pa_cons pe_int (pa_cons (pe_op op_sub (pe_globI rfl T.g_MOST_SHOPS) pe_int) pa_nil)))) (pe_one (pe_call (ok_is_number T) (hr.mono (by omega)) (by rfl) T.is_number.g T.is_number.F.kp T.is_number.b .nil pass0 (pa_cons (pe_ix ix_tup (pv 0) pe_int (fun _ _ => rfl)) pa_nil))))))) pss_nil)
      (pss_cons (ps_if (pt_cmpR op_eq (pv 1) pe_str (nomark _)) (pss_one (ps_ret (pe_and (pe_cmpR op_eq (pe_callB (r := Evl.rLenS K) call_len_seq (by rfl) T.n_len PySem.boot_len (pa_cons (pv 0) pa_nil)) pe_int (nomark _)) (pe_one (pe_call (ok_is_number T) (hr.mono (by omega)) (by rfl) T.is_number.g T.is_number.F.kp T.is_number.b .nil pass0 (pa_cons (pe_ix ix_tup (pv 0) pe_int (fun _ _ => rfl)) pa_nil)))))) pss_nil)
      (pss_cons (ps_if (pt_cmpR op_eq (pv 1) pe_str (nomark _)) (pss_one (ps_ret (pe_and (pe_cmpR op_eq (pe_callB (r := Evl.rLenS K) call_len_seq (by rfl) T.n_len PySem.boot_len (pa_cons (pv 0) pa_nil)) pe_int (nomark _)) (pe_and (pe_call (ok__are_parts T) (hr.mono (by omega)) (by rfl) T._are_parts.g T._are_parts.F.kp T._are_parts.b .nil pass0 (pa_cons (pe_ix ix_tup (pv 0) pe_int (fun _ _ => rfl)) pa_nil)) (pe_one (pe_call (ok_is_int_from T) (hr.mono (by omega)) (by rfl) T.is_int_from.g T.is_int_from.F.kp T.is_int_from.b .nil pass0 (pa_cons (pe_ix ix_tup (pv 0) pe_int (fun _ _ => rfl)) (pa_cons pe_int (pa_cons (pe_callB (r := Evl.rLenS K) call_len_seq (by rfl) T.n_len PySem.boot_len (pa_cons (pe_ix ix_tup (pv 0) pe_int (fun _ _ => rfl)) pa_nil)) pa_nil))))))))) pss_nil)
      (pss_one (ps_ret (pe_and (pe_or (pe_cmpR op_eq (pv 1) pe_str (nomark _)) (pe_one (pe_cmpR op_eq (pv 1) pe_str (nomark _)))) (pe_and (pe_cmpR op_eq (pe_callB (r := Evl.rLenS K) call_len_seq (by rfl) T.n_len PySem.boot_len (pa_cons (pv 0) pa_nil)) pe_int (nomark _)) (pe_one (pe_call (ok__are_parts T) (hr.mono (by omega)) (by rfl) T._are_parts.g T._are_parts.F.kp T._are_parts.b .nil pass0 (pa_cons (pe_ix ix_tup (pv 0) pe_int (fun _ _ => rfl)) pa_nil)))))))))))), ?_⟩
  have hd2 : Dm K M H v (.tuple (encL t)) := by
    rw [← enc_eq]
    exact hd
  have hlen := encL_len t
  refine Evl.q_when (b := false) (Evl.et_is (Evl.et_or (Evl.et_not (Evl.et_B (ev_isi (de_v hd2 (by rfl)) (kit_tuple _)))) (fun _ => Evl.et_test (Evl.ev_op (ev_lenD (de_v hd2 (by rfl)) (.inl rfl)) Evl.ev_c (Evl.rv_eq rfl))))
    (by
      have : ¬ V.int ((encL t).length : Int) = V.int 0 := fun z => by
        have := V.int.inj z
        omega
      simp [isTup, this])) (fun hb => nomatch hb) fun _ H1 e1 => ?_
  have hd3 := dm_ex e1 hd2
  refine Evl.q_asg (ev_word (Evl.ev_var (by rfl)) (dm_ex e1 hd)) fun H2 e2 => ?_
  have hd4 := dm_ex e2 hd3
  have e12 := e1.trans e2
  have hM2 := hM.ex e12
  clear hd hd2 hd3 hv
  match t, hd4, q with
  | .price a n, hd4, q =>
    refine Evl.q_when (b := true) (Evl.et_is (Evl.et_test (Evl.ev_op (Evl.ev_var rfl) Evl.ev_c (Evl.rv_eq rfl))) rfl) (fun _ H3 e3 => ?_) (fun hb => nomatch hb)
    have hd5 := dm_ex e3 hd4
    refine Evl.s_ret (Evl.ev_is (Evl.ev_andV (Evl.ev_op (ev_lenD (de_v hd5 (by rfl)) (.inl rfl)) Evl.ev_c (Evl.rv_eq rfl)) (fun _ => Evl.ev_andV
      (ev_sc (de_callR (E := E0) (hM2.ex e3) (da_cons (de_ixT (de_v hd5 (by rfl)) Evl.ev_c (d := .int a) rfl) (da_cons (de_sc Evl.ev_c rfl) (da_cons (de_sc (Evl.ev_op Evl.ev_c Evl.ev_c Evl.rv_I0) rfl) da_nil))) (R := RFrom) ⟨.int a, 0, 5, rfl, rfl⟩) rfl)
      (fun _ => ev_sc (de_callR (E := E0) (hM2.ex e3) (da_cons (de_ixT (de_v hd5 (by rfl)) Evl.ev_c (d := .int n) rfl) da_nil) (R := RNum) ⟨n, rfl, rfl⟩) rfl))) rfl) fun H4 e4 => q _ H4 (e12.trans (e3.trans e4)) (.bl _)
  | .plain n, hd4, q =>
    refine Evl.q_when (b := false) (Evl.et_is (Evl.et_test (Evl.ev_op (Evl.ev_var rfl) Evl.ev_c (Evl.rv_eq rfl))) rfl) (fun hb => nomatch hb) (fun _ H3 e3 => ?_)
    refine Evl.q_when (b := true) (Evl.et_is (Evl.et_test (Evl.ev_op (Evl.ev_var rfl) Evl.ev_c (Evl.rv_eq rfl))) rfl) (fun _ H4 e4 => ?_) (fun hb => nomatch hb)
    have hd5 := dm_ex (e3.trans e4) hd4
    refine Evl.s_ret (Evl.ev_is (Evl.ev_andV (Evl.ev_op (ev_lenD (de_v hd5 (by rfl)) (.inl rfl)) Evl.ev_c (Evl.rv_eq rfl))
      (fun _ => ev_sc (de_callR (E := E0) (hM2.ex (e3.trans e4)) (da_cons (de_ixT (de_v hd5 (by rfl)) Evl.ev_c (d := .int n) rfl) da_nil) (R := RNum) ⟨n, rfl, rfl⟩) rfl)) rfl) fun H5 e5 => q _ H5 (e12.trans ((e3.trans e4).trans e5)) (.bl _)
  | .node (.rank k) ps, hd4, q =>
    refine Evl.q_when (b := false) (Evl.et_is (Evl.et_test (Evl.ev_op (Evl.ev_var rfl) Evl.ev_c (Evl.rv_eq rfl))) rfl) (fun hb => nomatch hb) (fun _ H3 e3 => ?_)
    refine Evl.q_when (b := false) (Evl.et_is (Evl.et_test (Evl.ev_op (Evl.ev_var rfl) Evl.ev_c (Evl.rv_eq rfl))) rfl) (fun hb => nomatch hb) (fun _ H4 e4 => ?_)
    refine Evl.q_when (b := true) (Evl.et_is (Evl.et_test (Evl.ev_op (Evl.ev_var rfl) Evl.ev_c (Evl.rv_eq rfl))) rfl) (fun _ H5 e5 => ?_) (fun hb => nomatch hb)
    have e35 := (e3.trans e4).trans e5
    have hd5 := dm_ex e35 hd4
    have hl : (((ps.map enc).length : Nat) : Int) = (ps.length : Int) := by rw [List.length_map]
    refine Evl.s_ret (Evl.ev_is (Evl.ev_andV (Evl.ev_op (ev_lenD (de_v hd5 (by rfl)) (.inl rfl)) Evl.ev_c (Evl.rv_eq rfl)) (fun _ => Evl.ev_andV
      (ev_sc (de_callR (E := E0) (hM2.ex e35) (da_cons (de_ixT (de_v hd5 (by rfl)) Evl.ev_c (d := .tuple (ps.map enc)) rfl) da_nil) (R := RArePs) ⟨_, rfl, rfl⟩) rfl)
      (fun _ => ev_sc (de_callR (E := E0) (hM2.ex e35) (da_cons (de_ixT (de_v hd5 (by rfl)) Evl.ev_c (d := .int k) rfl) (da_cons (de_sc Evl.ev_c rfl) (da_cons (de_sc (ev_lenD (de_ixT (de_v hd5 (by rfl)) Evl.ev_c (d := .tuple (ps.map enc)) rfl) (.inl rfl)) rfl) da_nil))) (R := RFrom) ⟨.int k, 1, _, rfl, rfl⟩) rfl)))
      (by simp only [form, inR, hl]; rfl)) fun H6 e6 => q _ H6 (e12.trans (e35.trans e6)) (.bl _)
  | .node .least ps, hd4, q =>
    refine Evl.q_when (b := false) (Evl.et_is (Evl.et_test (Evl.ev_op (Evl.ev_var rfl) Evl.ev_c (Evl.rv_eq rfl))) rfl) (fun hb => nomatch hb) (fun _ H3 e3 => ?_)
    refine Evl.q_when (b := false) (Evl.et_is (Evl.et_test (Evl.ev_op (Evl.ev_var rfl) Evl.ev_c (Evl.rv_eq rfl))) rfl) (fun hb => nomatch hb) (fun _ H4 e4 => ?_)
    refine Evl.q_when (b := false) (Evl.et_is (Evl.et_test (Evl.ev_op (Evl.ev_var rfl) Evl.ev_c (Evl.rv_eq rfl))) rfl) (fun hb => nomatch hb) (fun _ H5 e5 => ?_)
    have e35 := (e3.trans e4).trans e5
    have hd5 := dm_ex e35 hd4
    have hl : (((ps.map enc).length : Nat) : Int) = (ps.length : Int) := by rw [List.length_map]
    refine Evl.s_ret (Evl.ev_is (Evl.ev_andV (a := true) (Evl.ev_is (Evl.ev_orV (Evl.ev_op (Evl.ev_var rfl) Evl.ev_c (Evl.rv_eq rfl)) (fun _ => Evl.ev_op (Evl.ev_var rfl) Evl.ev_c (Evl.rv_eq rfl))) rfl)
      (fun _ => Evl.ev_andV (Evl.ev_op (ev_lenD (de_v hd5 (by rfl)) (.inl rfl)) Evl.ev_c (Evl.rv_eq rfl))
      (fun _ => ev_sc (de_callR (E := E0) (hM2.ex e35) (da_cons (de_ixT (de_v hd5 (by rfl)) Evl.ev_c (d := .tuple (ps.map enc)) rfl) da_nil) (R := RArePs) ⟨_, rfl, rfl⟩) rfl)))
      (by simp only [form, hl]; rfl)) fun H6 e6 => q _ H6 (e12.trans (e35.trans e6)) (.bl _)
  | .node .most ps, hd4, q =>
    refine Evl.q_when (b := false) (Evl.et_is (Evl.et_test (Evl.ev_op (Evl.ev_var rfl) Evl.ev_c (Evl.rv_eq rfl))) rfl) (fun hb => nomatch hb) (fun _ H3 e3 => ?_)
    refine Evl.q_when (b := false) (Evl.et_is (Evl.et_test (Evl.ev_op (Evl.ev_var rfl) Evl.ev_c (Evl.rv_eq rfl))) rfl) (fun hb => nomatch hb) (fun _ H4 e4 => ?_)
    refine Evl.q_when (b := false) (Evl.et_is (Evl.et_test (Evl.ev_op (Evl.ev_var rfl) Evl.ev_c (Evl.rv_eq rfl))) rfl) (fun hb => nomatch hb) (fun _ H5 e5 => ?_)
    have e35 := (e3.trans e4).trans e5
    have hd5 := dm_ex e35 hd4
    have hl : (((ps.map enc).length : Nat) : Int) = (ps.length : Int) := by rw [List.length_map]
    refine Evl.s_ret (Evl.ev_is (Evl.ev_andV (a := true) (Evl.ev_is (Evl.ev_orV (Evl.ev_op (Evl.ev_var rfl) Evl.ev_c (Evl.rv_eq rfl)) (fun _ => Evl.ev_op (Evl.ev_var rfl) Evl.ev_c (Evl.rv_eq rfl))) rfl)
      (fun _ => Evl.ev_andV (Evl.ev_op (ev_lenD (de_v hd5 (by rfl)) (.inl rfl)) Evl.ev_c (Evl.rv_eq rfl))
      (fun _ => ev_sc (de_callR (E := E0) (hM2.ex e35) (da_cons (de_ixT (de_v hd5 (by rfl)) Evl.ev_c (d := .tuple (ps.map enc)) rfl) da_nil) (R := RArePs) ⟨_, rfl, rfl⟩) rfl)))
      (by simp only [form, hl]; rfl)) fun H6 e6 => q _ H6 (e12.trans (e35.trans e6)) (.bl _)
instance (t : Trm) : Decidable (okT t) := by
  unfold okT
  infer_instance
abbrev RTerm : List PyData → PyData → Prop := fun ds r => ∃ t, ds = [enc t] ∧ r = .bool (decide (okT t))
def encE (e : Trm × Nat) : PyData := .tuple [enc e.1, .int (e.2 : Int)]
theorem ok_is_term (T : Top K mg) : FnOk P w K mg base CX0 5 T.is_term.f T.is_term.fd ["value"] (spR K RTerm) := by
  refine T.is_term.F.ok sc_is_term (fun vs H Q E h => ?_) (fun cdv A outer s H vs Q E hr h => ?_)
  · obtain ⟨M, ds, r, _, hv, ⟨d, rfl, _⟩, _⟩ := h
    exact dpa_len hv
  obtain ⟨M, ds, r, hM, hv, ⟨t, rfl, rfl⟩, q⟩ := h
  obtain ⟨v, rfl, hd⟩ := dpa1 hv
  have qO : okT t → ∀ H', Evl.Ex H H' → Q (.bl true) H' := fun h H' e => q _ H' e (by rw [decide_eq_true h]; exact .bl true)
  have qE : ¬ okT t → ∀ H', Evl.Ex H H' → Q (.bl false) H' := fun h H' e => q _ H' e (by rw [decide_eq_false h]; exact .bl false)
  refine ⟨_, (pss_cons (ps_set (i := 1) sc_is_term.nd rfl (Or.inl rfl) (pe_lst (pa_cons (pe_tup (pa_cons (pv 0) (pa_cons pe_int pa_nil))) pa_nil)))
      (pss_cons (ps_set (i := 2) sc_is_term.nd rfl (Or.inl rfl) pe_int)
      (pss_cons (ps_while PassesOwn.never (pt_truth (pv 1) (by intro _; rfl)) (pss_cons (ps_asg (pe_bm0 PySem.F.plainAttrs_list PySem.F.slot_list_pop PySem.F.type_list_pop mt_pop (pv 1)) (pg_tup rfl (pgs_cons (pg_name (i := 3) sc_is_term.nd rfl (Or.inl rfl)) (pgs_cons (pg_name (i := 4) sc_is_term.nd rfl (Or.inr rfl)) pgs_nil))))
      (pss_cons (ps_aug (i := 2) sc_is_term.nd rfl (Or.inl rfl) pe_int ip_add)
      (pss_cons (ps_if (PW.pt (pw_or (pt_cmpR op_gt (pv 2) (pe_globI rfl T.g__MOST_TERMS) (nomark _)) (pw_or (pt_cmpR op_gt (pv 4) (pe_globI rfl T.g__MOST_LEVELS) (nomark _)) (pw_or1 (pt_not (pt_val (pe_call (ok__has_form T) (hr.mono (by omega)) (by rfl) T._has_form.g T._has_form.F.kp T._has_form.b .nil pass0 (pa_cons (pv 3) pa_nil)))))))) (pss_one (ps_ret pe_bl)) pss_nil)
      (pss_one (ps_expr (pe_bm PySem.F.plainAttrs_list PySem.F.slot_list_extend PySem.F.type_list_extend mt_extend (pv 1) (pa_cons (pe_lc (own := [("inner", 5)]) (g := gName 5) (tt := tYes) rfl sc_is_term.nd (pi_tup (pe_call (ok_parts_of T) (hr.mono (by omega)) (by rfl) T.parts_of.g T.parts_of.F.kp T.parts_of.b .nil pass0 (pa_cons (pv 3) pa_nil))) (blkOk_by (N := N_is_term) (sc := defScope s_is_term) (by decide +kernel)) (fun _ _ _ _ _ => (pg_name (i := 5) sc_is_term.nd rfl (Or.inl rfl))) (fun _ _ _ _ _ => pts_nil) (fun _ _ _ _ _ => (pe_tup (pa_cons (pv 5) (pa_cons (pe_op op_add (pv 4) pe_int) pa_nil))))) pa_nil))))))))
      (pss_one (ps_ret pe_bl))))), ?_⟩
  refine q_asgDL (dl_lst (da_cons (de_tup hM (da_cons (de_v hd (by rfl)) (da_cons (de_sc Evl.ev_c (d := .int 1) rfl) da_nil)) (by simp)) da_nil) (by simp)) fun p vs H1 n1 e1 h1 d1 => ?_
  refine Evl.q_asg Evl.ev_c fun H2 e2 => ?_
  have e12 := e1.trans e2
  refine Evl.q_while (fun m σ' H' => ∃ (pile : List (Trm × Nat)) (many : Nat) (x3 x4 x5 : Option V) (us : List V), σ' = [some v, some (.ref p), some (.int (many : Int)), x3, x4, x5] ∧ Evl.Ex H H' ∧ H' p = some (.lst us) ∧
      Dms K (p :: M) H' us (pile.map encE) ∧ m = cnts (pile.map (·.1)) ∧ many ≤ 40 ∧ us.length ≤ 1 + 6 * many ∧ (okT t ↔ many + cnts (pile.map (·.1)) ≤ 40 ∧ ∀ e ∈ pile, good e)) (cnt t)
    ⟨[(t, 1)], 0, none, none, none, vs, rfl, e12, e2 _ _ h1, dms_ex e2 d1, by simp [cnts], by omega, by have := dpa_len d1; simp at this; omega, ?_⟩ (fun m σ' H' hW => ?_)
  · simp only [List.map_cons, List.map_nil, cnts, List.mem_singleton, forall_eq, good, okT]
    constructor
    · rintro ⟨a, b, c⟩
      exact ⟨by omega, by omega, c⟩
    · rintro ⟨a, b, c⟩
      exact ⟨by omega, by omega, c⟩
  · obtain ⟨pile, many, x3, x4, x5, us, rfl, eH, hp, hus, rfl, m40, u400, iff⟩ := hW
    refine ⟨_, et_truL (Evl.ev_var rfl) (Evl.sq_of hp), fun hb H3 e3 => ?_, fun hb H3 e3 => ?_⟩
    · -- a turn
      obtain ⟨pl, u, lv, rfl⟩ : ∃ pl u lv, pile = pl ++ [(u, lv)] := by
        cases hz : pile.getLast? with
        | none =>
          rw [List.getLast?_eq_none_iff] at hz
          subst hz
          cases hus
          cases hb
        | some e =>
          obtain ⟨ys, hys⟩ := List.getLast?_eq_some_iff.mp hz
          exact ⟨ys, e.1, e.2, hys⟩
      rw [List.map_append] at hus
      obtain ⟨vs', y, rfl, dvs, dy⟩ := dpa_snoc hus
      obtain ⟨a, z1, rfl, hsq, hz1⟩ : ∃ a z1, y = .ref a ∧ SqT K (mi H' (p :: M)) a [z1, .int (lv : Int)] ∧ Dm K (p :: M) H' z1 (enc u) := by
        have dy' : Dm K (p :: M) H' y (.tuple [enc u, .int (lv : Int)]) := dy
        cases dy' with
        | tup hs hv =>
          obtain ⟨v1, v2, rfl, h1', h2'⟩ := dpa2 hv
          obtain rfl := dpInt h2'
          exact ⟨_, v1, rfl, hs, h1'⟩
      refine ⟨fun σ2 H2 => ∃ m', m' < cnts ((pl ++ [(u, lv)]).map (·.1)) ∧ _, fun σ2 H2 z => z, ?_⟩
      have hp3 := e3 _ _ hp
      -- part, level = waiting.pop()
      refine ⟨.ref p, rfl, .inl ⟨rfl, _, Evl.sq_of hp3⟩, p, _, .ref a, rfl, rfl, hp3, by simp, ?_⟩
      have eM : ExM (p :: M) H3 (upd H3 p (.lst (vs' ++ [V.ref a]).dropLast)) := ExM.mut (by simp)
      have hp4 : upd H3 p (.lst (vs' ++ [V.ref a]).dropLast) p = some (.lst vs') := by
        rw [upd_same, List.dropLast_concat]
      have eH4 : Evl.Ex H (upd H3 p (.lst (vs' ++ [V.ref a]).dropLast)) := (eH.trans e3).mut n1
      generalize upd H3 p (.lst (vs' ++ [V.ref a]).dropLast) = H4 at eM hp4 eH4
      have hsq4 : SqT K H4 a [z1, .int (lv : Int)] := Evl.ex_t (ex_full _ _) (Evl.ex_t (exM_mi eM) (Evl.ex_t (ex_mi e3) hsq))
      have hz4 := dm_exM eM (dm_ex e3 hz1)
      have dv4 := dms_exM eM (dms_ex e3 dvs)
      refine ⟨a, _, rfl, hsq4, rfl, z1, [.int (lv : Int)], rfl, .int (lv : Int), [], rfl, rfl, ?_⟩
      -- many += 1
      refine Evl.q_aug rfl Evl.ev_c fun H5 e5 => ?_
      have hM5 : Dom (p :: M) H5 := (hM.ex (eH4.trans e5)).cons (by rw [e5 _ _ hp4]; exact fun z => nomatch z)
      have cu := cnt_pos u
      have gi := good_iff u lv
      have ec : cnts ((pl ++ [(u, lv)]).map (·.1)) = cnts (pl.map (·.1)) + cnt u := by
        rw [List.map_append, cnts_app]
        simp [cnts]
      -- the test
      refine Evl.q_when (Evl.et_or (Evl.et_test (Evl.ev_op (Evl.ev_var rfl) Evl.ev_c Evl.rv_I0)) (fun _ => Evl.et_or (Evl.et_test (Evl.ev_op (Evl.ev_var rfl) Evl.ev_c Evl.rv_I0))
        (fun _ => Evl.et_not (Evl.et_B (ev_sc (de_callR (E := E0) hM5 (da_cons (de_v (dm_ex e5 hz4) (by rfl)) da_nil) (R := RForm) ⟨u, rfl, rfl⟩) rfl))))) (fun hb H6 e6 => ?_) (fun hb H6 e6 => ?_)
      · -- no term
        refine Evl.s_ret Evl.ev_c fun H7 e7 => qE (fun hok => ?_) H7 (eH4.trans (e5.trans (e6.trans e7)))
        obtain ⟨k1, k2⟩ := iff.mp hok
        obtain ⟨g1, g2, _⟩ := gi.mp (k2 (u, lv) (by simp))
        rw [ec] at k1
        simp only [Bool.or_eq_true, decide_eq_true_eq, Bool.not_eq_true', v__MOST_TERMS, v__MOST_LEVELS] at hb
        rcases hb with hb | hb | hb
        · omega
        · omega
        · rw [hb] at g2
          cases g2
      · simp only [Bool.or_eq_false_iff, decide_eq_false_iff_not, Bool.not_eq_false', v__MOST_TERMS, v__MOST_LEVELS] at hb
        obtain ⟨b1, b2, b3⟩ := hb
        have e56 := e5.trans e6
        have hM6 := hM5.ex e6
        have hz6 := dm_ex e56 hz4
        have kl := form_kids b3
        -- waiting.extend(..)
        refine ⟨.ref p, rfl, .inl ⟨rfl, _, Evl.sq_of (e56 _ _ hp4)⟩, ?_⟩
        refine dl_lcT (M := p :: M) (l := kids u) (enc := enc) (f := fun w => .tuple [enc w, .int ((lv : Int) + 1)]) hM6 (de_callR (E := E0) hM6 (da_cons (de_v hz6 (by rfl)) da_nil) (R := RParts) ⟨u, rfl, rfl⟩) (by omega) (fun _ => rfl)
          (fun w hw x H7 D _ _ hM7 hx => de_tup hM7 (da_cons (de_v hx (by rfl)) (da_cons (de_sc (Evl.ev_op (Evl.ev_var rfl) Evl.ev_c Evl.rv_I0) rfl) da_nil)) (by simp)) H6 (Evl.Ex.refl _) _ fun r vs2 H7 n7 e7 hr d7 => ?_
        have hp7 := (e56.trans e7) _ _ hp4
        have l2 : vs2.length = (kids u).length := by rw [dpa_len d7, List.length_map]
        have l1 : vs'.length = pl.length := by rw [dpa_len dvs, List.length_map]
        refine ⟨p, r, vs', vs2, rfl, rfl, hp7, hr, Evl.sz_of (by rw [List.length_append] at u400; simp at u400; omega), ?_⟩
        have eM7 : ExM (p :: M) H7 (upd H7 p (.lst (vs' ++ vs2))) := ExM.mut (by simp)
        have kc := cnt_kids u
        refine ⟨cnts ((pl ++ (kids u).map fun w => (w, lv + 1)).map (·.1)), ?_, pl ++ (kids u).map fun w => (w, lv + 1), many + 1, _, _, _, vs' ++ vs2, rfl, (eH4.trans (e56.trans e7)).mut n1, upd_same, ?_, rfl, by omega, ?_, ?_⟩
        · rw [ec, List.map_append, cnts_app, List.map_map]
          have : (kids u).map ((fun x => x.1) ∘ fun w => (w, lv + 1)) = kids u := by simp [Function.comp_def]
          rw [this]
          omega
        · rw [List.map_append]
          refine dms_exM eM7 (dpa_app (dms_ex (e56.trans e7) dv4) ?_)
          have : ((kids u).map fun w => (w, lv + 1)).map encE = (kids u).map fun w => PyData.tuple [enc w, .int ((lv : Int) + 1)] := by
            rw [List.map_map]
            rfl
          rw [this]
          exact dms_less d7
        · rw [List.length_append] at u400 ⊢
          simp at u400
          omega
        · rw [iff, ec, List.map_append, cnts_app, List.map_map]
          have : (kids u).map ((fun x => x.1) ∘ fun w => (w, lv + 1)) = kids u := by simp [Function.comp_def]
          rw [this]
          constructor
          · rintro ⟨k1, k2⟩
            refine ⟨by omega, fun e he => ?_⟩
            rcases List.mem_append.mp he with he | he
            · exact k2 e (by simp [he])
            · obtain ⟨w, hw, rfl⟩ := List.mem_map.mp he
              exact (gi.mp (k2 (u, lv) (by simp))).2.2 w hw
          · rintro ⟨k1, k2⟩
            refine ⟨by omega, fun e he => ?_⟩
            rcases List.mem_append.mp he with he | he
            · exact k2 e (by simp [he])
            · rw [List.mem_singleton] at he
              subst he
              exact gi.mpr ⟨by omega, b3, fun w hw => k2 (w, lv + 1) (by simp [hw])⟩
    · -- the end
      have hnil : pile = [] := by
        cases pile with
        | nil => rfl
        | cons e pl =>
          cases hus
          cases hb
      subst hnil
      exact Evl.s_ret Evl.ev_c fun H4 e4 => qO (iff.mpr ⟨by simpa [cnts] using m40, by simp⟩) H4 (eH.trans (e3.trans e4))
end
end K21

set_option Elab.async false
set_option linter.all false
set_option maxRecDepth 100000
set_option maxHeartbeats 4000000
namespace K21
open PySem PySem.Spec PyProof.Rows L2 DK DD TM
section
variable {P : Program} {w : World} {K : PySem.W.Frag} {mg : Str → Option Value} {base : Heap}
abbrev iL (l : List Int) : PyData := .list (l.map .int)
abbrev RCheckT : List PyData → PyData → Prop := fun ds r => ∃ t, ds = [enc t] ∧ okT t ∧ r = .none
theorem ok_check_term (T : Top K mg) : FnOk P w K mg base CX0 6 T.check_term.f T.check_term.fd ["term"] (spR K RCheckT) := by
  refine T.check_term.F.ok sc_check_term (fun vs H Q E h => ?_) (fun cdv A outer s H vs Q E hr h => ?_)
  · obtain ⟨M, ds, r, _, hv, ⟨d, rfl, _⟩, _⟩ := h
    exact dpa_len hv
  obtain ⟨M, ds, r, hM, hv, ⟨t, rfl, ht, rfl⟩, q⟩ := h
  obtain ⟨v, rfl, hd⟩ := dpa1 hv
  refine ⟨_, (pss_one (ps_if (pt_not (pt_val (pe_call (ok_is_term T) (hr.mono (by omega)) (by rfl) T.is_term.g T.is_term.F.kp T.is_term.b .nil pass0 (pa_cons (pv 0) pa_nil)))) (pss_one DD.ps_never) pss_nil)), ?_⟩
  refine Evl.s_when (b := false) (Evl.et_is (Evl.et_not (Evl.et_B (ev_sc (de_callR (E := E0) hM (da_cons (de_v hd (by rfl)) da_nil) (R := RTerm) ⟨t, rfl, rfl⟩) rfl))) (by rw [decide_eq_true ht] <;> rfl)) (fun hb => nomatch hb) fun _ H1 e1 => ?_
  exact q _ H1 e1 .non
theorem at_int {l : List Int} {n : Nat} (h : n < l.length) : atI (l.map PyData.int) (n : Int) = some (.int (l.getD n 0)) := by
  have e : ixN (l.map PyData.int).length (n : Int) = some n := by
    rw [List.length_map]
    unfold ixN
    rw [if_pos (Int.natCast_nonneg n), if_pos (by omega)]
    rfl
  show (ixN _ _).bind _ = _
  rw [e, Option.bind_some, List.getElem?_map, List.getElem?_eq_getElem h, List.getD_eq_getElem?_getD, List.getElem?_eq_getElem h]
  rfl
theorem at_intLast {l : List Int} (h : 0 < l.length) : atI (l.map PyData.int) (-1) = some (.int (l.getD (l.length - 1) 0)) := by
  obtain ⟨m, hm⟩ : ∃ m, l.length = m + 1 := ⟨l.length - 1, by omega⟩
  have e : ixN (l.map PyData.int).length (-1) = some m := by
    rw [List.length_map, hm]
    exact ixN_last m
  show (ixN _ _).bind _ = _
  have hl : m < l.length := by omega
  rw [e, Option.bind_some, List.getElem?_map, List.getElem?_eq_getElem hl, hm, List.getD_eq_getElem?_getD, Nat.add_sub_cancel, List.getElem?_eq_getElem hl]
  rfl
abbrev RTell (L : Nat) : List PyData → PyData → Prop := fun ds r => ∃ t ps, ds = [enc t, iL ps] ∧ (∀ i ∈ shs t, i < (ps.length : Int)) ∧ fr t = true ∧ dep t ≤ L ∧ r = .int (val ps t)
theorem ok_tell (T : Top K mg) : ∀ L : Nat, FnOk P w K mg base CX0 (L + 1) T.tell.f T.tell.fd ["term", "prices"] (spR K (RTell L))
  | 0 => by
    have no : ∀ vs H Q E, ¬ spR K (RTell 0) vs H Q E := fun vs H Q E h => by
      obtain ⟨_, _, _, _, _, ⟨t, _, _, _, _, h, _⟩, _⟩ := h
      have := dep_pos t
      omega
    exact ⟨fun vs H Q E h => absurd h (no vs H Q E), fun A outer s H args us vs Q E _ _ _ _ h => absurd h (no vs H Q E)⟩
  | L + 1 => by
    have IH := ok_tell T L
    refine T.tell.F.ok sc_tell (fun vs H Q E h => ?_) (fun cdv A outer s H vs Q E hr h => ?_)
    · obtain ⟨M, ds, r, _, hv, ⟨t, ps, rfl, _⟩, _⟩ := h
      exact dpa_len hv
    obtain ⟨M, ds, r, hM, hv, ⟨t, ps, rfl, hin, hf, hdp, rfl⟩, q⟩ := h
    obtain ⟨v, v2, rfl, hd, hp⟩ := dpa2 hv
    refine ⟨_, (pss_cons (ps_set (i := 2) sc_tell.nd rfl (Or.inl rfl) (pe_ix ix_tup (pv 0) pe_int (fun _ _ => rfl)))
      (pss_cons (ps_if (pt_cmpR op_eq (pv 2) pe_str (nomark _)) (pss_one (ps_ret (pe_op op_add (pe_ix ix_list (pv 1) (pe_ix ix_tup (pv 0) pe_int (fun _ _ => rfl)) (fun _ _ => rfl)) (pe_ix ix_tup (pv 0) pe_int (fun _ _ => rfl))))) pss_nil)
      (pss_cons (ps_if (pt_cmpR op_eq (pv 2) pe_str (nomark _)) (pss_one (ps_ret (pe_ix ix_tup (pv 0) pe_int (fun _ _ => rfl)))) pss_nil)
      (pss_cons (ps_set (i := 3) sc_tell.nd rfl (Or.inl rfl) (pe_callB cr_sorted (by rfl) T.n_sorted (by decide +kernel) (pa_cons (pe_lc (own := [("part", 4)]) (g := gName 4) (tt := tYes) rfl sc_tell.nd (pi_tup (pe_ix ix_tup (pv 0) (pe_un un_neg pe_int) (fun _ _ => rfl))) (blkOk_by (N := N_tell) (sc := defScope s_tell) (by decide +kernel)) (fun _ _ _ _ _ => (pg_name (i := 4) sc_tell.nd rfl (Or.inl rfl))) (fun _ _ _ _ _ => pts_nil) (fun _ _ _ _ _ => (pe_call (IH) (hr.mono (by omega)) (by rfl) T.tell.g T.tell.F.kp T.tell.b .nil pass0 (pa_cons (pv 4) (pa_cons (pv 1) pa_nil))))) pa_nil)))
      (pss_cons (ps_if (pt_cmpR op_eq (pv 2) pe_str (nomark _)) (pss_one (ps_ret (pe_ix ix_list (pv 3) pe_int (fun _ _ => rfl)))) pss_nil)
      (pss_cons (ps_if (pt_cmpR op_eq (pv 2) pe_str (nomark _)) (pss_one (ps_ret (pe_ix ix_list (pv 3) (pe_un un_neg pe_int) (fun _ _ => rfl)))) pss_nil)
      (pss_one (ps_ret (pe_ix ix_list (pv 3) (pe_op op_sub (pe_ix ix_tup (pv 0) pe_int (fun _ _ => rfl)) pe_int) (fun _ _ => rfl)))))))))), ?_⟩
    refine Evl.q_asg (ev_word (Evl.ev_var (by rfl)) hd) fun H1 e1 => ?_
    have hd1 : Dm K M H1 v (.tuple (encL t)) := by
      rw [← enc_eq]
      exact dm_ex e1 hd
    have hp1 := dm_ex e1 hp
    match t, hd1, q, hf, hdp, hin with
    | .price n a, hd1, q, hf, hdp, hin =>
      refine Evl.q_when (b := true) (Evl.et_is (Evl.et_test (Evl.ev_op (Evl.ev_var rfl) Evl.ev_c (Evl.rv_eq rfl))) rfl) (fun _ H3 e3 => ?_) (fun hb => nomatch hb)
      have hd3 := dm_ex e3 hd1
      have hp3 := dm_ex e3 hp1
      have hn : n < ps.length := by have := hin n (by simp [shs]); omega
      refine Evl.s_ret (Evl.ev_op (ev_sc (de_ixL (de_v hp3 (by rfl)) (ev_sc (de_ixT (de_v hd3 (by rfl)) Evl.ev_c (d := .int n) rfl) rfl) (at_int hn)) rfl) (ev_sc (de_ixT (de_v hd3 (by rfl)) Evl.ev_c (d := .int a) rfl) rfl) Evl.rv_I0) fun H4 e4 => q _ H4 (e1.trans (e3.trans e4)) (by rw [val]; exact .int _)
    | .plain n, hd1, q, hf, hdp, hin =>
      refine Evl.q_when (b := false) (Evl.et_is (Evl.et_test (Evl.ev_op (Evl.ev_var rfl) Evl.ev_c (Evl.rv_eq rfl))) rfl) (fun hb => nomatch hb) (fun _ H3 e3 => ?_)
      refine Evl.q_when (b := true) (Evl.et_is (Evl.et_test (Evl.ev_op (Evl.ev_var rfl) Evl.ev_c (Evl.rv_eq rfl))) rfl) (fun _ H4 e4 => ?_) (fun hb => nomatch hb)
      have hd4 := dm_ex (e3.trans e4) hd1
      refine Evl.s_ret (ev_sc (de_ixT (de_v hd4 (by rfl)) Evl.ev_c (d := .int n) rfl) rfl) fun H5 e5 => q _ H5 (e1.trans ((e3.trans e4).trans e5)) (by rw [val]; exact .int _)
    | .node hd' ts, hd1, q, hf, hdp, hin =>
      have hff := (fr_iff (.node hd' ts)).mp hf
      have kl := form_kids hff.1
      have kd := (dep_iff (.node hd' ts) L).mp hdp
      simp only [kids] at kl kd
      have hi : ∀ u ∈ ts, ∀ i ∈ shs u, i < (ps.length : Int) := fun u hu i m => hin i (shss_mem.mpr ⟨u, hu, m⟩)
      have hwn : word (.node hd' ts) ≠ "price" ∧ word (.node hd' ts) ≠ "plain" := by cases hd' <;> (simp only [word]; decide +kernel)
      refine Evl.q_when (b := false) (Evl.et_is (Evl.et_test (Evl.ev_op (Evl.ev_var rfl) Evl.ev_c (Evl.rv_eq rfl))) (decide_eq_false fun z => hwn.1 (V.str.inj z))) (fun hb => nomatch hb) (fun _ H3 e3 => ?_)
      refine Evl.q_when (b := false) (Evl.et_is (Evl.et_test (Evl.ev_op (Evl.ev_var rfl) Evl.ev_c (Evl.rv_eq rfl))) (decide_eq_false fun z => hwn.2 (V.str.inj z))) (fun hb => nomatch hb) (fun _ H4 e4 => ?_)
      have e34 := e3.trans e4
      have hd4 := dm_ex e34 hd1
      have hp4 := dm_ex e34 hp1
      have hM4 := hM.ex (e1.trans e34)
      refine q_asgDL (dl_asc (is := ts.map (val ps)) (by
        rw [List.map_map]
        exact dl_lcT (M := M) (l := ts) (enc := enc) (f := fun u => .int (val ps u)) hM4 (de_ixT (de_v hd4 (by rfl)) (Evl.ev_un Evl.ev_c Evl.ru_neg) (encL_kids (t := .node hd' ts) rfl)) (by omega) (fun _ => rfl)
          (fun u hu x H5 D n5 e5 hM5 hx => de_callR hM5 (da_cons (de_v hx (by rfl)) (da_cons (de_v (dm_ex e5 (dm_add n5 hp4)) (by rfl)) da_nil)) (R := RTell L) ⟨u, ps, rfl, hi u hu, hff.2 u hu, kd u hu, rfl⟩)) (by rw [List.length_map]; omega)) fun p vs H5 n5 e5 h5 d5 => ?_
      obtain rfl := dpa_ints d5
      have e05 := (e1.trans e34).trans e5
      have hd5 := dm_ex e5 hd4
      have hA : Dm K M H5 (.ref p) (iL (asc (ts.map (val ps)))) := .lst (Evl.sq_of (mi_of (hM4.nin n5) h5)) (dp_ints _)
      rw [val, vals_map] at q
      have hl : (asc (ts.map (val ps))).length = ts.length := by rw [asc_len, List.length_map]
      match hd', hd5, q, hff with
      | .least, hd5, q, hff =>
        have h1 := hff.1
        simp [form] at h1
        refine Evl.q_when (b := true) (Evl.et_is (Evl.et_test (Evl.ev_op (Evl.ev_var rfl) Evl.ev_c (Evl.rv_eq rfl))) rfl) (fun _ H6 e6 => ?_) (fun hb => nomatch hb)
        exact Evl.s_ret (ev_sc (de_ixL (de_v (dm_ex e6 hA) (by rfl)) Evl.ev_c (at_int (n := 0) (by omega))) rfl) fun H7 e7 => q _ H7 (e05.trans (e6.trans e7)) (.int _)
      | .most, hd5, q, hff =>
        have h1 := hff.1
        simp [form] at h1
        refine Evl.q_when (b := false) (Evl.et_is (Evl.et_test (Evl.ev_op (Evl.ev_var rfl) Evl.ev_c (Evl.rv_eq rfl))) rfl) (fun hb => nomatch hb) (fun _ H6 e6 => ?_)
        refine Evl.q_when (b := true) (Evl.et_is (Evl.et_test (Evl.ev_op (Evl.ev_var rfl) Evl.ev_c (Evl.rv_eq rfl))) rfl) (fun _ H8 e8 => ?_) (fun hb => nomatch hb)
        exact Evl.s_ret (ev_sc (de_ixL (de_v (dm_ex (e6.trans e8) hA) (by rfl)) (Evl.ev_un Evl.ev_c Evl.ru_neg) (at_intLast (by omega))) rfl) fun H7 e7 => q _ H7 (e05.trans ((e6.trans e8).trans e7)) (.int _)
      | .rank k, hd5, q, hff =>
        have h1 := hff.1
        simp [form] at h1
        refine Evl.q_when (b := false) (Evl.et_is (Evl.et_test (Evl.ev_op (Evl.ev_var rfl) Evl.ev_c (Evl.rv_eq rfl))) rfl) (fun hb => nomatch hb) (fun _ H6 e6 => ?_)
        refine Evl.q_when (b := false) (Evl.et_is (Evl.et_test (Evl.ev_op (Evl.ev_var rfl) Evl.ev_c (Evl.rv_eq rfl))) rfl) (fun hb => nomatch hb) (fun _ H8 e8 => ?_)
        have e68 := e6.trans e8
        exact Evl.s_ret (ev_sc (de_ixL (de_v (dm_ex e68 hA) (by rfl)) (Evl.ev_is (Evl.ev_op (ev_sc (de_ixT (de_v (dm_ex e68 hd5) (by rfl)) Evl.ev_c (d := .int k) rfl) rfl) Evl.ev_c Evl.rv_I0) (congrArg V.int (a₂ := ((k - 1 : Nat) : Int)) (by omega))) (at_int (by omega))) rfl) fun H7 e7 => q _ H7 (e05.trans (e68.trans e7)) (.int _)
end
end K21
namespace K21
open PySem PySem.Spec PyProof.Rows L2 DK DD TM
section
variable {P : Program} {w : World} {K : PySem.W.Frag} {mg : Str → Option Value} {base : Heap}
abbrev RAllS (L : Nat) : List PyData → List PyData → Prop := fun ds rs => ∃ t, ds = [enc t] ∧ fr t = true ∧ cnt t ≤ 40 ∧ dep t ≤ L ∧ rs = (shs t).map PyData.int
theorem ok__all_shops (T : Top K mg) : ∀ L : Nat, FnOk P w K mg base CX0 (L + 3) T._all_shops.f T._all_shops.fd ["term"] (spRL K (RAllS L))
  | 0 => by
    have no : ∀ vs H Q E, ¬ spRL K (RAllS 0) vs H Q E := fun vs H Q E h => by
      obtain ⟨_, _, _, _, _, ⟨t, _, _, _, h, _⟩, _⟩ := h
      have := dep_pos t
      omega
    exact ⟨fun vs H Q E h => absurd h (no vs H Q E), fun A outer s H args us vs Q E _ _ _ _ h => absurd h (no vs H Q E)⟩
  | L + 1 => by
    have IH := ok__all_shops T L
    refine T._all_shops.F.ok sc__all_shops (fun vs H Q E h => ?_) (fun cdv A outer s H vs Q E hr h => ?_)
    · obtain ⟨M, ds, rs, _, hv, ⟨t, rfl, _⟩, _⟩ := h
      exact dpa_len hv
    obtain ⟨M, ds, rs, hM, hv, ⟨t, rfl, hf, hc, hdp, rfl⟩, q⟩ := h
    obtain ⟨v, rfl, hd⟩ := dpa1 hv
    refine ⟨_, (pss_cons (ps_if (pt_cmpR op_eq (pe_ix ix_tup (pv 0) pe_int (fun _ _ => rfl)) pe_str (nomark _)) (pss_one (ps_ret (pe_lst (pa_cons (pe_ix ix_tup (pv 0) pe_int (fun _ _ => rfl)) pa_nil)))) pss_nil)
      (pss_one (ps_ret (pe_lc2 (own := [("part", 1), ("shop", 2)]) (vs1 := [2]) (g := gName 1) (g1 := gName 2) (tt := tYes) (tt1 := tYes) (wi1 := iList K _) rfl sc__all_shops.nd (pi_tup (pe_call (ok_parts_of T) (hr.mono (by omega)) (by rfl) T.parts_of.g T.parts_of.F.kp T.parts_of.b .nil pass0 (pa_cons (pv 0) pa_nil))) (blkOk_by (N := N__all_shops) (sc := defScope s__all_shops) (by decide +kernel)) (by decide) (fun _ _ _ _ _ => (pg_name (i := 1) sc__all_shops.nd rfl (Or.inl rfl))) (fun _ _ _ _ _ => pts_nil) (fun _ _ _ _ _ => (pi_list (pe_call (IH) (hr.mono (by omega)) (by rfl) T._all_shops.g T._all_shops.F.kp T._all_shops.b .nil pass0 (pa_cons (pv 1) pa_nil)))) (fun _ _ _ _ _ => (pg_name (i := 2) sc__all_shops.nd rfl (Or.inl rfl))) (fun _ _ _ _ _ => pts_nil) (fun _ _ _ _ _ => (pv 2)))))), ?_⟩
    have sl : (shs t).length ≤ 40 := Nat.le_trans (shs_len t) hc
    refine Evl.q_when (Evl.et_test (Evl.ev_op (ev_word (Evl.ev_var (by rfl)) hd) Evl.ev_c (Evl.rv_eq rfl))) (fun hb H1 e1 => ?_) (fun hb H1 e1 => ?_)
    · have hw : word t = "price" := V.str.inj (of_decide_eq_true hb)
      have hd1 := dm_ex e1 hd
      rw [enc_eq] at hd1
      match t, hw, hd1, q with
      | .price n a, hw, hd1, q =>
        refine s_retDL (dl_lst (da_cons (de_ixT (de_v hd1 (by rfl)) Evl.ev_c (d := .int n) rfl) da_nil) (by simp)) fun p vs H2 n2 e2 h2 d2 => q p vs H2 (Evl.fresh_back e1 n2) (e1.trans e2) h2 d2
      | .plain n, hw, hd1, q => exact absurd hw (by simp only [word]; decide +kernel)
      | .node .least ps, hw, hd1, q => exact absurd hw (by simp only [word]; decide +kernel)
      | .node .most ps, hw, hd1, q => exact absurd hw (by simp only [word]; decide +kernel)
      | .node (.rank k) ps, hw, hd1, q => exact absurd hw (by simp only [word]; decide +kernel)
    · have hw : word t ≠ "price" := fun z => of_decide_eq_false hb (congrArg V.str z)
      have hs : shs t = (kids t).flatMap shs := by
        match t, hw with
        | .price n a, hw => exact absurd rfl hw
        | .plain n, _ => rfl
        | .node h ps, _ => exact shss_flat ps
      have hM1 := hM.ex e1
      have hd1 := dm_ex e1 hd
      have hff := (fr_iff t).mp hf
      have kd := (dep_iff t L).mp hdp
      have hcn := cnt_kids t
      have e : ((kids t).flatMap fun u => (shs u).map PyData.int) = (shs t).map PyData.int := by rw [hs, List.map_flatMap]
      refine s_retDL (ds := (shs t).map PyData.int) (by
        rw [← e]
        exact dl_lc2 (l := kids t) (enc := enc) (f := fun u => (shs u).map PyData.int) hM1 (de_callR (E := E0) hM1 (da_cons (de_v hd1 (by rfl)) da_nil) (R := RParts) ⟨t, rfl, rfl⟩) (by rw [e, List.length_map]; omega) (fun _ => rfl) (fun _ _ => rfl) (fun _ _ => rfl)
          (fun u hu x H2 D n2 e2 hM2 hx => de_dl hM2 (dl_callR (R := RAllS L) hM2 (da_cons (de_v hx (by rfl)) da_nil) ⟨u, rfl, hff.2 u hu, by have := cnts_mem hu; omega, kd u hu, rfl⟩))) fun p vs H2 n2 e2 h2 d2 => q p vs H2 (Evl.fresh_back e1 n2) (e1.trans e2) h2 d2
abbrev RShops : List PyData → List PyData → Prop := fun ds rs => ∃ t, ds = [enc t] ∧ okT t ∧ rs = (uni (shs t)).map PyData.int
theorem ok_shops_in (T : Top K mg) : FnOk P w K mg base CX0 10 T.shops_in.f T.shops_in.fd ["term"] (spRL K RShops) := by
  refine T.shops_in.F.ok sc_shops_in (fun vs H Q E h => ?_) (fun cdv A outer s H vs Q E hr h => ?_)
  · obtain ⟨M, ds, rs, _, hv, ⟨t, rfl, _⟩, _⟩ := h
    exact dpa_len hv
  obtain ⟨M, ds, rs, hM, hv, ⟨t, rfl, ht, rfl⟩, q⟩ := h
  obtain ⟨v, rfl, hd⟩ := dpa1 hv
  refine ⟨_, (pss_cons (ps_expr (pe_call (ok_check_term T) (hr.mono (by omega)) (by rfl) T.check_term.g T.check_term.F.kp T.check_term.b .nil pass0 (pa_cons (pv 0) pa_nil)))
      (pss_one (ps_ret (pe_callB (cr_sortedSet rfl) (by rfl) T.n_sorted (by decide +kernel) (pa_cons (pe_callTy (SE.cr_setI rfl) (by rfl) T.n_set (by decide +kernel) (pa_cons (pe_call (ok__all_shops T 6) (hr.mono (by omega)) (by rfl) T._all_shops.g T._all_shops.F.kp T._all_shops.b .nil pass0 (pa_cons (pv 0) pa_nil)) pa_nil)) pa_nil))))), ?_⟩
  have sl : (shs t).length ≤ 40 := Nat.le_trans (shs_len t) ht.1
  refine Evl.q_drop (ev_sc (u := .non) (de_callR (E := E0) hM (da_cons (de_v hd (by rfl)) da_nil) (R := RCheckT) ⟨t, rfl, ht, rfl⟩) rfl) fun H1 e1 => ?_
  exact s_retDL (dl_uni (dl_callR (E := E0) (hM.ex e1) (da_cons (de_v (dm_ex e1 hd) (by rfl)) da_nil) (R := RAllS 6) ⟨t, rfl, ht.2.2, ht.1, ht.2.1, rfl⟩) (by omega)) fun p vs H2 n2 e2 h2 d2 => q p vs H2 (Evl.fresh_back e1 n2) (e1.trans e2) h2 d2
/-- which shops a list of rules may name -/
abbrev RFits : List PyData → PyData → Prop := fun ds r => ∃ t many, ds = [enc t, .int many] ∧ okT t ∧ r = .bool (decide (∀ i ∈ shs t, i < many))
theorem ok_fits (T : Top K mg) : FnOk P w K mg base CX0 11 T.fits.f T.fits.fd ["term", "many"] (spR K RFits) := by
  refine T.fits.F.ok sc_fits (fun vs H Q E h => ?_) (fun cdv A outer s H vs Q E hr h => ?_)
  · obtain ⟨M, ds, r, _, hv, ⟨t, many, rfl, _⟩, _⟩ := h
    exact dpa_len hv
  obtain ⟨M, ds, r, hM, hv, ⟨t, many, rfl, ht, rfl⟩, q⟩ := h
  obtain ⟨v, v2, rfl, hd, h2⟩ := dpa2 hv
  obtain rfl := dpInt h2
  refine ⟨_, (pss_one (ps_ret (pe_callB (cr_all rfl) (by rfl) T.n_all (by decide +kernel) (pa_cons (pe_lc (own := [("shop", 2)]) (g := gName 2) (tt := tYes) rfl sc_fits.nd (pi_list (pe_call (ok_shops_in T) (hr.mono (by omega)) (by rfl) T.shops_in.g T.shops_in.F.kp T.shops_in.b .nil pass0 (pa_cons (pv 0) pa_nil))) (blkOk_by (N := N_fits) (sc := defScope s_fits) (by decide +kernel)) (fun _ _ _ _ _ => (pg_name (i := 2) sc_fits.nd rfl (Or.inl rfl))) (fun _ _ _ _ _ => pts_nil) (fun _ _ _ _ _ => (pe_cmpR op_lt (pv 2) (pv 1) (nomark _)))) pa_nil)))), ?_⟩
  have ul := uni_len (shs t)
  have sl := shs_len t
  have h40 := ht.1
  refine Evl.s_ret (Evl.ev_is (ev_allL (bs := (uni (shs t)).map fun i => decide (i < many)) (by
    rw [List.map_map]
    exact dl_lcL (M := M) (l := uni (shs t)) (enc := PyData.int) (f := fun i => .bool (decide (i < many))) hM (de_dl hM (dl_callR (E := E0) hM (da_cons (de_v hd (by rfl)) da_nil) (R := RShops) ⟨t, rfl, ht, rfl⟩)) (by omega) (fun _ => rfl)
      (fun i hi x H1 D n1 e1 hM1 hx => by
        obtain rfl := dpInt hx
        exact de_sc (Evl.ev_op (Evl.ev_var rfl) (Evl.ev_var rfl) Evl.rv_I0) rfl))) (congrArg V.bl ?_)) fun H1 e1 => q _ H1 e1 (.bl _)
  rw [Bool.eq_iff_iff, decide_eq_true_iff, List.all_map, List.all_eq_true]
  simp only [Function.comp_def, id, decide_eq_true_eq, mem_uni]
abbrev RShop : List PyData → PyData → Prop := fun ds r => ∃ i many, ds = [.int i, .int many] ∧ r = .bool (decide (0 ≤ i) && decide (i ≤ many - 1))
theorem ok_is_shop (T : Top K mg) : FnOk P w K mg base CX0 3 T.is_shop.f T.is_shop.fd ["value", "many"] (spR K RShop) := by
  refine T.is_shop.F.ok sc_is_shop (fun vs H Q E h => ?_) (fun cdv A outer s H vs Q E hr h => ?_)
  · obtain ⟨M, ds, r, _, hv, ⟨i, many, rfl, _⟩, _⟩ := h
    exact dpa_len hv
  obtain ⟨M, ds, r, hM, hv, ⟨i, many, rfl, rfl⟩, q⟩ := h
  obtain ⟨v, v2, rfl, h1, h2⟩ := dpa2 hv
  obtain rfl := dpInt h1
  obtain rfl := dpInt h2
  refine ⟨_, (pss_one (ps_ret (pe_call (ok_is_int_from T) (hr.mono (by omega)) (by rfl) T.is_int_from.g T.is_int_from.F.kp T.is_int_from.b .nil pass0 (pa_cons (pv 0) (pa_cons pe_int (pa_cons (pe_op op_sub (pv 1) pe_int) pa_nil)))))), ?_⟩
  exact Evl.s_ret (ev_sc (de_callR (E := E0) hM (da_cons (de_sc (Evl.ev_var rfl) rfl) (da_cons (de_sc Evl.ev_c rfl) (da_cons (de_sc (Evl.ev_op (Evl.ev_var rfl) Evl.ev_c Evl.rv_I0) rfl) da_nil))) (R := RFrom) ⟨.int i, 0, many - 1, rfl, rfl⟩) rfl) fun H1 e => q _ H1 e (.bl _)
abbrev RIntL : List PyData → PyData → Prop := fun ds r => ∃ is lo hi, ds = [iL is, .int lo, .int hi] ∧ is.length ≤ 1000 ∧ r = .bool (decide (lo ≤ (is.length : Int)) && decide ((is.length : Int) ≤ hi))
theorem ok_is_int_list (T : Top K mg) : FnOk P w K mg base CX0 3 T.is_int_list.f T.is_int_list.fd ["value", "fewest", "greatest"] (spR K RIntL) := by
  refine T.is_int_list.F.ok sc_is_int_list (fun vs H Q E h => ?_) (fun cdv A outer s H vs Q E hr h => ?_)
  · obtain ⟨M, ds, r, _, hv, ⟨is, lo, hi, rfl, _⟩, _⟩ := h
    exact dpa_len hv
  obtain ⟨M, ds, r, hM, hv, ⟨is, lo, hi, rfl, hz, rfl⟩, q⟩ := h
  obtain ⟨v, v1, v2, rfl, hd, h1, h2⟩ := dpa3 hv
  obtain rfl := dpInt h1
  obtain rfl := dpInt h2
  refine ⟨_, (pss_one (ps_ret (pe_and (pe_callB call_isi (by rfl) T.n_isinstance (by decide +kernel) (pa_cons (pv 0) (pa_cons (pe_bltn (v := .ty "list") rfl T.n_list (by decide +kernel) rfl) pa_nil))) (pe_and (pe_chain op_le op_le (pv 1) (pe_callB (r := Evl.rLenS K) call_len_seq (by rfl) T.n_len PySem.boot_len (pa_cons (pv 0) pa_nil)) (pv 2)) (pe_one (pe_callB (cr_all rfl) (by rfl) T.n_all (by decide +kernel) (pa_cons (pe_lc (own := [("item", 3)]) (g := gName 3) (tt := tYes) rfl sc_is_int_list.nd (pi_list (pv 0)) (blkOk_by (N := N_is_int_list) (sc := defScope s_is_int_list) (by decide +kernel)) (fun _ _ _ _ _ => (pg_name (i := 3) sc_is_int_list.nd rfl (Or.inl rfl))) (fun _ _ _ _ _ => pts_nil) (fun _ _ _ _ _ => (pe_call (ok_is_int T) (hr.mono (by omega)) (by rfl) T.is_int.g T.is_int.F.kp T.is_int.b .nil pass0 (pa_cons (pv 3) pa_nil)))) pa_nil))))))), ?_⟩
  refine Evl.s_ret (Evl.ev_is (Evl.ev_andV (ev_isi (de_v hd (by rfl)) (kit_list _)) (fun _ => Evl.ev_andV (ev_chain (Evl.ev_var rfl) (ev_lenD (de_v hd (by rfl)) (.inr rfl)) (fun _ => Evl.ev_var rfl)) (fun _ => ev_allL (bs := is.map fun _ => true) (by
    rw [List.map_map]
    exact dl_lcL (M := M) (l := is) (enc := PyData.int) (f := fun _ => .bool true) hM (de_v hd (by rfl)) hz (fun _ => rfl) (fun i hi x H1 D n1 e1 hM1 hx => de_callR (E := E0) hM1 (da_cons (de_v hx (by rfl)) da_nil) (R := RIsInt) ⟨.int i, rfl, rfl⟩))))) (congrArg V.bl ?_)) fun H1 e1 => q _ H1 e1 (.bl _)
  simp [isLst]
/-- a list of rules for as many shops -/
def okR (rs : List Trm) : Prop := 1 ≤ rs.length ∧ rs.length ≤ 6 ∧ ∀ t ∈ rs, okT t ∧ ∀ i ∈ shs t, i < (rs.length : Int)
abbrev eR (rs : List Trm) : PyData := .list (rs.map enc)
abbrev RChkR : List PyData → PyData → Prop := fun ds r => ∃ rs, ds = [eR rs] ∧ okR rs ∧ r = .none
theorem ok_check_rules (T : Top K mg) : FnOk P w K mg base CX0 12 T.check_rules.f T.check_rules.fd ["rules"] (spR K RChkR) := by
  refine T.check_rules.F.ok sc_check_rules (fun vs H Q E h => ?_) (fun cdv A outer s H vs Q E hr h => ?_)
  · obtain ⟨M, ds, r, _, hv, ⟨rs, rfl, _⟩, _⟩ := h
    exact dpa_len hv
  obtain ⟨M, ds, r, hM, hv, ⟨rs, rfl, ⟨r1, r6, rok⟩, rfl⟩, q⟩ := h
  obtain ⟨v, rfl, hd⟩ := dpa1 hv
  refine ⟨_, (pss_cons (ps_if (PW.pt (pw_or (pt_not (pt_val (pe_callB call_isi (by rfl) T.n_isinstance (by decide +kernel) (pa_cons (pv 0) (pa_cons (pe_bltn (v := .ty "list") rfl T.n_list (by decide +kernel) rfl) pa_nil))))) (pw_or1 (pt_not (pt_chain op_le op_le pe_int (pe_callB (r := Evl.rLenS K) call_len_seq (by rfl) T.n_len PySem.boot_len (pa_cons (pv 0) pa_nil)) (pe_globI rfl T.g_MOST_SHOPS)))))) (pss_one DD.ps_never) pss_nil)
      (pss_one (ps_if (pt_not (pt_val (pe_callB (cr_all rfl) (by rfl) T.n_all (by decide +kernel) (pa_cons (pe_lc (own := [("rule", 1)]) (g := gName 1) (tt := tYes) rfl sc_check_rules.nd (pi_list (pv 0)) (blkOk_by (N := N_check_rules) (sc := defScope s_check_rules) (by decide +kernel)) (fun _ _ _ _ _ => (pg_name (i := 1) sc_check_rules.nd rfl (Or.inl rfl))) (fun _ _ _ _ _ => pts_nil) (fun _ _ _ _ _ => (pe_and (pe_call (ok_is_term T) (hr.mono (by omega)) (by rfl) T.is_term.g T.is_term.F.kp T.is_term.b .nil pass0 (pa_cons (pv 1) pa_nil)) (pe_one (pe_call (ok_fits T) (hr.mono (by omega)) (by rfl) T.fits.g T.fits.F.kp T.fits.b .nil pass0 (pa_cons (pv 1) (pa_cons (pe_callB (r := Evl.rLenS K) call_len_seq (by rfl) T.n_len PySem.boot_len (pa_cons (pv 0) pa_nil)) pa_nil))))))) pa_nil)))) (pss_one DD.ps_never) pss_nil))), ?_⟩
  have hlen : ((rs.map enc).length : Int) = (rs.length : Int) := by rw [List.length_map]
  refine Evl.q_when (b := false) (Evl.et_is (Evl.et_or (Evl.et_not (Evl.et_B (ev_isi (de_v hd (by rfl)) (kit_list _)))) (fun _ => Evl.et_not (Evl.et_test (ev_chain Evl.ev_c (ev_lenD (de_v hd (by rfl)) (.inr rfl)) (fun _ => Evl.ev_c))))) (by
    rw [hlen]
    have a1 : decide ((1 : Int) ≤ (rs.length : Int)) = true := decide_eq_true (by omega)
    have a2 : decide ((rs.length : Int) ≤ v_MOST_SHOPS) = true := decide_eq_true (by simp only [v_MOST_SHOPS]; omega)
    simp [isLst, a1, a2])) (fun hb => nomatch hb) fun _ H1 e1 => ?_
  have hM1 := hM.ex e1
  have hd1 := dm_ex e1 hd
  refine Evl.s_when (b := false) (Evl.et_is (Evl.et_not (Evl.et_B (ev_allL (bs := rs.map fun _ => true) (by
    rw [List.map_map]
    exact dl_lcL (M := M) (l := rs) (enc := enc) (f := fun _ => .bool true) hM1 (de_v hd1 (by rfl)) (by omega) (fun _ => rfl) (fun t ht x H2 D n2 e2 hM2 hx =>
      de_sc (Evl.ev_is (Evl.ev_andV (ev_sc (de_callR (E := E0) hM2 (da_cons (de_v hx (by rfl)) da_nil) (R := RTerm) ⟨t, rfl, rfl⟩) rfl) (fun _ =>
        ev_sc (de_callR (E := E0) hM2 (da_cons (de_v hx (by rfl)) (da_cons (de_sc (d := .int (rs.length : Int)) (by rw [← hlen]; exact ev_lenD (de_v (dm_ex e2 (dm_add n2 hd1)) (by rfl)) (.inr rfl)) rfl) da_nil)) (R := RFits) ⟨t, (rs.length : Int), rfl, (rok t ht).1, rfl⟩) rfl))
        (by rw [decide_eq_true (rok t ht).1, decide_eq_true (rok t ht).2] <;> rfl)) rfl))))) (by simp)) (fun hb => nomatch hb) fun _ H2 e2 => ?_
  exact q _ H2 (e1.trans e2) .non
abbrev RChkP : List PyData → PyData → Prop := fun ds r => ∃ ps : List Int, ds = [iL ps, .int (ps.length : Int)] ∧ ps.length ≤ 1000 ∧ r = .none
theorem ok_check_prices (T : Top K mg) : FnOk P w K mg base CX0 4 T.check_prices.f T.check_prices.fd ["prices", "many"] (spR K RChkP) := by
  refine T.check_prices.F.ok sc_check_prices (fun vs H Q E h => ?_) (fun cdv A outer s H vs Q E hr h => ?_)
  · obtain ⟨M, ds, r, _, hv, ⟨ps, rfl, _⟩, _⟩ := h
    exact dpa_len hv
  obtain ⟨M, ds, r, hM, hv, ⟨ps, rfl, hz, rfl⟩, q⟩ := h
  obtain ⟨v, v2, rfl, hd, h2⟩ := dpa2 hv
  obtain rfl := dpInt h2
  refine ⟨_, (pss_one (ps_if (pt_not (pt_val (pe_call (ok_is_int_list T) (hr.mono (by omega)) (by rfl) T.is_int_list.g T.is_int_list.F.kp T.is_int_list.b .nil pass0 (pa_cons (pv 0) (pa_cons (pv 1) (pa_cons (pv 1) pa_nil)))))) (pss_one DD.ps_never) pss_nil)), ?_⟩
  refine Evl.s_when (b := false) (Evl.et_is (Evl.et_not (Evl.et_B (ev_sc (de_callR (E := E0) hM (da_cons (de_v hd (by rfl)) (da_cons (de_sc (Evl.ev_var rfl) rfl) (da_cons (de_sc (Evl.ev_var rfl) rfl) da_nil))) (R := RIntL) ⟨ps, _, _, rfl, hz, rfl⟩) rfl))) (by simp)) (fun hb => nomatch hb) fun _ H1 e1 => ?_
  exact q _ H1 e1 .non
abbrev RChkM : List PyData → PyData → Prop := fun ds r => ∃ rs ps, ds = [eR rs, iL ps] ∧ okR rs ∧ ps.length = rs.length ∧ r = .none
theorem ok_check_market (T : Top K mg) : FnOk P w K mg base CX0 13 T.check_market.f T.check_market.fd ["rules", "prices"] (spR K RChkM) := by
  refine T.check_market.F.ok sc_check_market (fun vs H Q E h => ?_) (fun cdv A outer s H vs Q E hr h => ?_)
  · obtain ⟨M, ds, r, _, hv, ⟨rs, ps, rfl, _⟩, _⟩ := h
    exact dpa_len hv
  obtain ⟨M, ds, r, hM, hv, ⟨rs, ps, rfl, hR, hl, rfl⟩, q⟩ := h
  obtain ⟨v, v2, rfl, hd, hp⟩ := dpa2 hv
  refine ⟨_, (pss_cons (ps_expr (pe_call (ok_check_rules T) (hr.mono (by omega)) (by rfl) T.check_rules.g T.check_rules.F.kp T.check_rules.b .nil pass0 (pa_cons (pv 0) pa_nil)))
      (pss_one (ps_expr (pe_call (ok_check_prices T) (hr.mono (by omega)) (by rfl) T.check_prices.g T.check_prices.F.kp T.check_prices.b .nil pass0 (pa_cons (pv 1) (pa_cons (pe_callB (r := Evl.rLenS K) call_len_seq (by rfl) T.n_len PySem.boot_len (pa_cons (pv 0) pa_nil)) pa_nil)))))), ?_⟩
  refine Evl.q_drop (ev_sc (u := .non) (de_callR (E := E0) hM (da_cons (de_v hd (by rfl)) da_nil) (R := RChkR) ⟨rs, rfl, hR, rfl⟩) rfl) fun H1 e1 => ?_
  have hl' : (ps.length : Int) = ((rs.map enc).length : Int) := by rw [List.length_map, hl]
  refine Evl.s_drop (ev_sc (u := .non) (de_callR (E := E0) (hM.ex e1) (da_cons (de_v (dm_ex e1 hp) (by rfl)) (da_cons (de_sc (d := .int (ps.length : Int)) (by rw [hl']; exact ev_lenD (de_v (dm_ex e1 hd) (by rfl)) (.inr rfl)) rfl) da_nil)) (R := RChkP) ⟨ps, rfl, by have := hR.2.1; omega, rfl⟩) rfl) fun H2 e2 => ?_
  exact q _ H2 (e1.trans e2) .non
abbrev RChkO : List PyData → PyData → Prop := fun ds r => ∃ (os : List Int) (many few : Int), ds = [iL os, .int many, .int few] ∧ few ≤ (os.length : Int) ∧ os.length ≤ 1000 ∧ (∀ o ∈ os, 0 ≤ o ∧ o < many) ∧ r = .none
theorem ok_check_order (T : Top K mg) : FnOk P w K mg base CX0 4 T.check_order.f T.check_order.fd ["order", "many", "fewest"] (spR K RChkO) := by
  refine T.check_order.F.ok sc_check_order (fun vs H Q E h => ?_) (fun cdv A outer s H vs Q E hr h => ?_)
  · obtain ⟨M, ds, r, _, hv, ⟨os, many, few, rfl, _⟩, _⟩ := h
    exact dpa_len hv
  obtain ⟨M, ds, r, hM, hv, ⟨os, many, few, rfl, h1, h2, h3, rfl⟩, q⟩ := h
  obtain ⟨v, v1, v2, rfl, hd, hv1, hv2⟩ := dpa3 hv
  obtain rfl := dpInt hv1
  obtain rfl := dpInt hv2
  refine ⟨_, (pss_cons (ps_if (PW.pt (pw_or (pt_not (pt_val (pe_callB call_isi (by rfl) T.n_isinstance (by decide +kernel) (pa_cons (pv 0) (pa_cons (pe_bltn (v := .ty "list") rfl T.n_list (by decide +kernel) rfl) pa_nil))))) (pw_or1 (pt_not (pt_chain op_le op_le (pv 2) (pe_callB (r := Evl.rLenS K) call_len_seq (by rfl) T.n_len PySem.boot_len (pa_cons (pv 0) pa_nil)) (pe_globI rfl T.g__LONGEST_ORDER)))))) (pss_one DD.ps_never) pss_nil)
      (pss_one (ps_if (pt_not (pt_val (pe_callB (cr_all rfl) (by rfl) T.n_all (by decide +kernel) (pa_cons (pe_lc (own := [("shop", 3)]) (g := gName 3) (tt := tYes) rfl sc_check_order.nd (pi_list (pv 0)) (blkOk_by (N := N_check_order) (sc := defScope s_check_order) (by decide +kernel)) (fun _ _ _ _ _ => (pg_name (i := 3) sc_check_order.nd rfl (Or.inl rfl))) (fun _ _ _ _ _ => pts_nil) (fun _ _ _ _ _ => (pe_call (ok_is_shop T) (hr.mono (by omega)) (by rfl) T.is_shop.g T.is_shop.F.kp T.is_shop.b .nil pass0 (pa_cons (pv 3) (pa_cons (pv 1) pa_nil))))) pa_nil)))) (pss_one DD.ps_never) pss_nil))), ?_⟩
  have hlen : ((os.map PyData.int).length : Int) = (os.length : Int) := by rw [List.length_map]
  refine Evl.q_when (b := false) (Evl.et_is (Evl.et_or (Evl.et_not (Evl.et_B (ev_isi (de_v hd (by rfl)) (kit_list _)))) (fun _ => Evl.et_not (Evl.et_test (ev_chain (Evl.ev_var rfl) (ev_lenD (de_v hd (by rfl)) (.inr rfl)) (fun _ => Evl.ev_c))))) (by
    rw [hlen]
    have a1 : decide (few ≤ (os.length : Int)) = true := decide_eq_true h1
    have a2 : decide ((os.length : Int) ≤ 1000) = true := decide_eq_true (by omega)
    simp [isLst, a1, a2])) (fun hb => nomatch hb) fun _ H1 e1 => ?_
  have hM1 := hM.ex e1
  refine Evl.s_when (b := false) (Evl.et_is (Evl.et_not (Evl.et_B (ev_allL (bs := os.map fun o => decide (0 ≤ o) && decide (o ≤ many - 1)) (by
    rw [List.map_map]
    exact dl_lcL (M := M) (l := os) (enc := PyData.int) (f := fun o => .bool (decide (0 ≤ o) && decide (o ≤ many - 1))) hM1 (de_v (dm_ex e1 hd) (by rfl)) h2 (fun _ => rfl) (fun i hi x H2 D n2 e2 hM2 hx =>
      de_callR (E := E0) hM2 (da_cons (de_v hx (by rfl)) (da_cons (de_sc (Evl.ev_var rfl) rfl) da_nil)) (R := RShop) ⟨i, many, rfl, rfl⟩))))) (by
    rw [List.all_map, Bool.not_eq_false', List.all_eq_true]
    intro o ho
    obtain ⟨k1, k2⟩ := h3 o ho
    simp only [Function.comp_def, id, Bool.and_eq_true, decide_eq_true_eq]
    omega)) (fun hb => nomatch hb) fun _ H2 e2 => ?_
  exact q _ H2 (e1.trans e2) .non
end
end K21

set_option Elab.async false
set_option linter.all false
set_option maxRecDepth 100000
set_option maxHeartbeats 4000000
namespace K21
open PySem PySem.Spec PyProof.Rows L2 DK DD TM
section
variable {P : Program} {w : World} {K : PySem.W.Frag} {mg : Str → Option Value} {base : Heap}
/-- the prices behind a repricing -/
def rep (rs : List Trm) (ps : List Int) (s : Int) : List Int := ps.set s.toNat (val ps (rs.getD s.toNat (.plain 0)))
theorem rep_len (rs : List Trm) (ps : List Int) (s : Int) : (rep rs ps s).length = ps.length := by
  unfold rep
  rw [List.length_set]
theorem at_enc {rs : List Trm} {n : Nat} (h : n < rs.length) : atI (rs.map enc) (n : Int) = some (enc (rs.getD n (.plain 0))) := by
  have e : ixN (rs.map enc).length (n : Int) = some n := Evl.ixN_nat (by rw [List.length_map]; exact h)
  show (ixN _ _).bind _ = _
  rw [e, Option.bind_some, List.getElem?_map, List.getElem?_eq_getElem h, List.getD_eq_getElem?_getD, List.getElem?_eq_getElem h]
  rfl
/-- the prices behind each repricing of an order -/
def stepsL (rs : List Trm) : List Int → List Int → List (List Int)
  | _, [] => []
  | ps, s :: os => rep rs ps s :: stepsL rs (rep rs ps s) os
/-- the prices behind an order -/
def aft (rs : List Trm) (ps os : List Int) : List Int := os.foldl (rep rs) ps
theorem aft_len (rs : List Trm) : ∀ (os ps : List Int), (aft rs ps os).length = ps.length
  | [], ps => rfl
  | s :: os, ps => by
    have := aft_len rs os (rep rs ps s)
    rw [rep_len] at this
    exact this
theorem aft_snoc (rs : List Trm) (ps os : List Int) (s : Int) : aft rs ps (os ++ [s]) = rep rs (aft rs ps os) s := by
  unfold aft
  rw [List.foldl_append]
  rfl
theorem steps_snoc (rs : List Trm) (s : Int) : ∀ (os ps : List Int), stepsL rs ps (os ++ [s]) = stepsL rs ps os ++ [aft rs ps (os ++ [s])]
  | [], ps => rfl
  | o :: os, ps => by
    show rep rs ps o :: stepsL rs (rep rs ps o) (os ++ [s]) = _
    rw [steps_snoc rs s os (rep rs ps o)]
    rfl
theorem steps_len (rs : List Trm) : ∀ (os ps : List Int), (stepsL rs ps os).length = os.length
  | [], ps => rfl
  | o :: os, ps => by
    show (stepsL rs (rep rs ps o) os).length + 1 = _
    rw [steps_len rs os]
    rfl
abbrev RRep : List PyData → List PyData → Prop := fun ds r => ∃ rs ps s, ds = [eR rs, iL ps, .int s] ∧ okR rs ∧ ps.length = rs.length ∧ 0 ≤ s ∧ s < (rs.length : Int) ∧ r = (rep rs ps s).map PyData.int
theorem ok__repriced (T : Top K mg) : FnOk P w K mg base CX0 9 T._repriced.f T._repriced.fd ["rules", "prices", "shop"] (spRL K RRep) := by
  refine T._repriced.F.ok sc__repriced (fun vs H Q E h => ?_) (fun cdv A outer s H vs Q E hr h => ?_)
  · obtain ⟨M, ds, r, _, hv, ⟨rs, ps, s, rfl, _⟩, _⟩ := h
    exact dpa_len hv
  obtain ⟨M, ds, r, hM, hv, ⟨rs, ps, s, rfl, hR, hl, h0, hs, rfl⟩, q⟩ := h
  obtain ⟨v, v1, v2, rfl, hd, hp, h2⟩ := dpa3 hv
  obtain rfl := dpInt h2
  refine ⟨_, (pss_cons (ps_set (i := 3) sc__repriced.nd rfl (Or.inl rfl) (pe_callTy call_list_of (by rfl) T.n_list (by decide +kernel) (pa_cons (pv 1) pa_nil)))
      (pss_cons (ps_asg (pe_call (ok_tell T 6) (hr.mono (by omega)) (by rfl) T.tell.g T.tell.F.kp T.tell.b .nil pass0 (pa_cons (pe_ix ix_list (pv 0) (pv 2) (fun _ _ => rfl)) (pa_cons (pv 1) pa_nil))) (pg_sub (pv 3) (pv 2) set_list))
      (pss_one (ps_ret (pv 3))))), ?_⟩
  refine q_asgDL (dl_copy (de_v hp (by rfl))) fun p vs H1 n1 e1 h1 d1 => ?_
  obtain rfl := dpa_ints d1
  have hM1 := hM.ex e1
  have hn : s.toNat < rs.length := by omega
  have hs' : ((s.toNat : Nat) : Int) = s := by omega
  have hget : rs.getD s.toNat (.plain 0) ∈ rs := by
    rw [List.getD_eq_getElem?_getD, List.getElem?_eq_getElem hn]
    exact List.getElem_mem hn
  obtain ⟨k1, k2⟩ := hR.2.2 _ hget
  refine Evl.q_setL (j := s.toNat) (v := .int (val ps (rs.getD s.toNat (.plain 0)))) h1 (ev_sc (de_callR (E := E0) hM1 (da_cons (de_ixL (de_v (dm_ex e1 hd) (by rfl)) (Evl.ev_var rfl) (by rw [← hs']; exact at_enc hn)) (da_cons (de_v (dm_ex e1 hp) (by rfl)) da_nil)) (R := RTell 6)
    ⟨rs.getD s.toNat (.plain 0), ps, rfl, fun i m => by rw [hl]; exact k2 i m, k1.2.2, k1.2.1, rfl⟩) rfl) (Evl.ev_var rfl) (Evl.ev_is (Evl.ev_var rfl) (congrArg V.int hs'.symm)) (by rw [List.length_map]; omega) fun H2 e2 => ?_
  have eX : Evl.Ex H (upd H2 p (.lst ((ps.map V.int).set s.toNat (.int (val ps (rs.getD s.toNat (.plain 0))))))) := (e1.trans e2).mut n1
  refine Evl.s_ret (Evl.ev_var rfl) fun H3 e3 => q p _ H3 n1 (eX.trans e3) (e3 _ _ upd_same) ?_
  have : (ps.map V.int).set s.toNat (.int (val ps (rs.getD s.toNat (.plain 0)))) = (rep rs ps s).map V.int := by
    unfold rep
    rw [List.map_set]
  rw [this]
  exact dp_ints _
/-- new lists of ints, apart from p -/
def Trk (H H' : Hp) (p : Addr) (as : List Addr) (xs : List (List Int)) : Prop := as.length = xs.length ∧ ∀ (i : Nat) (a : Addr) (is : List Int), as[i]? = some a → xs[i]? = some is → H a = none ∧ a ≠ p ∧ H' a = some (.lst (is.map V.int))
theorem Trk.ex {H H' H'' : Hp} {p : Addr} {as : List Addr} {xs : List (List Int)} (h : Trk H H' p as xs) (e : Evl.Ex H' H'') : Trk H H'' p as xs :=
  ⟨h.1, fun i a is h1 h2 => ⟨(h.2 i a is h1 h2).1, (h.2 i a is h1 h2).2.1, e _ _ (h.2 i a is h1 h2).2.2⟩⟩
theorem Trk.mut {H H' : Hp} {p : Addr} {as : List Addr} {xs : List (List Int)} {o : HO} (h : Trk H H' p as xs) : Trk H (upd H' p o) p as xs :=
  ⟨h.1, fun i a is h1 h2 => ⟨(h.2 i a is h1 h2).1, (h.2 i a is h1 h2).2.1, by rw [upd_ne (h.2 i a is h1 h2).2.1]; exact (h.2 i a is h1 h2).2.2⟩⟩
theorem Trk.snoc {H H' : Hp} {p a : Addr} {as : List Addr} {xs : List (List Int)} {is : List Int} (h : Trk H H' p as xs) (n : H a = none) (ne : a ≠ p) (ha : H' a = some (.lst (is.map V.int))) : Trk H H' p (as ++ [a]) (xs ++ [is]) := by
  refine ⟨by rw [List.length_append, List.length_append, h.1] <;> rfl, fun i b js h1 h2 => ?_⟩
  have hl := h.1
  by_cases hi : i < as.length
  · rw [List.getElem?_append_left hi] at h1
    rw [List.getElem?_append_left (by omega)] at h2
    exact h.2 i b js h1 h2
  · rw [List.getElem?_append_right (by omega)] at h1
    rw [List.getElem?_append_right (by omega)] at h2
    have hz : i - as.length = 0 := by
      have := (List.getElem?_eq_some_iff.mp h1).1
      simp at this
      omega
    rw [hz] at h1
    rw [← hl, hz] at h2
    simp only [List.getElem?_cons_zero, Option.some.injEq] at h1 h2
    subst h1 h2
    exact ⟨n, ne, ha⟩
/-- _steps(rules, prices, order) -/
def spSteps (K : PySem.W.Frag) : Sp := fun vs H Q _ => ∃ M rs ps os, Dom M H ∧ Dms K M H vs [eR rs, iL ps, iL os] ∧ okR rs ∧ ps.length = rs.length ∧ os.length ≤ 1000 ∧ (∀ s ∈ os, 0 ≤ s ∧ s < (rs.length : Int)) ∧
  ∀ p as H', H p = none → Evl.Ex H H' → H' p = some (.lst (as.map V.ref)) → Trk H H' p as (stepsL rs ps os) → Q (.ref p) H'
theorem ok__steps (T : Top K mg) : FnOk P w K mg base CX0 10 T._steps.f T._steps.fd ["rules", "prices", "order"] (spSteps K) := by
  refine T._steps.F.ok sc__steps (fun vs H Q E h => ?_) (fun cdv A outer s H vs Q E hr h => ?_)
  · obtain ⟨M, rs, ps, os, _, hv, _⟩ := h
    exact dpa_len hv
  obtain ⟨M, rs, ps, os, hM, hv, hR, hl, h0, hs, q⟩ := h
  obtain ⟨v, v1, v2, rfl, hd, hp, h2⟩ := dpa3 hv
  refine ⟨_, (pss_cons (ps_set (i := 3) sc__steps.nd rfl (Or.inl rfl) (pe_lst pa_nil))
      (pss_cons (ps_set (i := 4) sc__steps.nd rfl (Or.inl rfl) (pv 1))
      (pss_cons (ps_for PassesOwn.never rfl (pi_list (pv 2)) (pg_name (i := 5) sc__steps.nd rfl (Or.inl rfl)) (pss_cons (ps_set (i := 4) sc__steps.nd rfl (Or.inl rfl) (pe_call (ok__repriced T) (hr.mono (by omega)) (by rfl) T._repriced.g T._repriced.F.kp T._repriced.b .nil pass0 (pa_cons (pv 0) (pa_cons (pv 4) (pa_cons (pv 5) pa_nil)))))
      (pss_one (ps_expr (pe_bm PySem.F.plainAttrs_list PySem.F.slot_list_append PySem.F.type_list_append mt_append (pv 3) (pa_cons (pv 4) pa_nil))))))
      (pss_one (ps_ret (pv 3)))))), ?_⟩
  refine q_asgDL (K := K) (M := M) (dl_lst da_nil (by simp)) fun p vs H1 n1 e1 h1 d1 => ?_
  cases d1
  refine Evl.q_asg (Evl.ev_var rfl) fun H2 e2 => ?_
  have e12 := e1.trans e2
  have hp2 := dm_add n1 hp
  have h2' := h2
  cases h2' with
  | lst hs2 hv2 =>
  rename_i a2 xs2
  obtain rfl := dpa_ints hv2
  have sq : ∀ H', Evl.Ex H H' → SqL K H' a2 (os.map V.int) := fun H' e => Evl.ex_l e (Evl.ex_l (ex_full _ _) hs2)
  refine Evl.q_forL (Evl.ev_var rfl) (sq _ e12) (fun i σ' H' => ∃ v4 x5 as, σ' = [some v, some v1, some (.ref a2), some (.ref p), some v4, x5] ∧ Evl.Ex H H' ∧ H' p = some (.lst (as.map V.ref)) ∧ Trk H H' p as (stepsL rs ps (os.take i)) ∧ Dm K (p :: M) H' v4 (iL (aft rs ps (os.take i))))
    (fun H3 e3 => ⟨v1, none, [], rfl, e12.trans e3, e3 _ _ (e2 _ _ h1), ⟨rfl, fun i a is z => nomatch z⟩, dm_ex (e12.trans e3) hp2⟩) (fun i σ' H' _ hP => ?_) (fun i x σ' H' hx hP => ?_) (fun σ' H' hP => ?_)
  · obtain ⟨v4, x5, as, _, eH, _⟩ := hP
    exact sq _ eH
  · obtain ⟨v4, x5, as, rfl, eH, hp', ht', h4⟩ := hP
    rw [List.getElem?_map] at hx
    cases ho : os[i]? with
    | none => rw [ho] at hx; cases hx
    | some o =>
    rw [ho] at hx
    obtain rfl : V.int o = x := Option.some.inj hx
    have ht : os.take (i + 1) = os.take i ++ [o] := by rw [List.take_add_one, ho] <;> rfl
    have hmem := List.mem_of_getElem? ho
    have hM' : Dom (p :: M) H' := (hM.ex eH).cons (by rw [hp']; exact fun z => nomatch z)
    refine q_asgDL (dl_callR (E := E0) (R := RRep) hM' (da_cons (de_v (dm_ex eH (dm_add n1 hd)) (by rfl)) (da_cons (de_v h4 (by rfl)) (da_cons (de_sc (Evl.ev_var rfl) rfl) da_nil)))
      ⟨rs, aft rs ps (os.take i), o, rfl, hR, by rw [aft_len]; exact hl, (hs o hmem).1, (hs o hmem).2, rfl⟩) fun r vs H3 n3 e3 h3 d3 => ?_
    obtain rfl := dpa_ints d3
    have hal : as.length ≤ 1000 := by
      have := ht'.1
      rw [steps_len, List.length_take] at this
      omega
    have nrp : r ≠ p := fun z => by
      rw [z, hp'] at n3
      cases n3
    refine Evl.s_app (e3 _ _ hp') (Evl.ev_var rfl) (Evl.ev_var rfl) (by rw [List.length_map]; omega) fun H4 e4 => ?_
    have eM : ExM (p :: M) H4 (upd H4 p (.lst (as.map V.ref ++ [V.ref r]))) := ExM.mut (by simp)
    have e34 := e3.trans e4
    have h4r : upd H4 p (.lst (as.map V.ref ++ [V.ref r])) r = some (.lst ((rep rs (aft rs ps (os.take i)) o).map V.int)) := by
      rw [upd_ne nrp]
      exact e4 _ _ h3
    refine ⟨.ref r, some (.int o), as ++ [r], rfl, (eH.trans e34).mut n1, by rw [upd_same, List.map_append] <;> rfl, ?_, ?_⟩
    · rw [ht, steps_snoc, aft_snoc]
      exact ((ht'.ex e34).mut).snoc (Evl.fresh_back eH n3) nrp h4r
    · rw [ht, aft_snoc]
      exact .lst (Evl.sq_of (mi_of (hM'.nin n3) h4r)) (dp_ints _)
  · obtain ⟨v4, x5, as, rfl, eH, hp', hus, h4⟩ := hP
    rw [List.length_map, List.take_length] at hus
    exact Evl.s_ret (Evl.ev_var rfl) fun H4 e4 => q p as H4 n1 (eH.trans e4) (e4 _ _ hp') (hus.ex e4)
end
end K21

set_option Elab.async false
set_option linter.all false
set_option maxRecDepth 100000
set_option maxHeartbeats 4000000
namespace K21
open PySem PySem.Spec PyProof.Rows L2 DK DD TM
section
variable {P : Program} {w : World} {K : PySem.W.Frag} {mg : Str → Option Value} {base : Heap}
/-- the prices behind n rounds -/
def itr (rs : List Trm) (os ps : List Int) : Nat → List Int
  | 0 => ps
  | n + 1 => aft rs (itr rs os ps n) os
/-- the first round that comes again and where it does, for at most 1,000 repricings -/
def goR (x : Nat → List Int) (L : Nat) : Nat → Nat → Option (Nat × Nat)
  | 0, _ => none
  | k + 1, n => match bef x n with
    | some f => some (f, n)
    | none => if 1000 < (n + 1) * L then none else goR x L k (n + 1)
def goA (rs : List Trm) (os ps : List Int) : Option (Nat × Nat) := goR (itr rs os ps) os.length 1001 0
theorem itr_len (rs : List Trm) (os ps : List Int) : ∀ n, (itr rs os ps n).length = ps.length
  | 0 => rfl
  | n + 1 => by rw [itr, aft_len, itr_len rs os ps n]
theorem last_step {te : TE} {M : List Addr} {σ : L2.St} {H : Hp} {ta : TA} {rs : List Trm} {ps os : List Int} (hM : Dom M H) (h : DA K M ta σ H [eR rs, iL ps, iL os]) (hR : okR rs) (hl : ps.length = rs.length) (o1 : 1 ≤ os.length) (o2 : os.length ≤ 1000) (ho : ∀ s ∈ os, 0 ≤ s ∧ s < (rs.length : Int)) (hb : ∀ H1, Evl.Ex H H1 → Evl.Ev te σ H1 (.int (-1))) :
    Evl.EvL (tOp (rIxL K) (tCall (spSteps K) [] E0 ta) te) σ H ((aft rs ps os).map V.int) := fun H1 e1 Q q =>
  h H1 e1 _ fun vs H2 e2 hd => by
    rw [List.append_nil]
    refine ⟨M, rs, ps, os, hM.ex (e1.trans e2), hd, hR, hl, o2, ho, fun p as H3 n3 e3 h3 t3 => ?_⟩
    refine hb H3 ((e1.trans e2).trans e3) H3 (Evl.Ex.refl _) _ fun H4 e4 => ?_
    obtain ⟨os', o, rfl⟩ : ∃ os' o, os = os' ++ [o] := by
      cases hz : os.getLast? with
      | none =>
        rw [List.getLast?_eq_none_iff] at hz
        subst hz
        simp at o1
      | some o =>
        obtain ⟨ys, hys⟩ := List.getLast?_eq_some_iff.mp hz
        exact ⟨ys, o, hys⟩
    have hlen := t3.1
    rw [steps_snoc] at t3
    rw [steps_len, List.length_append] at hlen
    obtain ⟨m, hm⟩ : ∃ m, as.length = m + 1 := ⟨os'.length, by simpa using hlen⟩
    have hmo : m = os'.length := by
      simp at hlen
      omega
    obtain ⟨a, ha⟩ : ∃ a, as[m]? = some a := ⟨_, List.getElem?_eq_getElem (by omega)⟩
    obtain ⟨k1, k2, k3⟩ := t3.2 m a _ ha (by rw [List.getElem?_append_right (by rw [steps_len]; omega), steps_len, hmo, Nat.sub_self] <;> rfl)
    refine ⟨p, as.map V.ref, -1, .ref a, rfl, rfl, Evl.sq_of (e4 _ _ h3), ?_, q a H4 (Evl.fresh_back e2 k1) ((e2.trans e3).trans e4) (e4 _ _ k3)⟩
    show (ixN _ _).bind _ = _
    rw [List.length_map, hm, ixN_last, Option.bind_some, List.getElem?_map, ha]
    rfl
def spPlayed (K : PySem.W.Frag) (CT : Addr) : Sp := fun vs H Q E => ∃ (M : List Addr) (rs : List Trm) (ps os : List Int), Dom M H ∧ Dms K M H vs [eR rs, iL ps, iL os] ∧ okR rs ∧ ps.length = rs.length ∧ 1 ≤ os.length ∧ os.length ≤ 1000 ∧ (∀ s ∈ os, 0 ≤ s ∧ s < (rs.length : Int)) ∧
  (∀ f n r p H', goA rs os ps = some (f, n) → H r = none → H p = none → r ≠ p → Evl.Ex H H' → H' r = some (.tup [.int (f : Int), .int ((n - f : Nat) : Int), .ref p]) → H' p = some (.lst ((itr rs os ps n).map V.int)) → Q (.ref r) H') ∧
  (∀ H', goA rs os ps = none → Evl.Ex H H' → E (.ref CT) none H')
theorem ok_played (T : Top K mg) : FnOk P w K mg base (CX P w) 14 T.played.f T.played.fd ["rules", "prices", "order"] (spPlayed K T.TooMany.C) := by
  refine T.played.F.okX sc_played (fun vs H Q E h => ?_) (fun cdv A outer s H vs Q E hr h => ?_)
  · obtain ⟨M, rs, ps, os, _, hv, _⟩ := h
    exact dpa_len hv
  obtain ⟨M, rs, ps, os, hM, hv, hR, hl, o1, o2, ho, qO, qT⟩ := h
  obtain ⟨v, v1, v2, rfl, hd, hp, h2⟩ := dpa3 hv
  refine ⟨_, (pss_cons (ps_expr (pe_call (ok_check_market T) (hr.mono (by omega)) (by rfl) T.check_market.g T.check_market.F.kp T.check_market.b .nil pass0 (pa_cons (pv 0) (pa_cons (pv 1) pa_nil))))
      (pss_cons (ps_expr (pe_call (ok_check_order T) (hr.mono (by omega)) (by rfl) T.check_order.g T.check_order.F.kp T.check_order.b .nil pass0 (pa_cons (pv 2) (pa_cons (pe_callB (r := Evl.rLenS K) call_len_seq (by rfl) T.n_len PySem.boot_len (pa_cons (pv 0) pa_nil)) (pa_cons pe_int pa_nil)))))
      (pss_cons (ps_set (i := 3) sc_played.nd rfl (Or.inl rfl) (pv 1))
      (pss_cons (ps_set (i := 4) sc_played.nd rfl (Or.inl rfl) pe_dnewT)
      (pss_cons (ps_while (passes_of rfl) (pt_cmp (pc_dnotin (hu1 hr) (pe_callTy call_tuple_of (by rfl) T.n_tuple (by decide +kernel) (pa_cons (pv 3) pa_nil)) (pv 4)) (by with_unfolding_all rfl)) (pss_cons (ps_dput (hu1 hr) (pv 4) (pe_callTy call_tuple_of (by rfl) T.n_tuple (by decide +kernel) (pa_cons (pv 3) pa_nil)) (pe_callB call_len_dT (by rfl) T.n_len PySem.boot_len (pa_cons (pv 4) pa_nil)) rfl)
      (pss_cons (ps_if (pt_cmpR op_gt (pe_op op_mul (pe_callB call_len_dT (by rfl) T.n_len PySem.boot_len (pa_cons (pv 4) pa_nil)) (pe_callB (r := Evl.rLenS K) call_len_seq (by rfl) T.n_len PySem.boot_len (pa_cons (pv 2) pa_nil))) (pe_globI rfl T.g__MOST_REPRICINGS) (nomark _)) (pss_one (ps_raise rfl (takes_of rfl rfl rfl rfl) (pmk_own F.excBase_ValueError T.TooMany.q T.TooMany.g T.TooMany.k (raises_own T.TooMany.ex T.TooMany.ty) rfl))) pss_nil)
      (pss_one (ps_set (i := 3) sc_played.nd rfl (Or.inl rfl) (pe_ix ix_list (pe_call (ok__steps T) (hr.mono (by omega)) (by rfl) T._steps.g T._steps.F.kp T._steps.b .nil pass0 (pa_cons (pv 0) (pa_cons (pv 3) (pa_cons (pv 2) pa_nil)))) (pe_un un_neg pe_int) (fun _ _ => rfl)))))))
      (pss_cons (ps_set (i := 5) sc_played.nd rfl (Or.inl rfl) (pe_dget (hu1 hr) (pv 4) (pe_callTy call_tuple_of (by rfl) T.n_tuple (by decide +kernel) (pa_cons (pv 3) pa_nil)) (fun _ _ => rfl)))
      (pss_one (ps_ret (pe_tup (pa_cons (pv 5) (pa_cons (pe_op op_sub (pe_callB call_len_dT (by rfl) T.n_len PySem.boot_len (pa_cons (pv 4) pa_nil)) (pv 5)) (pa_cons (pv 3) pa_nil)))))))))))), ?_⟩
  refine Evl.q_drop (ev_sc (u := .non) (de_callR (E := E0) hM (da_cons (de_v hd (by rfl)) (da_cons (de_v hp (by rfl)) da_nil)) (R := RChkM) ⟨rs, ps, rfl, hR, hl, rfl⟩) rfl) fun H1 e1 => ?_
  have hrl : ((rs.map enc).length : Int) = (rs.length : Int) := by rw [List.length_map]
  refine Evl.q_drop (ev_sc (u := .non) (de_callR (E := E0) (hM.ex e1) (da_cons (de_v (dm_ex e1 h2) (by rfl)) (da_cons (de_sc (d := .int (rs.length : Int)) (by rw [← hrl]; exact ev_lenD (de_v (dm_ex e1 hd) (by rfl)) (.inr rfl)) rfl) (da_cons (de_sc Evl.ev_c rfl) da_nil))) (R := RChkO) ⟨os, _, 1, rfl, by omega, o2, ho, rfl⟩) rfl) fun H2 e2 => ?_
  refine Evl.q_asg (Evl.ev_var rfl) fun H3 e3 => ?_
  have e13 := (e1.trans e2).trans e3
  intro d nd
  have nd0 := Evl.fresh_back e13 nd
  have hx : ∀ n, itr rs os ps (n + 1) = aft rs (itr rs os ps n) os := fun n => rfl
  refine Evl.q_while (fun m σ' H' => ∃ (n : Nat) (v3 : V), m = 1001 - n ∧ n ≤ 1000 ∧ σ' = [some v, some v1, some v2, some v3, some (.ref d), none] ∧ Evl.Ex H H' ∧ H' d = some (.dT (keysD (itr rs os ps) n)) ∧ Dm K (d :: M) H' v3 (iL (itr rs os ps n)) ∧
      (1 ≤ n → ∃ p, v3 = .ref p ∧ H p = none ∧ p ≠ d ∧ H' p = some (.lst ((itr rs os ps n).map V.int))) ∧ goA rs os ps = goR (itr rs os ps) os.length (1001 - n) n) 1001
    ⟨0, v1, rfl, by omega, rfl, e13.trans (Evl.Ex.new nd), upd_same, dm_ex (e13.trans (Evl.Ex.new nd)) (dm_add nd0 hp), fun z => by omega, rfl⟩ (fun m σ' H' hW => ?_)
  obtain ⟨n, v3, rfl, n1000, rfl, eH, hD, h3, hF, hgo⟩ := hW
  have hM' : Dom (d :: M) H' := (hM.ex eH).cons (by rw [hD]; exact fun z => nomatch z)
  refine ⟨_, Evl.et_B (ev_dnotin hD rfl (eu_tuple (de_v h3 (by rfl)))), fun hb H4 e4 => ?_, fun hb H4 e4 => ?_⟩
  · rw [val_keys] at hb
    have hbef : bef (itr rs os ps) n = none := by
      cases z : bef (itr rs os ps) n with
      | none => rfl
      | some f => rw [z] at hb; cases hb
    refine ⟨fun σ2 H2 => ∃ m', m' < 1001 - n ∧ _, fun σ2 H2 z => z, ?_⟩
    have hM4 := hM'.ex e4
    have h34 := dm_ex e4 h3
    refine q_dputT (e4 _ _ hD) (by rw [keys_len]; omega) rfl (ev_dlen (e4 _ _ hD) rfl) (eu_tuple (de_v h34 (by rfl))) fun H5 e5 => ?_
    rw [keys_len, put_keys hbef]
    have eX : Evl.Ex H (upd H5 d (.dT (keysD (itr rs os ps) (n + 1)))) := ((eH.trans e4).trans e5).mut nd0
    have eM : ExM (d :: M) H5 (upd H5 d (.dT (keysD (itr rs os ps) (n + 1)))) := ExM.mut (by simp)
    have h36 := dm_exM eM (dm_ex e5 h34)
    have hD6 : upd H5 d (.dT (keysD (itr rs os ps) (n + 1))) d = some (.dT (keysD (itr rs os ps) (n + 1))) := upd_same
    generalize upd H5 d (.dT (keysD (itr rs os ps) (n + 1))) = H6 at eX eM h36 hD6
    have hM6 : Dom (d :: M) H6 := (hM.ex eX).cons (by rw [hD6]; exact fun z => nomatch z)
    have osl : ((os.map PyData.int).length : Int) = (os.length : Int) := by rw [List.length_map]
    refine Evl.q_when (b := decide ((1000 : Int) < ((n + 1 : Nat) : Int) * (os.length : Int))) (Evl.et_test (Evl.ev_op (Evl.ev_op (Evl.ev_is (ev_dlen hD6 rfl) (by rw [keys_len])) (Evl.ev_is (ev_lenD (de_v (dm_ex eX (dm_add nd0 h2)) (by rfl)) (.inr rfl)) (congrArg V.int osl)) (Evl.rv_I (.inl ⟨by omega, by omega⟩))) Evl.ev_c Evl.rv_I0)) (fun hc H7 e7 => ?_) (fun hc H7 e7 => ?_)
    · -- too many
      refine qT H7 ?_ (eX.trans e7)
      have hk : 1001 - n = (1000 - n) + 1 := by omega
      have hc' : 1000 < (n + 1) * os.length := by
        have := of_decide_eq_true hc
        rw [← Int.natCast_mul] at this
        omega
      rw [hgo, hk, goR, hbef]
      exact if_pos hc'
    · have hc' : ¬ 1000 < (n + 1) * os.length := fun z => by
        have := of_decide_eq_false hc
        rw [← Int.natCast_mul] at this
        omega
      have hn1 : n + 1 ≤ 1000 := Nat.le_trans (Nat.le_mul_of_pos_right (n + 1) (by omega)) (Nat.not_lt.mp hc')
      have hk : 1001 - n = (1001 - (n + 1)) + 1 := by omega
      have hM7 := hM6.ex e7
      have h37 := dm_ex e7 h36
      have eX7 := eX.trans e7
      refine Evl.s_asgL (last_step hM7 (da_cons (de_v (dm_ex eX7 (dm_add nd0 hd)) (by rfl)) (da_cons (de_v h37 (by rfl)) (da_cons (de_v (dm_ex eX7 (dm_add nd0 h2)) (by rfl)) da_nil))) hR (by rw [itr_len]; exact hl) o1 o2 ho (fun H1 _ => Evl.ev_un Evl.ev_c Evl.ru_neg)) fun p H8 n8 e8 h8 => ?_
      have hD8 := (e7.trans e8) _ _ hD6
      have npd : p ≠ d := fun z => by
        rw [z, e7 _ _ hD6] at n8
        cases n8
      refine ⟨1001 - (n + 1), by omega, n + 1, .ref p, rfl, hn1, rfl, eX7.trans e8, hD8, .lst (Evl.sq_of (mi_of (hM7.nin n8) h8)) (dp_ints _), fun _ => ⟨p, rfl, Evl.fresh_back eX7 n8, npd, h8⟩, ?_⟩
      rw [hgo, hk, goR, hbef]
      exact if_neg hc'
  · -- found
    rw [val_keys] at hb
    obtain ⟨f, hf⟩ : ∃ f, bef (itr rs os ps) n = some f := by
      cases z : bef (itr rs os ps) n with
      | none => rw [z] at hb; cases hb
      | some f => exact ⟨f, rfl⟩
    obtain ⟨fn, _⟩ := bef_some hf
    obtain ⟨p, rfl, np, npd, hp'⟩ := hF (by omega)
    have hk : 1001 - n = (1000 - n) + 1 := by omega
    have hg : goA rs os ps = some (f, n) := by rw [hgo, hk, goR, hf]
    have h34 := dm_ex e4 h3
    refine Evl.q_asg (ev_dget (e4 _ _ hD) rfl (eu_tuple (de_v h34 (by rfl))) (by rw [val_keys, hf] <;> rfl)) fun H5 e5 => ?_
    have e45 := e4.trans e5
    refine Evl.s_retU (xs := [.int (f : Int), .int ((n - f : Nat) : Int), .ref p]) (Evl.eu_tup (Evl.ea_cons (Evl.ev_var rfl) (Evl.ea_cons (Evl.ev_is (Evl.ev_op (ev_dlen (e45 _ _ hD) rfl) (Evl.ev_var rfl) Evl.rv_I0) (congrArg V.int (by rw [keys_len]; omega))) (Evl.ea_cons (Evl.ev_var rfl) Evl.ea_nil))) (by simp)) fun r H6 n6 e6 h6 => ?_
    have eH5 := eH.trans e45
    refine qO f n r p H6 hg (Evl.fresh_back eH5 n6) np (fun z => ?_) (eH5.trans e6) h6 ((e45.trans e6) _ _ hp')
    rw [z, e45 _ _ hp'] at n6
    cases n6
end
end K21

set_option Elab.async false
set_option linter.all false
set_option maxRecDepth 100000
set_option maxHeartbeats 4000000
namespace K21
open PySem PySem.Spec PyProof.Rows L2 DK DD TM
section
variable {P : Program} {w : World} {K : PySem.W.Frag} {mg : Str → Option Value} {base : Heap}
theorem ok__law_draw (T : Top K mg) : FnOk P w K mg base CX0 1 T._law_draw.f T._law_draw.fd ["source", "limit"] spDraw := by
  refine T._law_draw.F.ok sc__law_draw (fun vs H Q E h => ?_) (fun cdv A outer s H vs Q E hr h => ?_)
  · obtain ⟨_, _, _, _, rfl, _⟩ := h
    rfl
  obtain ⟨s, c, n, l, rfl, ⟨ne, ks, t, e1, e2, k1, k63, tn⟩, n60, l0, l30, q⟩ := h
  refine ⟨_, (pss_cons (ps_asg (pv 0) (pg_unl rfl (pgs_cons (pg_name (i := 2) sc__law_draw.nd rfl (Or.inl rfl)) (pgs_cons (pg_name (i := 3) sc__law_draw.nd rfl (Or.inl rfl)) pgs_nil))))
      (pss_cons (ps_set (i := 4) sc__law_draw.nd rfl (Or.inl rfl) (pe_op op_mod (pe_callTy call_int1 (by rfl) T.n_int (by decide +kernel) (pa_cons (pv 3) pa_nil)) (pe_callB (r := Evl.rLenS K) call_len_seq (by rfl) T.n_len PySem.boot_len (pa_cons (pv 2) pa_nil))))
      (pss_cons (ps_set (i := 5) sc__law_draw.nd rfl (Or.inl rfl) (pe_ix ix_list (pv 2) (pv 4) (fun _ _ => rfl)))
      (pss_cons (ps_asg (pe_op op_add (pv 3) pe_int) (pg_sub (pv 0) pe_int set_list))
      (pss_cons (ps_if (pt_cmpR op_ge (pv 5) (pe_op op_powW pe_int pe_int) (nomark _)) (pss_cons (ps_asg (pe_op op_fdiv (pv 5) (pv 1)) (pg_sub (pv 2) (pv 4) set_list))
      (pss_one (ps_ret (pe_op op_mod (pe_callTy call_int1 (by rfl) T.n_int (by decide +kernel) (pa_cons (pv 5) pa_nil)) (pv 1))))) pss_nil)
      (pss_cons (ps_set (i := 6) sc__law_draw.nd rfl (Or.inl rfl) (pe_op op_mod (pe_callTy call_int1 (by rfl) T.n_int (by decide +kernel) (pa_cons (pe_op op_add (pe_op op_add (pe_op op_mul (pe_op op_mod (pe_callTy call_int1 (by rfl) T.n_int (by decide +kernel) (pa_cons (pv 5) pa_nil)) pe_int) pe_int) (pe_op op_mul (pe_op op_mul (pv 3) (pv 3)) pe_int)) pe_int) pa_nil)) pe_int))
      (pss_cons (ps_set (i := 6) sc__law_draw.nd rfl (Or.inl rfl) (pe_op op_mod (pe_callTy call_int1 (by rfl) T.n_int (by decide +kernel) (pa_cons (pe_op op_mul (pv 6) (pv 6)) pa_nil)) pe_int))
      (pss_cons (ps_set (i := 6) sc__law_draw.nd rfl (Or.inl rfl) (pe_op op_mod (pe_callTy call_int1 (by rfl) T.n_int (by decide +kernel) (pa_cons (pe_op op_mul (pv 6) (pv 6)) pa_nil)) pe_int))
      (pss_one (ps_ret (pe_op op_mod (pe_callTy call_int1 (by rfl) T.n_int (by decide +kernel) (pa_cons (pv 6) pa_nil)) (pv 1)))))))))))), ?_⟩
  have hk : 0 < ((ks.map V.int).length : Int) := by
    rw [List.length_map]
    omega
  -- cells, turn = source
  refine ⟨_, rfl, s, _, rfl, .inl (.inl e1), rfl, _, _, rfl, _, _, rfl, rfl, ?_⟩
  -- place = int(turn) % len(cells)
  refine ⟨_, rfl, .inl ⟨_, rfl, _, rfl, c, _, rfl, .inl (.inl (.inl e2)), _, _, rfl, rfl, hk, ?_⟩⟩
  have hp1 : 0 ≤ (t : Int) % ((ks.map V.int).length : Int) := Int.emod_nonneg _ (by omega)
  have hp2 : (t : Int) % ((ks.map V.int).length : Int) < ((ks.map V.int).length : Int) := Int.emod_lt_of_pos _ hk
  obtain ⟨j, hj⟩ : ∃ j : Nat, (t : Int) % ((ks.map V.int).length : Int) = (j : Int) := ⟨_, (Int.toNat_of_nonneg hp1).symm⟩
  have hj2 : j < ks.length := by
    rw [hj, List.length_map] at hp2
    omega
  have hat : atI (ks.map V.int) ((t : Int) % ((ks.map V.int).length : Int)) = some (.int ks[j]) := by
    rw [hj]
    exact atI_nat (by rw [List.getElem?_map, List.getElem?_eq_getElem hj2] <;> rfl)
  have hix : ixN (ks.map V.int).length ((t : Int) % ((ks.map V.int).length : Int)) = some j := by
    rw [hj]
    exact Evl.ixN_nat (by rw [List.length_map]; exact hj2)
  -- cell = cells[place]
  refine ⟨_, rfl, _, rfl, c, _, _, _, rfl, rfl, .inl (.inl e2), hat, ?_⟩
  -- source[1] = turn + 1
  refine ⟨_, rfl, _, _, rfl, rfl, _, rfl, s, _, 1, 1, rfl, rfl, e1, rfl, ?_⟩
  have f1 : upd H s (.lst ([V.ref c, .int (t : Int)].set 1 (.int ((t : Int) + 1)))) s = some (.lst [.ref c, .int (((t + 1 : Nat) : Int))]) := by
    rw [upd_same]
    rfl
  have f2 : upd H s (.lst ([V.ref c, .int (t : Int)].set 1 (.int ((t : Int) + 1)))) c = some (.lst (ks.map V.int)) := by
    rw [upd_ne ne]
    exact e2
  have fM : ExM [s, c] H (upd H s (.lst ([V.ref c, .int (t : Int)].set 1 (.int ((t : Int) + 1))))) := ExM.mut (by simp)
  generalize upd H s (.lst ([V.ref c, .int (t : Int)].set 1 (.int ((t : Int) + 1)))) = H1 at f1 f2 fM ⊢
  -- if cell >= 10 ** 18
  refine ⟨_, rfl, 10, 18, rfl, rfl, ⟨by decide, by decide +kernel⟩, _, _, rfl, rfl, _, rfl, ite2 (fun b => ?_) (fun b => ?_)⟩
  · -- cells[place] = cell // limit
    refine ⟨_, rfl, _, rfl, _, _, rfl, rfl, ⟨l0, l30⟩, _, rfl, _, rfl, c, _, _, j, rfl, rfl, f2, hix, ?_⟩
    refine ⟨_, rfl, .inl ⟨_, rfl, _, rfl, _, _, rfl, rfl, l0, ?_⟩⟩
    refine q _ _ (Int.emod_nonneg _ (by omega)) (Int.emod_lt_of_pos _ l0) (fM.trans (ExM.mut (by simp))) ⟨ne, ks.set j (ks[j] / l), t + 1, ?_, ?_, ?_, ?_, by omega⟩
    · rw [upd_ne (Ne.symm ne)]
      exact f1
    · rw [upd_same, List.map_set]
    · rw [List.length_set]
      exact k1
    · rw [List.length_set]
      exact k63
  · have m1 : ∀ (a b : Int), 0 < b → b < 2 ^ 33 → -(2 ^ 64) < a % b ∧ a % b < 2 ^ 64 := fun a b h1 h2 => by
      have := Int.emod_nonneg a (show b ≠ 0 by omega)
      have := Int.emod_lt_of_pos a h1
      omega
    refine ⟨_, rfl, .inl ⟨_, rfl, _, _, rfl, rfl, (show (0 : Int) < 2147483629 by decide), _, _, rfl, rfl, .inr ⟨by decide, by decide⟩, ?_⟩⟩
    refine ⟨_, rfl, _, rfl, _, _, rfl, rfl, .inl ⟨by omega, by omega⟩, _, _, rfl, rfl, .inr ⟨by decide, by decide⟩, _, _, rfl, rfl, _, _, rfl, rfl, .inl ⟨_, rfl, _, _, rfl, rfl, (show (0 : Int) < 2147483647 by decide), ?_⟩⟩
    refine ⟨_, rfl, _, rfl, _, _, rfl, rfl, .inl (m1 _ _ (by decide) (by decide)), .inl ⟨_, rfl, _, _, rfl, rfl, (show (0 : Int) < 2147483629 by decide), ?_⟩⟩
    refine ⟨_, rfl, _, rfl, _, _, rfl, rfl, .inl (m1 _ _ (by decide) (by decide)), .inl ⟨_, rfl, _, _, rfl, rfl, (show (0 : Int) < 2147483587 by decide), ?_⟩⟩
    refine ⟨_, rfl, .inl ⟨_, rfl, _, rfl, _, _, rfl, rfl, l0, ?_⟩⟩
    exact q _ _ (Int.emod_nonneg _ (by omega)) (Int.emod_lt_of_pos _ l0) fM ⟨ne, ks, t + 1, f1, f2, k1, k63, by omega⟩
theorem ok__law_source (T : Top K mg) : FnOk P w K mg base CX0 1 T._law_source.f T._law_source.fd ["script"] (spSource K) := by
  refine T._law_source.F.ok sc__law_source (fun vs H Q E h => ?_) (fun cdv A outer s H vs Q E hr h => ?_)
  · obtain ⟨_, _, rfl, _⟩ := h
    rfl
  obtain ⟨a, ns, rfl, hS, h63, q⟩ := h
  refine ⟨_, (pss_cons (ps_set (i := 1) sc__law_source.nd rfl (Or.inl rfl) (pe_slice sl_list (pv 0) po_none (po_some pe_int)))
      (pss_cons (ps_for PassesOwn.never rfl (pi_range1 (by rfl) T.n_range (pa_cons (pe_callB (r := Evl.rLenS K) call_len_seq (by rfl) T.n_len PySem.boot_len (pa_cons (pv 1) pa_nil)) pa_nil)) (pg_name (i := 2) sc__law_source.nd rfl (Or.inl rfl)) (pss_one (ps_if (pt_cmpR op_ge (pe_callB call_abs (by rfl) T.n_abs (by decide +kernel) (pa_cons (pe_ix ix_list (pv 1) (pv 2) (fun _ _ => rfl)) pa_nil)) (pe_op op_powW pe_int pe_int) (nomark _)) (pss_one (ps_asg (pe_op op_mod (pe_callTy call_int1 (by rfl) T.n_int (by decide +kernel) (pa_cons (pe_ix ix_list (pv 1) (pv 2) (fun _ _ => rfl)) pa_nil)) (pe_op op_powW (pe_op op_powW pe_int pe_int) pe_int)) (pg_sub (pv 1) (pv 2) set_list))) pss_nil)))
      (pss_cons (ps_if (pt_cmpR (op_eqD (hu64 hr)) (pv 1) (pe_lst pa_nil) (nomark _)) (pss_one (ps_set (i := 1) sc__law_source.nd rfl (Or.inl rfl) (pe_lst (pa_cons pe_int pa_nil)))) pss_nil)
      (pss_one (ps_ret (pe_lst (pa_cons (pv 1) (pa_cons pe_int pa_nil)))))))), ?_⟩
  -- cells = script[:63]
  refine ⟨_, rfl, 63, rfl, a, _, rfl, hS, fun p hp => ?_⟩
  have hcut : cutV (ns.map V.int) none (some 63) = (ns.take 63).map V.int := by
    unfold cutV
    rw [HT.sIx_none, show HT.sIx (ns.map V.int).length (ns.map V.int).length (some 63) = min 63 (ns.map V.int).length from HT.sIx_nat _ _ 63, List.length_map, Nat.min_eq_right h63, List.drop_zero, Nat.sub_zero, List.take_of_length_le (by rw [List.length_map]; omega), List.take_of_length_le h63]
  rw [hcut]
  have e0 : Evl.Ex H (upd H p (.lst ((ns.take 63).map V.int))) := Evl.Ex.new hp
  have hl0 : (ns.take 63).length ≤ 63 := List.length_take_le _ _
  have at0 : upd H p (.lst ((ns.take 63).map V.int)) p = some (.lst ((ns.take 63).map V.int)) := upd_same
  generalize upd H p (.lst ((ns.take 63).map V.int)) = H0 at e0 at0
  generalize ns.take 63 = ms at hl0 at0
  -- for k in range(len(cells))
  refine ⟨.ref p, rfl, p, _, rfl, .inl (.inl (.inl at0)), _, rfl, by rw [List.length_map]; omega, by rw [List.length_map]; omega, for_range (lo := 0) (n := ((((ms.map V.int).length : Nat) : Int)).toNat) (fun _ σ H' => ∃ (y2 : Option V) (ks : List Int), σ = [some (.ref a), some (.ref p), y2] ∧ ks.length = ms.length ∧ Evl.Ex H H' ∧ H' p = some (.lst (ks.map V.int))) ⟨none, ms, rfl, rfl, e0, at0⟩ (fun i σ H' hi hW => ?_) (fun σ H' hW => ?_)⟩
  · obtain ⟨y2, ks, rfl, hk, hE, hP⟩ := hW
    rw [Int.toNat_natCast, List.length_map, ← hk] at hi
    have hat : atI (ks.map V.int) ((0 : Int) + (i : Int)) = some (.int ks[i]) := by
      rw [Int.zero_add]
      exact atI_nat (by rw [List.getElem?_map, List.getElem?_eq_getElem hi] <;> rfl)
    have hix : ixN (ks.map V.int).length ((0 : Int) + (i : Int)) = some i := by
      rw [Int.zero_add]
      exact Evl.ixN_nat (by rw [List.length_map]; exact hi)
    refine ⟨.ref p, rfl, _, rfl, p, _, _, _, rfl, rfl, .inl (.inl hP), hat, _, rfl, 10, 18, rfl, rfl, ⟨by decide, by decide +kernel⟩, _, _, rfl, rfl, _, rfl, ite2 (fun _ => ?_) (fun _ => ?_)⟩
    · refine ⟨.ref p, rfl, _, rfl, p, _, _, _, rfl, rfl, .inl (.inl hP), hat, .inl ⟨_, rfl, 10, 60, rfl, rfl, ⟨by decide, by decide +kernel⟩, _, 20, rfl, rfl, ⟨by decide, by decide +kernel⟩, _, _, rfl, rfl, (show (0 : Int) < (10 ^ (60 : Int).toNat) ^ (20 : Int).toNat by decide +kernel), .ref p, rfl, _, rfl, p, _, _, i, rfl, rfl, hP, hix, ?_⟩⟩
      refine ⟨_, ks.set i (ks[i] % ((10 ^ (60 : Int).toNat) ^ (20 : Int).toNat)), rfl, by rw [List.length_set]; exact hk, hE.mut hp, ?_⟩
      rw [upd_same, List.map_set]
    · exact ⟨_, ks, rfl, hk, hE, hP⟩
  · obtain ⟨y2, ks, rfl, hk, hE, hP⟩ := hW
    -- if cells == []
    refine ⟨.ref p, rfl, by decide, fun r hr0 => ?_⟩
    have hP1 : upd H' r (.lst []) p = some (.lst (ks.map V.int)) := by
      rw [upd_ne (ne_of_none hP hr0)]
      exact hP
    have hE1 : Evl.Ex H (upd H' r (.lst [])) := hE.trans (Evl.Ex.new hr0)
    have hlen : ks.length ≤ 63 := by omega
    generalize hH1 : upd H' r (.lst []) = H1 at hP1 hE1
    have hR1 : H1 r = some (.lst []) := by
      rw [← hH1]
      exact upd_same
    have dpI : ∀ l : List Int, DpAll K H1 (l.map V.int) (l.map PyData.int) := fun l => by
      induction l with
      | nil => exact .nil
      | cons x l ih => exact .cons (.int x) ih
    refine ⟨_, _, .lst (.inl (.inl hP1)) (dpI ks), .lst (.inl (.inl hR1)) .nil, ?_, by decide, _, rfl, ite2 (fun b => ?_) (fun b => ?_)⟩
    · exact PySem.W.ke_shaped_ints ks
    · -- cells = [0]
      refine ⟨by decide, fun p2 hp2 => ?_⟩
      refine ⟨_, rfl, (show 2 ≤ sizeLine by decide), fun s hs => ?_⟩
      have n1 : p2 ≠ s := ne_of_none upd_same hs
      refine q s p2 _ ((hE1.trans (Evl.Ex.new hp2)).trans (Evl.Ex.new hs)) (Evl.fresh_back (hE1.trans (Evl.Ex.new hp2)) hs) (Evl.fresh_back hE1 hp2) ⟨n1, [0], 0, upd_same, ?_, by decide, by decide, Nat.le_refl _⟩
      rw [upd_ne n1, upd_same]
      rfl
    · refine ⟨_, rfl, (show 2 ≤ sizeLine by decide), fun s hs => ?_⟩
      have n1 : p ≠ s := ne_of_none hP1 hs
      have hks : 1 ≤ ks.length := by
        cases ks with
        | nil => exact absurd rfl b
        | cons x l => exact Nat.succ_le_succ (Nat.zero_le _)
      refine q s p _ (hE1.trans (Evl.Ex.new hs)) (Evl.fresh_back hE1 hs) hp ⟨n1, ks, 0, upd_same, ?_, hks, hlen, Nat.le_refl _⟩
      rw [upd_ne n1]
      exact hP1
/-- _law_great(source, limit) -/
def spGreat : Sp := fun vs H Q _ => ∃ (s c : Addr) (n : Nat) (l : Int), vs = [.ref s, .int l] ∧ Src H s c n ∧ n + 5 < 2 ^ 60 ∧ 0 < l ∧
  ∀ (g : Int) H', 0 ≤ g → g < l → ExM [s, c] H H' → Src H' s c (n + 5) → Q (.int g) H'
theorem ok__law_great (T : Top K mg) : FnOk P w K mg base CX0 2 T._law_great.f T._law_great.fd ["source", "limit"] spGreat := by
  refine T._law_great.F.ok sc__law_great (fun vs H Q E h => ?_) (fun cdv A outer s H vs Q E hr h => ?_)
  · obtain ⟨_, _, _, _, rfl, _⟩ := h
    rfl
  obtain ⟨s, c, n, l, rfl, S, n60, l0, q⟩ := h
  refine ⟨_, (pss_cons (ps_set (i := 2) sc__law_great.nd rfl (Or.inl rfl) pe_int)
      (pss_cons (ps_for PassesOwn.never rfl (pi_range1 (by rfl) T.n_range (pa_cons pe_int pa_nil)) (pg_name (i := 3) sc__law_great.nd rfl (Or.inl rfl)) (pss_one (ps_set (i := 2) sc__law_great.nd rfl (Or.inl rfl) (pe_op op_add (pe_op op_mul (pv 2) (pe_op op_powW pe_int pe_int)) (pe_call (ok__law_draw T) (hr.mono (by omega)) (by rfl) T._law_draw.g T._law_draw.F.kp T._law_draw.b .nil pass0 (pa_cons (pv 0) (pa_cons (pe_op op_powW pe_int pe_int) pa_nil)))))))
      (pss_one (ps_ret (pe_op op_mod (pe_callTy call_int1 (by rfl) T.n_int (by decide +kernel) (pa_cons (pv 2) pa_nil)) (pv 1)))))), ?_⟩
  refine ⟨_, rfl, by decide, by decide, for_range (lo := 0) (n := 5) (fun i σ H' => ∃ (g : Int) (x : Option V), σ = [some (.ref s), some (.int l), some (.int g), x] ∧ ExM [s, c] H H' ∧ Src H' s c (n + i)) ⟨0, none, rfl, ExM.refl _ _, S⟩ (fun i σ H' hi hP => ?_) (fun σ H' hP => ?_)⟩
  · obtain ⟨g, x, rfl, eM, S'⟩ := hP
    refine ⟨_, rfl, 10, 9, rfl, rfl, ⟨by decide, by decide +kernel⟩, _, _, rfl, rfl, .inr ⟨by decide, by decide⟩, _, rfl, 10, 9, rfl, rfl, ⟨by decide, by decide +kernel⟩, s, c, n + i, _, rfl, S', by omega, by decide, by decide, fun d H2 d0 d1 e2 S2 => ⟨_, _, rfl, rfl, ?_⟩⟩
    exact ⟨_, _, rfl, eM.trans e2, S2⟩
  · obtain ⟨g, x, rfl, eM, S'⟩ := hP
    refine ⟨_, rfl, .inl ⟨_, rfl, _, rfl, _, _, rfl, rfl, l0, ?_⟩⟩
    have h1 := Int.emod_nonneg g (show l ≠ 0 by omega)
    have h2 := Int.emod_lt_of_pos g l0
    exact q _ H' h1 h2 eM S'
/-- _law_add(source, most) -/
def spAdd : Sp := fun vs H Q _ => ∃ (s c : Addr) (n : Nat) (mo : Int), vs = [.ref s, .int mo] ∧ Src H s c n ∧ n + 6 < 2 ^ 60 ∧ 1 ≤ mo ∧
  ∀ (a : Int) H', -mo ≤ a → a ≤ mo → ExM [s, c] H H' → Src H' s c (n + 6) → Q (.int a) H'
theorem ok__law_add (T : Top K mg) : FnOk P w K mg base CX0 3 T._law_add.f T._law_add.fd ["source", "most"] spAdd := by
  refine T._law_add.F.ok sc__law_add (fun vs H Q E h => ?_) (fun cdv A outer s H vs Q E hr h => ?_)
  · obtain ⟨_, _, _, _, rfl, _⟩ := h
    rfl
  obtain ⟨s, c, n, mo, rfl, S, n60, m1, q⟩ := h
  refine ⟨_, (pss_cons (ps_if (pt_cmpR op_eq (pe_call (ok__law_draw T) (hr.mono (by omega)) (by rfl) T._law_draw.g T._law_draw.F.kp T._law_draw.b .nil pass0 (pa_cons (pv 0) (pa_cons pe_int pa_nil))) pe_int (nomark _)) (pss_one (ps_ret pe_int)) pss_nil)
      (pss_one (ps_ret (pe_op op_sub (pe_call (ok__law_great T) (hr.mono (by omega)) (by rfl) T._law_great.g T._law_great.F.kp T._law_great.b .nil pass0 (pa_cons (pv 0) (pa_cons (pe_op op_add (pe_op op_mul pe_int (pv 1)) pe_int) pa_nil))) (pv 1))))), ?_⟩
  refine ⟨_, rfl, s, c, n, 3, rfl, S, by omega, by decide, by decide, fun d H1 d0 d1 e1 S1 => ⟨rfl, _, rfl, ite2 (fun _ => ?_) (fun _ => ?_)⟩⟩
  · exact q 0 H1 (by omega) (by omega) e1 (S1.mono (by omega))
  · refine ⟨_, rfl, _, rfl, _, _, rfl, rfl, .inl ⟨by decide, by decide⟩, _, _, rfl, rfl, s, c, n + 1, _, rfl, S1, by omega, by omega, fun g H2 g0 gl e2 S2 => ⟨_, rfl, _, _, rfl, rfl, ?_⟩⟩
    exact q _ H2 (by omega) (by omega) (e1.trans e2) (S2.mono (by omega))
/-- _law_end(source, many, most) -/
def spEnd (K : PySem.W.Frag) : Sp := fun vs H Q _ => ∃ (s c : Addr) (n : Nat) (M : List Addr) (sh mo : Int), vs = [.ref s, .int sh, .int mo] ∧ Src H s c n ∧ s ∈ M ∧ c ∈ M ∧ Dom M H ∧ n + 10 < 2 ^ 60 ∧ 1 ≤ sh ∧ sh ≤ 6 ∧ 1 ≤ mo ∧ mo ≤ 10 ^ 30 ∧
  ∀ (v : V) (t : Trm) H', ExM [s, c] H H' → Src H' s c (n + 10) → Dm K M H' v (enc t) → Gen sh (10 ^ 30) 1 t → Q v H'
theorem ok__law_end (T : Top K mg) : FnOk P w K mg base CX0 4 T._law_end.f T._law_end.fd ["source", "many", "most"] (spEnd K) := by
  refine T._law_end.F.ok sc__law_end (fun vs H Q E h => ?_) (fun cdv A outer s H vs Q E hr h => ?_)
  · obtain ⟨_, _, _, _, _, _, rfl, _⟩ := h
    rfl
  obtain ⟨s, c, n, M, sh, mo, rfl, S, sM, cM, hM, n60, s1, s6, m1, m30, q⟩ := h
  refine ⟨_, (pss_cons (ps_if (pt_cmpR op_eq (pe_call (ok__law_draw T) (hr.mono (by omega)) (by rfl) T._law_draw.g T._law_draw.F.kp T._law_draw.b .nil pass0 (pa_cons (pv 0) (pa_cons pe_int pa_nil))) pe_int (nomark _)) (pss_one (ps_ret (pe_tup (pa_cons pe_str (pa_cons (pe_call (ok__law_add T) (hr.mono (by omega)) (by rfl) T._law_add.g T._law_add.F.kp T._law_add.b .nil pass0 (pa_cons (pv 0) (pa_cons (pv 2) pa_nil))) pa_nil))))) pss_nil)
      (pss_one (ps_ret (pe_tup (pa_cons pe_str (pa_cons (pe_call (ok__law_draw T) (hr.mono (by omega)) (by rfl) T._law_draw.g T._law_draw.F.kp T._law_draw.b .nil pass0 (pa_cons (pv 0) (pa_cons (pv 1) pa_nil))) (pa_cons (pe_call (ok__law_add T) (hr.mono (by omega)) (by rfl) T._law_add.g T._law_add.F.kp T._law_add.b .nil pass0 (pa_cons (pv 0) (pa_cons (pv 2) pa_nil))) pa_nil))))))), ?_⟩
  refine ⟨_, rfl, s, c, n, 4, rfl, S, by omega, by decide, by decide, fun d H3 d0 d1 e3 S3 => ⟨rfl, _, rfl, ite2 (fun _ => ?_) (fun _ => ?_)⟩⟩
  · refine ⟨_, rfl, _, rfl, s, c, n + 1, mo, rfl, S3, by omega, m1, fun a H4 a1 a2 e4 S4 => ⟨(show 2 ≤ sizeLine by decide), fun p hp => ?_⟩⟩
    have e := e3.trans e4
    have hM4 := hM.exM e S4
    refine q (.ref p) (.plain a) _ (e.trans (ExM.new hp)) ((S4.new hp).mono (by omega)) ?_ (Gen.plain (by omega) (by omega) (Int.le_refl _))
    rw [enc_eq]
    exact .tup (Evl.st_of (mi_of (hM4.nin hp) upd_same)) (.cons (.str _) (.cons (.int _) .nil))
  · refine ⟨_, rfl, _, rfl, s, c, n + 1, sh, rfl, S3, by omega, by omega, by omega, fun d2 H4 d20 d21 e4 S4 => ?_⟩
    obtain ⟨j, rfl⟩ : ∃ j : Nat, d2 = (j : Int) := ⟨_, (Int.toNat_of_nonneg d20).symm⟩
    refine ⟨_, rfl, _, rfl, s, c, n + 1 + 1, mo, rfl, S4, by omega, m1, fun a H5 a1 a2 e5 S5 => ⟨(show 3 ≤ sizeLine by decide), fun p hp => ?_⟩⟩
    have e := (e3.trans e4).trans e5
    have hM5 := hM.exM e S5
    refine q (.ref p) (.price j a) _ (e.trans (ExM.new hp)) ((S5.new hp).mono (by omega)) ?_ (Gen.price d21 s6 (by omega) (by omega) (Int.le_refl _))
    rw [enc_eq]
    exact .tup (Evl.st_of (mi_of (hM5.nin hp) upd_same)) (.cons (.str _) (.cons (.int _) (.cons (.int _) .nil)))
/-- how many draws a term takes at most -/
def cost : Nat → Nat
  | 0 => 0
  | l + 1 => 20 + 3 * cost l
/-- _law_term(source, many, most, deep), deep at most L -/
def spTerm (K : PySem.W.Frag) (L : Nat) : Sp := fun vs H Q _ => ∃ (s c : Addr) (n : Nat) (M : List Addr) (sh mo : Int) (l : Nat), vs = [.ref s, .int sh, .int mo, .int (l : Int)] ∧ Src H s c n ∧ s ∈ M ∧ c ∈ M ∧ Dom M H ∧
  1 ≤ l ∧ l ≤ L ∧ n + cost l < 2 ^ 60 ∧ 1 ≤ sh ∧ sh ≤ 6 ∧ 1 ≤ mo ∧ mo ≤ 10 ^ 30 ∧
  ∀ (v : V) (t : Trm) H', ExM [s, c] H H' → Src H' s c (n + cost l) → Dm K M H' v (enc t) → Gen sh (10 ^ 30) l t → Q v H'
theorem ok__law_term (T : Top K mg) : ∀ L : Nat, FnOk P w K mg base CX0 (L + 5) T._law_term.f T._law_term.fd ["source", "many", "most", "deep"] (spTerm K L)
  | 0 => by
    have no : ∀ vs H Q E, ¬ spTerm K 0 vs H Q E := fun vs H Q E h => by
      obtain ⟨_, _, _, _, _, _, _, _, _, _, _, _, h1, h2, _⟩ := h
      omega
    exact ⟨fun vs H Q E h => absurd h (no vs H Q E), fun A outer s H args us vs Q E _ _ _ _ h => absurd h (no vs H Q E)⟩
  | L + 1 => by
    have IH := ok__law_term T L
    refine T._law_term.F.ok sc__law_term (fun vs H Q E h => ?_) (fun cdv A outer s H vs Q E hr h => ?_)
    · obtain ⟨_, _, _, _, _, _, _, rfl, _⟩ := h
      rfl
    obtain ⟨s, c, n, M, sh, mo, l, rfl, S, sM, cM, hM, l1, lL, n60, s1, s6, m1, m30, q⟩ := h
    obtain ⟨l, rfl⟩ : ∃ k, l = k + 1 := ⟨l - 1, by omega⟩
    have ec : cost (l + 1) = 20 + 3 * cost l := rfl
    refine ⟨_, (pss_cons (ps_set (i := 4) sc__law_term.nd rfl (Or.inl rfl) (pe_call (ok__law_draw T) (hr.mono (by omega)) (by rfl) T._law_draw.g T._law_draw.F.kp T._law_draw.b .nil pass0 (pa_cons (pv 0) (pa_cons pe_int pa_nil))))
      (pss_cons (ps_if (PW.pt (pw_or (pt_cmpR op_eq (pv 3) pe_int (nomark _)) (pw_or1 (pt_cmpR op_eq (pv 4) pe_int (nomark _))))) (pss_one (ps_ret (pe_call (ok__law_end T) (hr.mono (by omega)) (by rfl) T._law_end.g T._law_end.F.kp T._law_end.b .nil pass0 (pa_cons (pv 0) (pa_cons (pv 1) (pa_cons (pv 2) pa_nil)))))) pss_nil)
      (pss_cons (ps_set (i := 5) sc__law_term.nd rfl (Or.inl rfl) (pe_callTy call_tuple_of (by rfl) T.n_tuple (by decide +kernel) (pa_cons (pe_lc (own := [("k", 6)]) (g := gName 6) (tt := tYes) rfl sc__law_term.nd (pi_range1 (by rfl) T.n_range (pa_cons (pe_op op_add pe_int (pe_call (ok__law_draw T) (hr.mono (by omega)) (by rfl) T._law_draw.g T._law_draw.F.kp T._law_draw.b .nil pass0 (pa_cons (pv 0) (pa_cons pe_int pa_nil)))) pa_nil)) (blkOk_by (N := N__law_term) (sc := defScope s__law_term) (by decide +kernel)) (fun _ _ _ _ _ => (pg_name (i := 6) sc__law_term.nd rfl (Or.inl rfl))) (fun _ _ _ _ _ => pts_nil) (fun _ _ _ _ _ => (pe_call (IH) (hr.mono (by omega)) (by rfl) T._law_term.g T._law_term.F.kp T._law_term.b .nil pass0 (pa_cons (pv 0) (pa_cons (pv 1) (pa_cons (pv 2) (pa_cons (pe_op op_sub (pv 3) pe_int) pa_nil))))))) pa_nil)))
      (pss_cons (ps_if (pt_cmpR op_eq (pv 4) pe_int (nomark _)) (pss_one (ps_ret (pe_tup (pa_cons pe_str (pa_cons (pe_op op_add pe_int (pe_call (ok__law_draw T) (hr.mono (by omega)) (by rfl) T._law_draw.g T._law_draw.F.kp T._law_draw.b .nil pass0 (pa_cons (pv 0) (pa_cons (pe_callB (r := Evl.rLenS K) call_len_seq (by rfl) T.n_len PySem.boot_len (pa_cons (pv 5) pa_nil)) pa_nil)))) (pa_cons (pv 5) pa_nil)))))) pss_nil)
      (pss_one (ps_ret (pe_tup (pa_cons (pe_ix ix_list (pe_lst (pa_cons pe_str (pa_cons pe_str pa_nil))) (pe_op op_mod (pe_callTy call_int1 (by rfl) T.n_int (by decide +kernel) (pa_cons (pv 4) pa_nil)) pe_int) (fun _ _ => rfl)) (pa_cons (pv 5) pa_nil))))))))), ?_⟩
    -- kind
    refine ⟨_, rfl, s, c, n, 5, rfl, S, by omega, by decide, by decide, fun kind H1 k0 k9 e1 S1 => ?_⟩
    have hM1 := hM.exM e1 S1
    refine Evl.q_when (Evl.et_or (Evl.et_test (Evl.ev_op (Evl.ev_var rfl) Evl.ev_c (Evl.rv_eq rfl))) (fun _ => Evl.et_test (Evl.ev_op (Evl.ev_var rfl) Evl.ev_c (Evl.rv_eq rfl)))) (fun hb H2 e2 => ?_) (fun hb H2 e2 => ?_)
    · exact ⟨_, rfl, _, rfl, _, rfl, s, c, n + 1, M, sh, mo, rfl, S1.ex1 e2, sM, cM, hM1.ex e2, by omega, s1, s6, m1, m30, fun v t H3 e3 S3 d3 g3 => q v t H3 ((e1.trans (ExM.of e2)).trans e3) (S3.mono (by omega)) d3 (g3.up1 l)⟩
    simp only [Bool.or_eq_false_iff, decide_eq_false_iff_not] at hb
    obtain ⟨b1, b2⟩ := hb
    have hl : 1 ≤ l := by
      have : ¬ (((l + 1 : Nat) : Int)) = 1 := fun z => b1 (congrArg V.int z)
      omega
    have S2 := S1.ex1 e2
    have e12 : ExM [s, c] H H2 := e1.trans (ExM.of e2)
    -- parts
    refine ⟨_, rfl, s, c, n + 1, 3, rfl, S2, by omega, by decide, by decide, fun d H3 d0 d3 e3 S3 => ⟨_, _, rfl, rfl, _, rfl, by omega, by omega, fun D hD => ?_⟩⟩
    have nD := S3.nes' hD
    have hM3 := hM.exM (e12.trans e3) S3
    refine lc_range (lo := 0) (n := (1 + d).toNat) (fun i H' => ∃ (vs : List V) (ts : List Trm), H' D = some (.lst vs) ∧ ts.length = i ∧ vs.length = i ∧ Dms K (D :: M) H' vs (ts.map enc) ∧ (∀ t ∈ ts, Gen sh (10 ^ 30) l t) ∧ ExM [s, c] H3 H' ∧ Src H' s c (n + 2 + i * cost l))
      ⟨[], [], upd_same, rfl, rfl, .nil, (by simp), ExM.new hD, (S3.new hD).mono (by omega)⟩ (fun i H' hi hP => ⟨rfl, ?_⟩) (fun H' hP => ?_)
    · obtain ⟨vs, ts, hp, lt, lv, dv, gt, eM, S'⟩ := hP
      have hi3 : i * cost l ≤ 2 * cost l := Nat.mul_le_mul_right _ (by omega)
      have hdom : Dom (D :: M) H' := (hM3.exM eM S').cons (by rw [hp]; exact fun z => nomatch z)
      refine ⟨_, rfl, _, rfl, _, rfl, _, rfl, _, _, rfl, rfl, s, c, _, D :: M, sh, mo, l, ?_, S', List.mem_cons_of_mem _ sM, List.mem_cons_of_mem _ cM, hdom, hl, by omega, by omega, s1, s6, m1, m30, fun v t H5 e5 S5 d5 g5 => ?_⟩
      · show [V.ref s, V.int sh, V.int mo, V.int (((l + 1 : Nat) : Int) - 1)] = [V.ref s, V.int sh, V.int mo, V.int (l : Int)]
        rw [show (((l + 1 : Nat) : Int) - 1) = (l : Int) by omega]
      · have hp5 : H5 D = some (.lst vs) := e5 D _ (by simp [nD.1, nD.2]) hp
        have eU : ExM (D :: M) H5 (upd H5 D (.lst (vs ++ [v]))) := ExM.mut (by simp)
        have sub : ∀ m, m ∈ [s, c] → m ∈ D :: M := fun m hm => by
          simp only [List.mem_cons, List.not_mem_nil, or_false] at hm
          rcases hm with rfl | rfl
          · exact List.mem_cons_of_mem _ sM
          · exact List.mem_cons_of_mem _ cM
        refine ⟨vs, hp5, small1000 (by omega), vs ++ [v], ts ++ [t], upd_same, by simp [lt], by simp [lv], ?_, ?_, (eM.trans e5).mut0 hD, (S5.upd nD.1 nD.2).mono (by rw [Nat.succ_mul]; omega)⟩
        · rw [List.map_append]
          exact dpa_app (dms_exM eU (dms_exM (e5.sub sub) dv)) (.cons (dm_exM eU d5) .nil)
        · intro u hu
          rcases List.mem_append.mp hu with hu | hu
          · exact gt u hu
          · rw [List.mem_singleton] at hu
            rw [hu]
            exact g5
    · obtain ⟨vs, ts, hp, lt, lv, dv, gt, eM, S'⟩ := hP
      have t1 : 1 ≤ ts.length := by omega
      have t3 : ts.length ≤ 3 := by omega
      have hi3 : (1 + d).toNat * cost l ≤ 3 * cost l := Nat.mul_le_mul_right _ (by omega)
      refine ⟨D, vs, rfl, .inl ⟨Evl.sq_of hp, fun p hpn => ?_⟩⟩
      have hM4 : Dom M H' := hM3.exM eM S'
      have np : p ∉ M := hM4.nin hpn
      have dp : Dm K M (upd H' p (.tup vs)) (.ref p) (.tuple (ts.map enc)) := .tup (Evl.st_of (mi_of np upd_same)) (dms_ex (Evl.Ex.new hpn) (dms_less dv))
      have hpt : upd H' p (.tup vs) p = some (.tup vs) := upd_same
      have eA : ExM [s, c] H (upd H' p (.tup vs)) := (e12.trans (e3.trans eM)).trans (ExM.new hpn)
      have SA := S'.new (o := .tup vs) hpn
      generalize upd H' p (.tup vs) = H6 at dp eA SA hpt
      have hM6 := hM.exM eA SA
      refine Evl.q_when (Evl.et_test (Evl.ev_op (Evl.ev_var rfl) Evl.ev_c (Evl.rv_eq rfl))) (fun hb H7 e7 => ?_) (fun hb H7 e7 => ?_)
      · have S7 := SA.ex1 e7
        refine ⟨_, rfl, _, rfl, p, vs, rfl, .inr (Evl.st_of (e7 _ _ hpt)), s, c, _, (vs.length : Int), rfl, S7, by omega, by omega, by omega, fun k H9 k0 k1 e9 S9 => ⟨_, _, rfl, rfl, _, rfl, (show 3 ≤ sizeLine by decide), fun p2 hp2 => ?_⟩⟩
        obtain ⟨j, rfl⟩ : ∃ j : Nat, k = (j : Int) := ⟨_, (Int.toNat_of_nonneg k0).symm⟩
        have eB := (eA.trans (ExM.of e7)).trans e9
        have hM9 := hM.exM eB S9
        have sub : ∀ m, m ∈ [s, c] → m ∈ M := fun m hm => by
          simp only [List.mem_cons, List.not_mem_nil, or_false] at hm
          rcases hm with rfl | rfl
          · exact sM
          · exact cM
        refine q (.ref p2) (.node (.rank (j + 1)) ts) _ (eB.trans (ExM.new hp2)) ((S9.new hp2).mono (by omega)) ?_ (Gen.node t1 t3 ⟨by omega, by omega⟩ gt)
        rw [enc_eq]
        refine .tup (Evl.st_of (mi_of (hM9.nin hp2) upd_same)) (.cons (.str _) (.cons ?_ (.cons (dm_ex (Evl.Ex.new hp2) (dm_exM (e9.sub sub) (dm_ex e7 dp))) .nil)))
        show Dp K _ (.int (1 + (j : Int))) (.int ((j + 1 : Nat) : Int))
        rw [show (1 + (j : Int)) = ((j + 1 : Nat) : Int) by omega]
        exact .int _
      · have hk : ∃ h : Hd, (kind % 2 = 0 ∧ h = .least) ∨ (kind % 2 = 1 ∧ h = .most) := by
          rcases Int.emod_two_eq kind with z | z
          · exact ⟨.least, .inl ⟨z, rfl⟩⟩
          · exact ⟨.most, .inr ⟨z, rfl⟩⟩
        obtain ⟨h, hk⟩ := hk
        have hword : Evl.Ev (tOp (rIxL K) (tLst (tCons (tC (.str "least")) (tCons (tC (.str "most")) tNil))) (tOp (rI (fun x j => 0 < j) fun i j => V.int (i % j)) (tCB (fun xs H Q => (∃ i, xs = [V.int i] ∧ Q (V.int i) H) ∨ ∃ k, xs = [V.bl k] ∧ Q (V.int (if k = true then 1 else 0)) H) (tCons (tVar 4) tNil)) (tC (V.int 2))))
            [some (.ref s), some (.int sh), some (.int mo), some (.int ((l + 1 : Nat) : Int)), some (.int kind), some (.ref p), none] H7 (.str (word (.node h ts))) := by
          refine ev_ixNewL (xs := [.str "least", .str "most"]) (Evl.el_lst (Evl.ea_cons Evl.ev_c (Evl.ea_cons Evl.ev_c Evl.ea_nil)) (by simp)) (i := kind % 2) (Evl.ev_op (Evl.ev_cb (Evl.ea_cons (Evl.ev_var rfl) Evl.ea_nil) (fun H1 _ Q q => .inl ⟨kind, rfl, q H1 (Evl.Ex.refl _)⟩)) Evl.ev_c (Evl.rv_I (by decide))) ?_
          rcases hk with ⟨z, rfl⟩ | ⟨z, rfl⟩ <;> rw [z] <;> rfl
        refine s_retD (de_tup (hM6.ex e7) (da_cons (de_sc (d := .str (word (.node h ts))) hword rfl) (da_cons (de_v (dm_ex e7 dp) (by rfl)) da_nil)) (by simp)) fun v H8 e8 hv => ?_
        have hok : hdOk h ts.length := by
          rcases hk with ⟨_, rfl⟩ | ⟨_, rfl⟩ <;> exact True.intro
        refine q v (.node h ts) H8 (eA.trans (ExM.of (e7.trans e8))) ((SA.ex1 (e7.trans e8)).mono (by omega)) ?_ (Gen.node t1 t3 hok gt)
        rw [enc_eq]
        rcases hk with ⟨_, rfl⟩ | ⟨_, rfl⟩ <;> exact hv
end
end K21

set_option Elab.async false
set_option linter.all false
set_option maxRecDepth 100000
set_option maxHeartbeats 4000000
namespace K21
open PySem PySem.Spec PyProof.Rows L2 DK DD TM
section
variable {P : Program} {w : World} {K : PySem.W.Frag} {mg : Str → Option Value} {base : Heap}
/-- [a drawn term for k in range(..)] -/
theorem lc_gen {M : List Addr} {s c : Addr} {n B : Nat} {σ : L2.St} {H : Hp} {ta : TA} {te : TE} {j : Nat} {ws : List Nat} {G : Trm → Prop} {m : Nat} {Q : VK} (hM : Dom M H) (S : Src H s c n) (sM : s ∈ M) (cM : c ∈ M) (hm : m ≤ 100) (ha : Evl.EvA ta σ H [.int (m : Int)])
    (hw : ∀ x, wipe ((wipe σ ws).set j (some x)) ws = wipe σ ws)
    (he : ∀ (i : Nat) x H' D, i < m → H' D ≠ none → Dom (D :: M) H' → Src H' s c (n + i * B) → ∀ Q : VK, (∀ (v : V) (t : Trm) (H'' : Hp), ExM [s, c] H' H'' → Src H'' s c (n + i * B + B) → Dm K (D :: M) H'' v (enc t) → G t → Q v H'') → te ((wipe σ ws).set j (some x)) H' Q)
    (q : ∀ (p : Addr) (vs : List V) (ts : List Trm) (H' : Hp), ts.length = m → H p = none → ExM [s, c] H H' → Src H' s c (n + m * B) → H' p = some (.lst vs) → Dms K (p :: M) H' vs (ts.map enc) → (∀ t ∈ ts, G t) → Q (.ref p) H') :
    tLc (iRng1 ta) (gName j) tYes te ws σ H Q := ha H (Evl.Ex.refl _) _ fun H3 e3 => by
  refine ⟨_, rfl, by omega, by omega, fun D hD => ?_⟩
  have hD0 := Evl.fresh_back e3 hD
  have S3 := S.ex1 e3
  have nD := S3.nes' hD
  have hM3 := hM.ex e3
  refine lc_range (lo := 0) (n := ((m : Int)).toNat) (fun i H' => ∃ (vs : List V) (ts : List Trm), H' D = some (.lst vs) ∧ ts.length = i ∧ vs.length = i ∧ Dms K (D :: M) H' vs (ts.map enc) ∧ (∀ t ∈ ts, G t) ∧ ExM [s, c] H3 H' ∧ Src H' s c (n + i * B))
    ⟨[], [], upd_same, rfl, rfl, .nil, (by simp), ExM.new hD, (S3.new hD).mono (by omega)⟩ (fun i H' hi hP => ⟨hw _, ?_⟩) (fun H' hP => ?_)
  · obtain ⟨vs, ts, hp, lt, lv, dv, gt, eM, S'⟩ := hP
    have hdom : Dom (D :: M) H' := (hM3.exM eM S').cons (by rw [hp]; exact fun z => nomatch z)
    refine he i _ H' D (by omega) (by rw [hp]; exact fun z => nomatch z) hdom S' _ fun v t H5 e5 S5 d5 g5 => ?_
    have hp5 : H5 D = some (.lst vs) := e5 D _ (by simp [nD.1, nD.2]) hp
    have eU : ExM (D :: M) H5 (upd H5 D (.lst (vs ++ [v]))) := ExM.mut (by simp)
    have sub : ∀ m, m ∈ [s, c] → m ∈ D :: M := fun m hm => by
      simp only [List.mem_cons, List.not_mem_nil, or_false] at hm
      rcases hm with rfl | rfl
      · exact List.mem_cons_of_mem _ sM
      · exact List.mem_cons_of_mem _ cM
    refine ⟨vs, hp5, Evl.sz_lt (by omega), vs ++ [v], ts ++ [t], upd_same, by simp [lt], by simp [lv], ?_, ?_, (eM.trans e5).mut0 hD, (S5.upd nD.1 nD.2).mono (by rw [Nat.succ_mul]; omega)⟩
    · rw [List.map_append]
      exact dpa_app (dms_exM eU (dms_exM (e5.sub sub) dv)) (.cons (dm_exM eU d5) .nil)
    · intro u hu
      rcases List.mem_append.mp hu with hu | hu
      · exact gt u hu
      · rw [List.mem_singleton] at hu
        rw [hu]
        exact g5
  · obtain ⟨vs, ts, hp, lt, lv, dv, gt, eM, S'⟩ := hP
    rw [Int.toNat_natCast] at lt lv S'
    exact q D vs ts H' lt hD0 ((ExM.of e3).trans eM) S' hp dv gt
theorem two_node {M : List Addr} {H : Hp} {h : Hd} {p1 p2 p3 : Addr} {v : V} {t : Trm} {a : Int} {wd : Str} (hM : Dom M H) (h1 : H p1 = none) (h2 : upd H p1 (.tup [.str "plain", .int a]) p2 = none) (h3 : upd (upd H p1 (.tup [.str "plain", .int a])) p2 (.tup [v, .ref p1]) p3 = none)
    (hw : enc (.node h [t, .plain a]) = .tuple [.str wd, .tuple [enc t, .tuple [.str "plain", .int a]]]) (hd : Dm K M H v (enc t)) : Dm K M (upd (upd (upd H p1 (.tup [.str "plain", .int a])) p2 (.tup [v, .ref p1])) p3 (.tup [.str wd, .ref p2])) (.ref p3) (enc (.node h [t, .plain a])) := by
  have x1 := Evl.Ex.new (o := .tup [.str "plain", .int a]) h1
  have x2 := Evl.Ex.new (o := .tup [v, .ref p1]) h2
  have x3 := Evl.Ex.new (o := .tup [.str wd, .ref p2]) h3
  have n1 : p1 ∉ M := hM.nin h1
  have n2 : p2 ∉ M := (hM.ex x1).nin h2
  have n3 : p3 ∉ M := (hM.ex (x1.trans x2)).nin h3
  rw [hw]
  exact .tup (Evl.st_of (mi_of n3 upd_same)) (.cons (.str _) (.cons (dm_ex x3 (.tup (Evl.st_of (mi_of n2 upd_same)) (.cons (dm_ex (x1.trans x2) hd) (.cons (dm_ex x2 (.tup (Evl.st_of (mi_of n1 upd_same)) (.cons (.str _) (.cons (.int _) .nil)))) .nil)))) .nil))
/-- _law_bounded(source, many, most) -/
def spBnd (K : PySem.W.Frag) : Sp := fun vs H Q _ => ∃ (s c : Addr) (n : Nat) (M : List Addr) (sh mo : Int), vs = [.ref s, .int sh, .int mo] ∧ Src H s c n ∧ s ∈ M ∧ c ∈ M ∧ Dom M H ∧ n + 100 < 2 ^ 60 ∧ 1 ≤ sh ∧ sh ≤ 6 ∧ 1 ≤ mo ∧ mo ≤ 10 ^ 29 ∧
  ∀ (v : V) (t : Trm) H', ExM [s, c] H H' → Src H' s c (n + 100) → Dm K M H' v (enc t) → Gen sh (10 ^ 30) 4 t → Q v H'
theorem ok__law_bounded (T : Top K mg) : FnOk P w K mg base CX0 9 T._law_bounded.f T._law_bounded.fd ["source", "many", "most"] (spBnd K) := by
  refine T._law_bounded.F.ok sc__law_bounded (fun vs H Q E h => ?_) (fun cdv A outer s H vs Q E hr h => ?_)
  · obtain ⟨_, _, _, _, _, _, rfl, _⟩ := h
    rfl
  obtain ⟨s, c, n, M, sh, mo, rfl, S, sM, cM, hM, n60, s1, s6, m1, m29, q⟩ := h
  refine ⟨_, (pss_cons (ps_set (i := 3) sc__law_bounded.nd rfl (Or.inl rfl) (pe_call (ok__law_add T) (hr.mono (by omega)) (by rfl) T._law_add.g T._law_add.F.kp T._law_add.b .nil pass0 (pa_cons (pv 0) (pa_cons (pv 2) pa_nil))))
      (pss_cons (ps_set (i := 4) sc__law_bounded.nd rfl (Or.inl rfl) (pe_call (ok__law_term T 3) (hr.mono (by omega)) (by rfl) T._law_term.g T._law_term.F.kp T._law_term.b .nil pass0 (pa_cons (pv 0) (pa_cons (pv 1) (pa_cons (pv 2) (pa_cons pe_int pa_nil))))))
      (pss_cons (ps_if (pt_cmpR op_gt (pe_call (ok__law_draw T) (hr.mono (by omega)) (by rfl) T._law_draw.g T._law_draw.F.kp T._law_draw.b .nil pass0 (pa_cons (pv 0) (pa_cons pe_int pa_nil))) pe_int (nomark _)) (pss_one (ps_set (i := 4) sc__law_bounded.nd rfl (Or.inl rfl) (pe_tup (pa_cons pe_str (pa_cons (pe_tup (pa_cons (pv 4) (pa_cons (pe_tup (pa_cons pe_str (pa_cons (pe_op op_add (pv 3) (pe_call (ok__law_draw T) (hr.mono (by omega)) (by rfl) T._law_draw.g T._law_draw.F.kp T._law_draw.b .nil pass0 (pa_cons (pv 0) (pa_cons pe_int pa_nil)))) pa_nil))) pa_nil))) pa_nil))))) pss_nil)
      (pss_cons (ps_if (pt_cmpR op_gt (pe_call (ok__law_draw T) (hr.mono (by omega)) (by rfl) T._law_draw.g T._law_draw.F.kp T._law_draw.b .nil pass0 (pa_cons (pv 0) (pa_cons pe_int pa_nil))) pe_int (nomark _)) (pss_one (ps_set (i := 4) sc__law_bounded.nd rfl (Or.inl rfl) (pe_tup (pa_cons pe_str (pa_cons (pe_tup (pa_cons (pv 4) (pa_cons (pe_tup (pa_cons pe_str (pa_cons (pv 3) pa_nil))) pa_nil))) pa_nil))))) pss_nil)
      (pss_one (ps_ret (pv 4))))))), ?_⟩
  refine ⟨_, rfl, _, rfl, s, c, n, mo, rfl, S, by omega, m1, fun low H1 l1 l2 e1 S1 => ?_⟩
  have c2 : cost 2 = 80 := rfl
  refine ⟨_, rfl, _, rfl, _, rfl, s, c, n + 6, M, sh, mo, 2, rfl, S1, sM, cM, hM.exM e1 S1, by decide, by decide, by omega, s1, s6, m1, by omega, fun v t H2 e2 S2 d2 g2 => ?_⟩
  have sub : ∀ m, m ∈ [s, c] → m ∈ M := fun m hm => by
    simp only [List.mem_cons, List.not_mem_nil, or_false] at hm
    rcases hm with rfl | rfl
    · exact sM
    · exact cM
  dsimp only [L2.gName]
  refine LS.q_word (fun σ' H' => ∃ (v : V) (t : Trm), σ' = [some (.ref s), some (.int sh), some (.int mo), some (.int low), some v] ∧ ExM [s, c] H H' ∧ Src H' s c (n + 6 + cost 2 + 2) ∧ Dm K M H' v (enc t) ∧ Gen sh (10 ^ 30) 3 t) (fun N hN => ?_) (fun σ' H' hW => ?_)
  · refine ⟨_, rfl, s, c, _, 3, rfl, S2, by omega, by decide, by decide, fun d H3 d0 d1 e3 S3 => ⟨_, _, rfl, rfl, _, rfl, ite2 (fun _ => ?_) (fun _ => ?_)⟩⟩
    · refine ⟨_, rfl, _, rfl, _, rfl, s, c, _, 4, rfl, S3, by omega, by decide, by decide, fun d4 H4 d40 d41 e4 S4 => ⟨_, _, rfl, rfl, (show 2 ≤ sizeLine by decide), fun p1 hp1 => ⟨(show 2 ≤ sizeLine by decide), fun p2 hp2 => ⟨(show 2 ≤ sizeLine by decide), fun p3 hp3 => ?_⟩⟩⟩⟩
      have e := ((e1.trans e2).trans e3).trans e4
      refine hN _ _ ⟨.ref p3, .node .least [t, .plain (low + d4)], rfl, (((e.trans (ExM.new hp1)).trans (ExM.new hp2)).trans (ExM.new hp3)), (((S4.new hp1).new hp2).new hp3).mono (by omega), two_node (hM.exM e S4) hp1 hp2 hp3 rfl (dm_exM ((e3.trans e4).sub sub) d2), ?_⟩
      refine Gen.node (by simp) (by simp) True.intro fun u hu => ?_
      simp only [List.mem_cons, List.not_mem_nil, or_false] at hu
      rcases hu with rfl | rfl
      · exact g2
      · exact Gen.plain (by omega) (by omega) (Int.le_refl _)
    · exact hN _ _ ⟨v, t, rfl, (e1.trans e2).trans e3, S3.mono (by omega), dm_exM (e3.sub sub) d2, g2.up⟩
  · obtain ⟨v, t, rfl, eW, SW, dW, gW⟩ := hW
    refine LS.q_word (fun σ' H' => ∃ (v : V) (t : Trm), σ' = [some (.ref s), some (.int sh), some (.int mo), some (.int low), some v] ∧ ExM [s, c] H H' ∧ Src H' s c (n + 100) ∧ Dm K M H' v (enc t) ∧ Gen sh (10 ^ 30) 4 t) (fun N hN => ?_) (fun σ' H' hW => ?_)
    · refine ⟨_, rfl, s, c, _, 3, rfl, SW, by omega, by decide, by decide, fun d H3 d0 d1 e3 S3 => ⟨_, _, rfl, rfl, _, rfl, ite2 (fun _ => ?_) (fun _ => ?_)⟩⟩
      · refine ⟨_, rfl, _, rfl, (show 2 ≤ sizeLine by decide), fun p1 hp1 => ⟨(show 2 ≤ sizeLine by decide), fun p2 hp2 => ⟨(show 2 ≤ sizeLine by decide), fun p3 hp3 => ?_⟩⟩⟩
        have e := eW.trans e3
        refine hN _ _ ⟨.ref p3, .node .most [t, .plain low], rfl, (((e.trans (ExM.new hp1)).trans (ExM.new hp2)).trans (ExM.new hp3)), (((S3.new hp1).new hp2).new hp3).mono (by omega), two_node (hM.exM e S3) hp1 hp2 hp3 rfl (dm_exM (e3.sub sub) dW), ?_⟩
        refine Gen.node (by simp) (by simp) True.intro fun u hu => ?_
        simp only [List.mem_cons, List.not_mem_nil, or_false] at hu
        rcases hu with rfl | rfl
        · exact gW
        · exact Gen.plain (by omega) (by omega) (Int.le_refl _)
      · exact hN _ _ ⟨v, t, rfl, eW.trans e3, S3.mono (by omega), dm_exM (e3.sub sub) dW, gW.up⟩
    · obtain ⟨v, t, rfl, eW, SW, dW, gW⟩ := hW
      exact ⟨_, rfl, q v t H' eW SW dW gW⟩
theorem backS {s c p : Addr} {n : Nat} {H H' : Hp} (e : ExM [s, c] H H') (S : Src H' s c n) (hp : H' p = none) : H p = none := by
  obtain ⟨_, ks, t, h1, h2, _⟩ := S
  cases hz : H p with
  | none => rfl
  | some o =>
    have : p ∉ [s, c] := fun m => by
      simp only [List.mem_cons, List.not_mem_nil, or_false] at m
      rcases m with rfl | rfl
      · rw [h1] at hp; cases hp
      · rw [h2] at hp; cases hp
    rw [e p o this hz] at hp
    cases hp
theorem okR_gen {ts : List Trm} {m : Nat} {sh : Int} (hl : ts.length = m) (h : 1 ≤ m ∧ m ≤ 6 ∧ sh = (m : Int)) (hG : ∀ t ∈ ts, Gen sh (10 ^ 30) 4 t) : okR ts :=
  ⟨by omega, by omega, fun t ht => ⟨(hG t ht).okT (Nat.le_refl _), fun i hi => by
    have := shs_in (hG t ht).inB i hi
    omega⟩⟩
/-- _law_rules(source, most) -/
def spRules (K : PySem.W.Frag) : Sp := fun vs H Q _ => ∃ (s c : Addr) (n : Nat) (M : List Addr) (mo : Int), vs = [.ref s, .int mo] ∧ Src H s c n ∧ s ∈ M ∧ c ∈ M ∧ Dom M H ∧ n + 2000 < 2 ^ 60 ∧ 1 ≤ mo ∧ mo ≤ 10 ^ 29 ∧
  ∀ p vs rs H', H p = none → ExM [s, c] H H' → Src H' s c (n + 2000) → H' p = some (.lst vs) → Dms K (p :: M) H' vs (rs.map enc) → okR rs → rs.length ≤ 4 → Q (.ref p) H'
theorem ok__law_rules (T : Top K mg) : FnOk P w K mg base CX0 10 T._law_rules.f T._law_rules.fd ["source", "most"] (spRules K) := by
  refine T._law_rules.F.ok sc__law_rules (fun vs H Q E h => ?_) (fun cdv A outer s H vs Q E hr h => ?_)
  · obtain ⟨_, _, _, _, _, rfl, _⟩ := h
    rfl
  obtain ⟨s, c, n, M, mo, rfl, S, sM, cM, hM, n60, m1, m29, q⟩ := h
  refine ⟨_, (pss_cons (ps_set (i := 2) sc__law_rules.nd rfl (Or.inr rfl) (pe_op op_add pe_int (pe_call (ok__law_draw T) (hr.mono (by omega)) (by rfl) T._law_draw.g T._law_draw.F.kp T._law_draw.b .nil pass0 (pa_cons (pv 0) (pa_cons pe_int pa_nil)))))
      (pss_cons (ps_if (pt_cmpR op_eq (pe_call (ok__law_draw T) (hr.mono (by omega)) (by rfl) T._law_draw.g T._law_draw.F.kp T._law_draw.b .nil pass0 (pa_cons (pv 0) (pa_cons pe_int pa_nil))) pe_int (nomark _)) (pss_one (ps_ret (pe_lc (own := [("k", 3)]) (g := gName 3) (tt := tYes) rfl sc__law_rules.nd (pi_range1 (by rfl) T.n_range (pa_cons (pv 2) pa_nil)) (blkOk_by (N := N__law_rules) (sc := defScope s__law_rules) (by decide +kernel)) (fun _ _ _ _ _ => (pg_name (i := 3) sc__law_rules.nd rfl (Or.inl rfl))) (fun _ _ _ _ _ => pts_nil) (fun _ _ _ _ _ => (pe_call (ok__law_term T 3) (hr.mono (by omega)) (by rfl) T._law_term.g T._law_term.F.kp T._law_term.b .nil pass0 (pa_cons (pv 0) (pa_cons (pv 2) (pa_cons (pv 1) (pa_cons pe_int pa_nil))))))))) pss_nil)
      (pss_one (ps_ret (pe_lc (own := [("k", 3)]) (g := gName 3) (tt := tYes) rfl sc__law_rules.nd (pi_range1 (by rfl) T.n_range (pa_cons (pv 2) pa_nil)) (blkOk_by (N := N__law_rules) (sc := defScope s__law_rules) (by decide +kernel)) (fun _ _ _ _ _ => (pg_name (i := 3) sc__law_rules.nd rfl (Or.inl rfl))) (fun _ _ _ _ _ => pts_nil) (fun _ _ _ _ _ => (pe_call (ok__law_bounded T) (hr.mono (by omega)) (by rfl) T._law_bounded.g T._law_bounded.F.kp T._law_bounded.b .nil pass0 (pa_cons (pv 0) (pa_cons (pv 2) (pa_cons (pv 1) pa_nil)))))))))), ?_⟩
  refine ⟨_, rfl, s, c, n, 4, rfl, S, by omega, by decide, by decide, fun d H1 d0 d1 e1 S1 => ⟨_, _, rfl, rfl, ?_⟩⟩
  obtain ⟨j, rfl⟩ : ∃ j : Nat, d = (j : Int) := ⟨_, (Int.toNat_of_nonneg d0).symm⟩
  dsimp only [L2.gName]
  have c3 : cost 3 = 260 := rfl
  refine ⟨_, rfl, s, c, n + 1, 3, rfl, S1, by omega, by decide, by decide, fun d2 H2 d20 d21 e2 S2 => ⟨rfl, _, rfl, ite2 (fun _ => ?_) (fun _ => ?_)⟩⟩
  · refine lc_gen (K := K) (M := M) (m := 1 + j) (B := 300) (G := Gen (1 + (j : Int)) (10 ^ 30) 4) (hM.exM (e1.trans e2) S2) S2 sM cM (by omega) (Evl.ea_cons (Evl.ev_is (Evl.ev_var rfl) (congrArg V.int (by omega))) Evl.ea_nil) (fun _ => rfl) (fun i x H' D hi hD hdom S' Q q => ?_) (fun p vs ts H' hl hp e S' hp' hv hG => ?_)
    · have : i * 300 ≤ 1200 := by omega
      exact ⟨_, rfl, _, rfl, _, rfl, s, c, _, D :: M, 1 + (j : Int), mo, 3, rfl, S', List.mem_cons_of_mem _ sM, List.mem_cons_of_mem _ cM, hdom, by decide, by decide, by omega, by omega, by omega, m1, by omega, fun v t H5 e5 S5 d5 g5 => q v t H5 e5 (S5.mono (by omega)) d5 g5.up⟩
    · refine q p vs ts H' (backS (e1.trans e2) S2 hp) ((e1.trans e2).trans e) (S'.mono (by omega)) hp' hv (okR_gen hl (by omega) hG) (by omega)
  · refine lc_gen (K := K) (M := M) (m := 1 + j) (B := 300) (G := Gen (1 + (j : Int)) (10 ^ 30) 4) (hM.exM (e1.trans e2) S2) S2 sM cM (by omega) (Evl.ea_cons (Evl.ev_is (Evl.ev_var rfl) (congrArg V.int (by omega))) Evl.ea_nil) (fun _ => rfl) (fun i x H' D hi hD hdom S' Q q => ?_) (fun p vs ts H' hl hp e S' hp' hv hG => ?_)
    · have : i * 300 ≤ 1200 := by omega
      exact ⟨_, rfl, _, rfl, _, rfl, s, c, _, D :: M, 1 + (j : Int), mo, rfl, S', List.mem_cons_of_mem _ sM, List.mem_cons_of_mem _ cM, hdom, by omega, by omega, by omega, m1, m29, fun v t H5 e5 S5 d5 g5 => q v t H5 e5 (S5.mono (by omega)) d5 g5⟩
    · refine q p vs ts H' (backS (e1.trans e2) S2 hp) ((e1.trans e2).trans e) (S'.mono (by omega)) hp' hv (okR_gen hl (by omega) hG) (by omega)
end
end K21

set_option Elab.async false
set_option linter.all false
set_option maxRecDepth 100000
set_option maxHeartbeats 4000000
namespace K21
open PySem PySem.Spec PyProof.Rows L2 DK DD TM
section
variable {P : Program} {w : World} {K : PySem.W.Frag} {mg : Str → Option Value} {base : Heap}
theorem q_par2 {M : List Addr} {σ : L2.St} {H : Hp} {ta tb : TE} {tz : TS} {D : Ends} {ds : List PyData} {v2 : V} {i j : Nat} (h : DL K M ta σ H ds) (hb : ∀ H1, Evl.Ex H H1 → Evl.Ev tb σ H1 v2)
    (k : ∀ p vs H1, H p = none → Evl.Ex H H1 → H1 p = some (.lst vs) → Dms K (p :: M) H1 vs ds → tz D ((σ.set i (some (.ref p))).set j (some v2)) H1) : tSeq (tPar i j (tCons ta (tCons tb tNil))) tz D σ H :=
  h H (Evl.Ex.refl _) _ fun p vs H1 n e hp hd => hb H1 e H1 (Evl.Ex.refl _) _ fun H2 e2 => ⟨_, _, rfl, k p vs H2 n (e.trans e2) (e2 _ _ hp) (dms_ex e2 hd)⟩
theorem tst {M : List Addr} {H H' : Hp} {σ : L2.St} {v : V} {t : Trm} {x : Str} (hd : Dm K M H v (enc t)) (e : Evl.Ex H H') (z : σ[0]? = some (some v)) : Evl.EvT (tTest (tOp rEq (tOp (rIxT K) (tVar 0) (tC (.int 0))) (tC (.str x)))) σ H' (decide (V.str (word t) = V.str x)) :=
  Evl.et_test (Evl.ev_op (ev_word (Evl.ev_var z) (dm_ex e hd)) Evl.ev_c (Evl.rv_eq rfl))
theorem ok__law_value (T : Top K mg) : ∀ L : Nat, FnOk P w K mg base CX0 (L + 1) T._law_value.f T._law_value.fd ["term", "prices"] (spR K (RTell L))
  | 0 => by
    have no : ∀ vs H Q E, ¬ spR K (RTell 0) vs H Q E := fun vs H Q E h => by
      obtain ⟨_, _, _, _, _, ⟨t, _, _, _, _, h, _⟩, _⟩ := h
      have := dep_pos t
      omega
    exact ⟨fun vs H Q E h => absurd h (no vs H Q E), fun A outer s H args us vs Q E _ _ _ _ h => absurd h (no vs H Q E)⟩
  | L + 1 => by
    have IH := ok__law_value T L
    refine T._law_value.F.ok sc__law_value (fun vs H Q E h => ?_) (fun cdv A outer s H vs Q E hr h => ?_)
    · obtain ⟨M, ds, r, _, hv, ⟨t, ps, rfl, _⟩, _⟩ := h
      exact dpa_len hv
    obtain ⟨M, ds, r, hM, hv, ⟨t, ps, rfl, hin, hf, hdp, rfl⟩, q⟩ := h
    obtain ⟨v, v2, rfl, hd, hp⟩ := dpa2 hv
    refine ⟨_, (pss_cons (ps_if (pt_cmpR op_eq (pe_ix ix_tup (pv 0) pe_int (fun _ _ => rfl)) pe_str (nomark _)) (pss_one (ps_ret (pe_ix ix_tup (pv 0) pe_int (fun _ _ => rfl)))) pss_nil)
      (pss_cons (ps_if (pt_cmpR op_eq (pe_ix ix_tup (pv 0) pe_int (fun _ _ => rfl)) pe_str (nomark _)) (pss_one (ps_ret (pe_op op_add (pe_ix ix_list (pv 1) (pe_ix ix_tup (pv 0) pe_int (fun _ _ => rfl)) (fun _ _ => rfl)) (pe_ix ix_tup (pv 0) pe_int (fun _ _ => rfl))))) pss_nil)
      (pss_cons (ps_set (i := 2) sc__law_value.nd rfl (Or.inl rfl) (pe_callB cr_sorted (by rfl) T.n_sorted (by decide +kernel) (pa_cons (pe_lc (own := [("part", 3)]) (g := gName 3) (tt := tYes) rfl sc__law_value.nd (pi_tup (pe_ix ix_tup (pv 0) (pe_un un_neg pe_int) (fun _ _ => rfl))) (blkOk_by (N := N__law_value) (sc := defScope s__law_value) (by decide +kernel)) (fun _ _ _ _ _ => (pg_name (i := 3) sc__law_value.nd rfl (Or.inl rfl))) (fun _ _ _ _ _ => pts_nil) (fun _ _ _ _ _ => (pe_call (IH) (hr.mono (by omega)) (by rfl) T._law_value.g T._law_value.F.kp T._law_value.b .nil pass0 (pa_cons (pv 3) (pa_cons (pv 1) pa_nil))))) pa_nil)))
      (pss_cons (ps_if (pt_cmpR op_eq (pe_ix ix_tup (pv 0) pe_int (fun _ _ => rfl)) pe_str (nomark _)) (pss_one (ps_ret (pe_ix ix_list (pv 2) pe_int (fun _ _ => rfl)))) pss_nil)
      (pss_cons (ps_if (pt_cmpR op_eq (pe_ix ix_tup (pv 0) pe_int (fun _ _ => rfl)) pe_str (nomark _)) (pss_one (ps_ret (pe_ix ix_list (pv 2) (pe_un un_neg pe_int) (fun _ _ => rfl)))) pss_nil)
      (pss_one (ps_ret (pe_ix ix_list (pv 2) (pe_op op_sub (pe_ix ix_tup (pv 0) pe_int (fun _ _ => rfl)) pe_int) (fun _ _ => rfl))))))))), ?_⟩
    have hd1 : Dm K M H v (.tuple (encL t)) := by
      rw [← enc_eq]
      exact hd
    refine Evl.q_when (tst hd (Evl.Ex.refl _) (by rfl)) (fun hb H1 e1 => ?_) (fun hb H1 e1 => ?_)
    · match t, hd1, hb, q with
      | .plain n, hd1, hb, q => exact Evl.s_ret (ev_sc (de_ixT (de_v (dm_ex e1 hd1) (by rfl)) Evl.ev_c (d := .int n) rfl) rfl) fun H5 e5 => q _ H5 (e1.trans e5) (by rw [val]; exact .int _)
      | .price n a, hd1, hb, q => exact absurd (V.str.inj (of_decide_eq_true hb)) (by simp only [word]; decide +kernel)
      | .node .least ps, hd1, hb, q => exact absurd (V.str.inj (of_decide_eq_true hb)) (by simp only [word]; decide +kernel)
      | .node .most ps, hd1, hb, q => exact absurd (V.str.inj (of_decide_eq_true hb)) (by simp only [word]; decide +kernel)
      | .node (.rank k) ps, hd1, hb, q => exact absurd (V.str.inj (of_decide_eq_true hb)) (by simp only [word]; decide +kernel)
    refine Evl.q_when (tst hd e1 (by rfl)) (fun hb2 H2 e2 => ?_) (fun hb2 H2 e2 => ?_)
    · match t, hd1, hb2, q, hin with
      | .price n a, hd1, hb2, q, hin =>
        have e12 := e1.trans e2
        have hn : n < ps.length := by have := hin n (by simp [shs]); omega
        exact Evl.s_ret (Evl.ev_op (ev_sc (de_ixL (de_v (dm_ex e12 hp) (by rfl)) (ev_sc (de_ixT (de_v (dm_ex e12 hd1) (by rfl)) Evl.ev_c (d := .int n) rfl) rfl) (at_int hn)) rfl) (ev_sc (de_ixT (de_v (dm_ex e12 hd1) (by rfl)) Evl.ev_c (d := .int a) rfl) rfl) Evl.rv_I0) fun H4 e4 => q _ H4 (e12.trans e4) (by rw [val]; exact .int _)
      | .plain n, hd1, hb2, q, hin => exact absurd (V.str.inj (of_decide_eq_true hb2)) (by simp only [word]; decide +kernel)
      | .node .least ps, hd1, hb2, q, hin => exact absurd (V.str.inj (of_decide_eq_true hb2)) (by simp only [word]; decide +kernel)
      | .node .most ps, hd1, hb2, q, hin => exact absurd (V.str.inj (of_decide_eq_true hb2)) (by simp only [word]; decide +kernel)
      | .node (.rank k) ps, hd1, hb2, q, hin => exact absurd (V.str.inj (of_decide_eq_true hb2)) (by simp only [word]; decide +kernel)
    have e12 := e1.trans e2
    match t, hd, hd1, hb, hb2, q, hf, hdp, hin with
    | .plain n, _, _, hb, _, _, _, _, _ => exact absurd rfl (of_decide_eq_false hb)
    | .price n a, _, _, _, hb2, _, _, _, _ => exact absurd rfl (of_decide_eq_false hb2)
    | .node hd' ts, hd, hd1, hb, hb2, q, hf, hdp, hin =>
      have hff := (fr_iff (.node hd' ts)).mp hf
      have kl := form_kids hff.1
      have kd := (dep_iff (.node hd' ts) L).mp hdp
      simp only [kids] at kl kd
      have hi : ∀ u ∈ ts, ∀ i ∈ shs u, i < (ps.length : Int) := fun u hu i m => hin i (shss_mem.mpr ⟨u, hu, m⟩)
      have hd4 := dm_ex e12 hd1
      have hp4 := dm_ex e12 hp
      have hM4 := hM.ex e12
      refine q_asgDL (dl_asc (is := ts.map (val ps)) (by
        rw [List.map_map]
        exact dl_lcT (M := M) (l := ts) (enc := enc) (f := fun u => .int (val ps u)) hM4 (de_ixT (de_v hd4 (by rfl)) (Evl.ev_un Evl.ev_c Evl.ru_neg) (encL_kids (t := .node hd' ts) rfl)) (by omega) (fun _ => rfl)
          (fun u hu x H5 D n5 e5 hM5 hx => de_callR hM5 (da_cons (de_v hx (by rfl)) (da_cons (de_v (dm_ex e5 (dm_add n5 hp4)) (by rfl)) da_nil)) (R := RTell L) ⟨u, ps, rfl, hi u hu, hff.2 u hu, kd u hu, rfl⟩)) (by rw [List.length_map]; omega)) fun p vs H5 n5 e5 h5 d5 => ?_
      obtain rfl := dpa_ints d5
      have e05 := e12.trans e5
      have hd5 := dm_ex e5 hd4
      have hA : Dm K M H5 (.ref p) (iL (asc (ts.map (val ps)))) := .lst (Evl.sq_of (mi_of (hM4.nin n5) h5)) (dp_ints _)
      rw [val, vals_map] at q
      have hl : (asc (ts.map (val ps))).length = ts.length := by rw [asc_len, List.length_map]
      match hd', hd, hd5, q, hff with
      | .least, hd, hd5, q, hff =>
        have h1 := hff.1
        simp [form] at h1
        refine Evl.q_when (b := true) (Evl.et_is (tst hd e05 (by rfl)) rfl) (fun _ H6 e6 => ?_) (fun hb => nomatch hb)
        exact Evl.s_ret (ev_sc (de_ixL (de_v (dm_ex e6 hA) (by rfl)) Evl.ev_c (at_int (n := 0) (by omega))) rfl) fun H7 e7 => q _ H7 (e05.trans (e6.trans e7)) (.int _)
      | .most, hd, hd5, q, hff =>
        have h1 := hff.1
        simp [form] at h1
        refine Evl.q_when (b := false) (Evl.et_is (tst hd e05 (by rfl)) rfl) (fun hb => nomatch hb) (fun _ H6 e6 => ?_)
        refine Evl.q_when (b := true) (Evl.et_is (tst hd (e05.trans e6) (by rfl)) rfl) (fun _ H8 e8 => ?_) (fun hb => nomatch hb)
        exact Evl.s_ret (ev_sc (de_ixL (de_v (dm_ex (e6.trans e8) hA) (by rfl)) (Evl.ev_un Evl.ev_c Evl.ru_neg) (at_intLast (by omega))) rfl) fun H7 e7 => q _ H7 (e05.trans ((e6.trans e8).trans e7)) (.int _)
      | .rank k, hd, hd5, q, hff =>
        have h1 := hff.1
        simp [form] at h1
        refine Evl.q_when (b := false) (Evl.et_is (tst hd e05 (by rfl)) rfl) (fun hb => nomatch hb) (fun _ H6 e6 => ?_)
        refine Evl.q_when (b := false) (Evl.et_is (tst hd (e05.trans e6) (by rfl)) rfl) (fun hb => nomatch hb) (fun _ H8 e8 => ?_)
        have e68 := e6.trans e8
        exact Evl.s_ret (ev_sc (de_ixL (de_v (dm_ex e68 hA) (by rfl)) (Evl.ev_is (Evl.ev_op (ev_sc (de_ixT (de_v (dm_ex e68 hd5) (by rfl)) Evl.ev_c (d := .int k) rfl) rfl) Evl.ev_c Evl.rv_I0) (congrArg V.int (a₂ := ((k - 1 : Nat) : Int)) (by omega))) (at_int (by omega))) rfl) fun H7 e7 => q _ H7 (e05.trans (e68.trans e7)) (.int _)
theorem ok__law_behind (T : Top K mg) : FnOk P w K mg base CX0 9 T._law_behind.f T._law_behind.fd ["rules", "prices", "shop"] (spRL K RRep) := by
  refine T._law_behind.F.ok sc__law_behind (fun vs H Q E h => ?_) (fun cdv A outer s H vs Q E hr h => ?_)
  · obtain ⟨M, ds, r, _, hv, ⟨rs, ps, s, rfl, _⟩, _⟩ := h
    exact dpa_len hv
  obtain ⟨M, ds, r, hM, hv, ⟨rs, ps, s, rfl, hR, hl, h0, hs, rfl⟩, q⟩ := h
  obtain ⟨v, v1, v2, rfl, hd, hp, h2⟩ := dpa3 hv
  obtain rfl := dpInt h2
  refine ⟨_, (pss_cons (ps_set (i := 3) sc__law_behind.nd rfl (Or.inl rfl) (pe_callTy call_list_of (by rfl) T.n_list (by decide +kernel) (pa_cons (pv 1) pa_nil)))
      (pss_cons (ps_asg (pe_call (ok__law_value T 6) (hr.mono (by omega)) (by rfl) T._law_value.g T._law_value.F.kp T._law_value.b .nil pass0 (pa_cons (pe_ix ix_list (pv 0) (pv 2) (fun _ _ => rfl)) (pa_cons (pv 1) pa_nil))) (pg_sub (pv 3) (pv 2) set_list))
      (pss_one (ps_ret (pv 3))))), ?_⟩
  refine q_asgDL (dl_copy (de_v hp (by rfl))) fun p vs H1 n1 e1 h1 d1 => ?_
  obtain rfl := dpa_ints d1
  have hM1 := hM.ex e1
  have hn : s.toNat < rs.length := by omega
  have hs' : ((s.toNat : Nat) : Int) = s := by omega
  have hget : rs.getD s.toNat (.plain 0) ∈ rs := by
    rw [List.getD_eq_getElem?_getD, List.getElem?_eq_getElem hn]
    exact List.getElem_mem hn
  obtain ⟨k1, k2⟩ := hR.2.2 _ hget
  refine Evl.q_setL (j := s.toNat) (v := .int (val ps (rs.getD s.toNat (.plain 0)))) h1 (ev_sc (de_callR (E := E0) hM1 (da_cons (de_ixL (de_v (dm_ex e1 hd) (by rfl)) (Evl.ev_var rfl) (by rw [← hs']; exact at_enc hn)) (da_cons (de_v (dm_ex e1 hp) (by rfl)) da_nil)) (R := RTell 6)
    ⟨rs.getD s.toNat (.plain 0), ps, rfl, fun i m => by rw [hl]; exact k2 i m, k1.2.2, k1.2.1, rfl⟩) rfl) (Evl.ev_var rfl) (Evl.ev_is (Evl.ev_var rfl) (congrArg V.int hs'.symm)) (by rw [List.length_map]; omega) fun H2 e2 => ?_
  have eX : Evl.Ex H (upd H2 p (.lst ((ps.map V.int).set s.toNat (.int (val ps (rs.getD s.toNat (.plain 0))))))) := (e1.trans e2).mut n1
  refine Evl.s_ret (Evl.ev_var rfl) fun H3 e3 => q p _ H3 n1 (eX.trans e3) (e3 _ _ upd_same) ?_
  have : (ps.map V.int).set s.toNat (.int (val ps (rs.getD s.toNat (.plain 0)))) = (rep rs ps s).map V.int := by
    unfold rep
    rw [List.map_set]
  rw [this]
  exact dp_ints _
/-- what comes of an order, as data -/
def outD (rs : List Trm) (os ps : List Int) : PyData := match goA rs os ps with
  | none => .str "many"
  | some (f, n) => .tuple [.int (f : Int), .int ((n - f : Nat) : Int), iL (itr rs os ps n)]
abbrev RDue : List PyData → PyData → Prop := fun ds r => ∃ rs ps os, ds = [eR rs, iL os, iL ps] ∧ okR rs ∧ ps.length = rs.length ∧ 1 ≤ os.length ∧ os.length ≤ 1000 ∧ (∀ s ∈ os, 0 ≤ s ∧ s < (rs.length : Int)) ∧ r = outD rs os ps
theorem ok__law_due (T : Top K mg) : FnOk P w K mg base CX0 10 T._law_due.f T._law_due.fd ["rules", "order", "prices"] (spR K RDue) := by
  refine T._law_due.F.ok sc__law_due (fun vs H Q E h => ?_) (fun cdv A outer s H vs Q E hr h => ?_)
  · obtain ⟨M, ds, r, _, hv, ⟨rs, ps, os, rfl, _⟩, _⟩ := h
    exact dpa_len hv
  obtain ⟨M, ds, r, hM, hv, ⟨rs, ps, os, rfl, hR, hl, o1, o2, ho, rfl⟩, q⟩ := h
  obtain ⟨v, v1, v2, rfl, hd, h1, hp⟩ := dpa3 hv
  refine ⟨_, (pss_cons (ps_par (i := 3) (j := 4) (by rfl) sc__law_due.nd rfl rfl (by decide) rfl rfl (pa_cons (pe_callTy call_list_of (by rfl) T.n_list (by decide +kernel) (pa_cons (pv 2) pa_nil)) (pa_cons pe_int pa_nil)) (by rfl))
      (pss_cons (ps_set (i := 5) sc__law_due.nd rfl (Or.inl rfl) pe_dnewT)
      (pss_cons (ps_while PassesOwn.never (pt_cmpR op_le (pe_op op_mul (pv 4) (pe_callB (r := Evl.rLenS K) call_len_seq (by rfl) T.n_len PySem.boot_len (pa_cons (pv 1) pa_nil))) pe_int (nomark _)) (pss_cons (ps_if (pt_cmp (pc_din (hu1 hr) (pe_callTy call_tuple_of (by rfl) T.n_tuple (by decide +kernel) (pa_cons (pv 3) pa_nil)) (pv 5)) (by with_unfolding_all rfl)) (pss_cons (ps_set (i := 6) sc__law_due.nd rfl (Or.inl rfl) (pe_dget (hu1 hr) (pv 5) (pe_callTy call_tuple_of (by rfl) T.n_tuple (by decide +kernel) (pa_cons (pv 3) pa_nil)) (fun _ _ => rfl)))
      (pss_one (ps_ret (pe_tup (pa_cons (pv 6) (pa_cons (pe_op op_sub (pv 4) (pv 6)) (pa_cons (pv 3) pa_nil))))))) pss_nil)
      (pss_cons (ps_dput (hu1 hr) (pv 5) (pe_callTy call_tuple_of (by rfl) T.n_tuple (by decide +kernel) (pa_cons (pv 3) pa_nil)) (pv 4) rfl)
      (pss_cons (ps_for PassesOwn.never rfl (pi_list (pv 1)) (pg_name (i := 7) sc__law_due.nd rfl (Or.inl rfl)) (pss_one (ps_set (i := 3) sc__law_due.nd rfl (Or.inl rfl) (pe_call (ok__law_behind T) (hr.mono (by omega)) (by rfl) T._law_behind.g T._law_behind.F.kp T._law_behind.b .nil pass0 (pa_cons (pv 0) (pa_cons (pv 3) (pa_cons (pv 7) pa_nil)))))))
      (pss_one (ps_set (i := 4) sc__law_due.nd rfl (Or.inl rfl) (pe_op op_add (pv 4) pe_int)))))))
      (pss_one (ps_ret pe_str))))), ?_⟩
  refine q_par2 (M := M) (v2 := .int 0) (dl_copy (de_v hp (by rfl))) (fun _ _ => Evl.ev_c) fun p vs H1 n1 e1 hp1 d1 => ?_
  obtain rfl := dpa_ints d1
  have hnow : Dm K M H1 (.ref p) (iL ps) := .lst (Evl.sq_of (mi_of ((hM.nin n1)) hp1)) (dp_ints _)
  intro d nd
  have nd0 := Evl.fresh_back e1 nd
  have hx : ∀ n, itr rs os ps (n + 1) = aft rs (itr rs os ps n) os := fun n => rfl
  have h1' := h1
  cases h1' with
  | lst hs1 hv1 =>
  rename_i a1 xs1
  obtain rfl := dpa_ints hv1
  have sq : ∀ H', Evl.Ex H H' → SqL K H' a1 (os.map V.int) := fun H' e => Evl.ex_l e (Evl.ex_l (ex_full _ _) hs1)
  have osl : ((os.map PyData.int).length : Int) = (os.length : Int) := by rw [List.length_map]
  refine Evl.q_while (fun m σ' H' => ∃ (n : Nat) (v3 : V) (x7 : Option V), m = 1002 - n ∧ n ≤ 1001 ∧ σ' = [some v, some (.ref a1), some v2, some v3, some (.int (n : Int)), some (.ref d), none, x7] ∧ Evl.Ex H H' ∧ H' d = some (.dT (keysD (itr rs os ps) n)) ∧ Dm K (d :: M) H' v3 (iL (itr rs os ps n)) ∧
      goA rs os ps = if 1000 < n * os.length then none else goR (itr rs os ps) os.length (1001 - n) n) 1002
    ⟨0, .ref p, none, rfl, by omega, rfl, e1.trans (Evl.Ex.new nd), upd_same, dm_ex (Evl.Ex.new nd) (dm_add nd hnow), by rw [Nat.zero_mul, if_neg (by omega)] <;> rfl⟩ (fun m σ' H' hW => ?_)
  obtain ⟨n, v3, x7, rfl, n1001, rfl, eH, hD, h3, hgo⟩ := hW
  refine ⟨decide ((n : Int) * (os.length : Int) ≤ 1000), Evl.et_test (Evl.ev_op (Evl.ev_op (Evl.ev_var rfl) (Evl.ev_is (ev_lenD (de_v (dm_ex eH (dm_add nd0 h1)) (by rfl)) (.inr rfl)) (congrArg V.int osl)) (Evl.rv_I (.inl ⟨by omega, by omega⟩))) Evl.ev_c Evl.rv_I0), fun hb H4 e4 => ?_, fun hb H4 e4 => ?_⟩
  · have hle : ¬ 1000 < n * os.length := fun z => by
      have := of_decide_eq_true hb
      rw [← Int.natCast_mul] at this
      omega
    rw [if_neg hle] at hgo
    have hn : n ≤ 1000 := Nat.le_trans (Nat.le_mul_of_pos_right n (by omega)) (Nat.not_lt.mp hle)
    have hk : 1001 - n = (1001 - (n + 1)) + 1 := by omega
    have eH4 := eH.trans e4
    have hD4 := e4 _ _ hD
    have h34 := dm_ex e4 h3
    have hM4 : Dom (d :: M) H4 := (hM.ex eH4).cons (by rw [hD4]; exact fun z => nomatch z)
    refine ⟨fun σ2 H2 => ∃ m', m' < 1002 - n ∧ _, fun σ2 H2 z => z, ?_⟩
    refine Evl.q_when (Evl.et_B (ev_din hD4 rfl (eu_tuple (de_v h34 (by rfl))))) (fun hc H5 e5 => ?_) (fun hc H5 e5 => ?_)
    · rw [val_keys] at hc
      obtain ⟨f, hf⟩ : ∃ f, bef (itr rs os ps) n = some f := by
        cases z : bef (itr rs os ps) n with
        | none => rw [z] at hc; cases hc
        | some f => exact ⟨f, rfl⟩
      obtain ⟨fn, _⟩ := bef_some hf
      have hg : goA rs os ps = some (f, n) := by rw [hgo, hk, goR, hf]
      have ho' : outD rs os ps = .tuple [.int (f : Int), .int ((n - f : Nat) : Int), iL (itr rs os ps n)] := by
        unfold outD
        rw [hg]
      rw [ho'] at q
      have h35 := dm_ex e5 h34
      refine Evl.q_asg (ev_dget (e5 _ _ hD4) rfl (eu_tuple (de_v h35 (by rfl))) (by rw [val_keys, hf] <;> rfl)) fun H6 e6 => ?_
      have e56 := e5.trans e6
      exact s_retD (de_tup (hM4.ex e56) (da_cons (de_sc (d := .int (f : Int)) (Evl.ev_var rfl) rfl) (da_cons (de_sc (d := .int ((n - f : Nat) : Int)) (Evl.ev_is (Evl.ev_op (Evl.ev_var rfl) (Evl.ev_var rfl) Evl.rv_I0) (congrArg V.int (by omega))) rfl) (da_cons (de_v (dm_ex e6 h35) (by rfl)) da_nil))) (by simp)) fun u H7 e7 hu => q u H7 (eH4.trans (e56.trans e7)) (dm_less hu)
    · rw [val_keys] at hc
      have hbef : bef (itr rs os ps) n = none := by
        cases z : bef (itr rs os ps) n with
        | none => rfl
        | some f => rw [z] at hc; cases hc
      have h35 := dm_ex e5 h34
      refine q_dputT (e5 _ _ hD4) (by rw [keys_len]; omega) rfl (Evl.ev_var rfl) (eu_tuple (de_v h35 (by rfl))) fun H6 e6 => ?_
      rw [put_keys hbef]
      have eX : Evl.Ex H (upd H6 d (.dT (keysD (itr rs os ps) (n + 1)))) := ((eH4.trans e5).trans e6).mut nd0
      have eM : ExM (d :: M) H6 (upd H6 d (.dT (keysD (itr rs os ps) (n + 1)))) := ExM.mut (by simp)
      have h36 := dm_exM eM (dm_ex e6 h35)
      have hD6 : upd H6 d (.dT (keysD (itr rs os ps) (n + 1))) d = some (.dT (keysD (itr rs os ps) (n + 1))) := upd_same
      generalize upd H6 d (.dT (keysD (itr rs os ps) (n + 1))) = H7 at eX eM h36 hD6
      refine Evl.q_forL (Evl.ev_var rfl) (sq _ eX) (fun i σ' H' => ∃ (v3 : V) (x7 : Option V), σ' = [some v, some (.ref a1), some v2, some v3, some (.int (n : Int)), some (.ref d), none, x7] ∧ Evl.Ex H H' ∧ H' d = some (.dT (keysD (itr rs os ps) (n + 1))) ∧ Dm K (d :: M) H' v3 (iL (aft rs (itr rs os ps n) (os.take i))))
        (fun H8 e8 => ⟨v3, x7, rfl, eX.trans e8, e8 _ _ hD6, dm_ex e8 h36⟩) (fun i σ' H' _ hP => ?_) (fun i x σ' H' hx' hP => ?_) (fun σ' H' hP => ?_)
      · obtain ⟨u3, y7, _, eZ, _⟩ := hP
        exact sq _ eZ
      · obtain ⟨u3, y7, rfl, eZ, hDz, hz⟩ := hP
        rw [List.getElem?_map] at hx'
        cases hoz : os[i]? with
        | none => rw [hoz] at hx'; cases hx'
        | some o =>
        rw [hoz] at hx'
        obtain rfl : V.int o = x := Option.some.inj hx'
        have ht : os.take (i + 1) = os.take i ++ [o] := by rw [List.take_add_one, hoz] <;> rfl
        have hmem := List.mem_of_getElem? hoz
        have hMz : Dom (d :: M) H' := (hM.ex eZ).cons (by rw [hDz]; exact fun z => nomatch z)
        refine (de_dl hMz (dl_callR (E := E0) (R := RRep) hMz (da_cons (de_v (dm_ex eZ (dm_add nd0 hd)) (by rfl)) (da_cons (de_v hz (by rfl)) (da_cons (de_sc (Evl.ev_var rfl) rfl) da_nil)))
          ⟨rs, aft rs (itr rs os ps n) (os.take i), o, rfl, hR, by rw [aft_len, itr_len]; exact hl, (ho o hmem).1, (ho o hmem).2, rfl⟩)) H' (Evl.Ex.refl _) _ fun u4 H9 e9 h9 => ?_
        refine ⟨u4, some (.int o), rfl, eZ.trans e9, e9 _ _ hDz, ?_⟩
        rw [ht, aft_snoc]
        exact h9
      · obtain ⟨u3, y7, rfl, eZ, hDz, hz⟩ := hP
        rw [List.length_map, List.take_length] at hz
        refine Evl.s_asg (v := .int ((n + 1 : Nat) : Int)) (Evl.ev_is (Evl.ev_op (Evl.ev_var rfl) Evl.ev_c Evl.rv_I0) (congrArg V.int (by omega))) fun H9 e9 => ?_
        refine ⟨1002 - (n + 1), by omega, n + 1, u3, y7, rfl, by omega, rfl, eZ.trans e9, e9 _ _ hDz, dm_ex e9 hz, ?_⟩
        rw [hgo, hk, goR, hbef]
  · have hlt : 1000 < n * os.length := by
      have := of_decide_eq_false hb
      rw [← Int.natCast_mul] at this
      omega
    rw [if_pos hlt] at hgo
    have ho' : outD rs os ps = .str "many" := by
      unfold outD
      rw [hgo]
    rw [ho'] at q
    exact Evl.s_ret Evl.ev_c fun H5 e5 => q _ H5 (eH.trans (e4.trans e5)) (.str _)
end
end K21

set_option Elab.async false
set_option linter.all false
set_option maxRecDepth 100000
set_option maxHeartbeats 4000000
namespace K21
open PySem PySem.Spec PyProof.Rows L2 DK DD TM XC2
section
variable {P : Program} {w : World} {K : PySem.W.Frag} {mg : Str → Option Value} {base : Heap}
theorem cut_last (us : List V) (x : V) : cutV (us ++ [x]) none (some (-1)) = us := by
  unfold cutV
  rw [HT.sIx_none]
  have : HT.sIx (us ++ [x]).length (us ++ [x]).length (some (-1)) = us.length := by
    show (if (-1 : Int) < 0 then ((-1 : Int) + ((us ++ [x]).length : Int)).toNat else min (-1 : Int).toNat (us ++ [x]).length) = us.length
    rw [if_pos (by decide), List.length_append, List.length_singleton]
    omega
  rw [this]
  simp
theorem ok__law_told (T : Top K mg) (hk : PySem.W.exmOne K (.ref T.TooMany.C) (.ref T.TooMany.C) = some true) : FnOk P w K mg base CX0 15 T._law_told.f T._law_told.fd ["rules", "order", "prices"] (spR K RDue) := by
  refine T._law_told.F.ok sc__law_told (fun vs H Q E h => ?_) (fun cdv A outer s H vs Q E hr h => ?_)
  · obtain ⟨M, ds, r, _, hv, ⟨rs, ps, os, rfl, _⟩, _⟩ := h
    exact dpa_len hv
  obtain ⟨M, ds, r, hM, hv, ⟨rs, ps, os, rfl, hR, hl, o1, o2, ho, rfl⟩, q⟩ := h
  obtain ⟨v, v1, v2, rfl, hd, h1, hp⟩ := dpa3 hv
  refine ⟨_, (pss_cons (ps_set (i := 3) sc__law_told.nd rfl (Or.inl rfl) pe_non)
      (pss_cons (ps_set (i := 4) sc__law_told.nd rfl (Or.inl rfl) pe_non)
      (pss_cons (ps_kept (i := 5) rfl rfl sc__law_told.nd rfl rfl rfl (by decide) T.TooMany.g rfl (fun W pn xe tk _ => (pss_one (ps_set (i := 4) sc__law_told.nd rfl (Or.inl rfl) (pe_callS (ok_played T) (hr.mono (by omega)) (by rfl) T.played.g T.played.F.kp T.played.b (fun σ => passAt tk σ) (pa_cons (pv 0) (pa_cons (pv 2) (pa_cons (pv 1) pa_nil))))))) (fun a oe cls d pn _ _ => (pss_one (ps_set (i := 3) sc__law_told.nd rfl (Or.inl rfl) (pv 5)))))
      (pss_cons (ps_if (pt_cmpR op_notN (pv 3) pe_non (nomark _)) (pss_one (ps_ret pe_str)) pss_nil)
      (pss_cons (ps_if (PW.pt (pw_or (pt_not (pt_val (pe_callB call_isi (by rfl) T.n_isinstance (by decide +kernel) (pa_cons (pv 4) (pa_cons (pe_bltn (v := .ty "tuple") rfl T.n_tuple (by decide +kernel) rfl) pa_nil))))) (pw_or1 (pt_cmpR op_ne (pe_callB (r := Evl.rLenS K) call_len_seq (by rfl) T.n_len PySem.boot_len (pa_cons (pv 4) pa_nil)) pe_int (nomark _))))) (pss_one (ps_ret pe_str)) pss_nil)
      (pss_cons (ps_expr (pe_bm PySem.F.plainAttrs_list PySem.F.slot_list_append PySem.F.type_list_append mt_append (pe_ix ix_tup (pv 4) pe_int (fun _ _ => rfl)) (pa_cons pe_non pa_nil)))
      (pss_one (ps_ret (pe_tup (pa_cons (pe_ix ix_tup (pv 4) pe_int (fun _ _ => rfl)) (pa_cons (pe_ix ix_tup (pv 4) pe_int (fun _ _ => rfl)) (pa_cons (pe_slice sl_list (pe_ix ix_tup (pv 4) pe_int (fun _ _ => rfl)) po_none (po_some (pe_un un_neg pe_int))) pa_nil)))))))))))), ?_⟩
  refine Evl.q_asg Evl.ev_c fun H1 e1 => ?_
  refine Evl.q_asg Evl.ev_c fun H2 e2 => ?_
  have e12 := e1.trans e2
  refine LS.q_word (fun σ' H' => Evl.Ex H H' ∧ ((∃ (f n : Nat) (r p : Addr), σ' = [some v, some v1, some v2, some .non, some (.ref r), none] ∧ goA rs os ps = some (f, n) ∧ H r = none ∧ H p = none ∧ r ≠ p ∧ H' r = some (.tup [.int (f : Int), .int ((n - f : Nat) : Int), .ref p]) ∧ H' p = some (.lst ((itr rs os ps n).map V.int))) ∨
      (goA rs os ps = none ∧ ∃ a : Addr, σ' = [some v, some v1, some v2, some (.ref a), some .non, none])))
    (fun N hN => ?_) (fun σ' H' hW => ?_)
  · refine ⟨_, rfl, _, rfl, _, rfl, M, rs, ps, os, hM.ex e12, .cons (dm_ex e12 hd) (.cons (dm_ex e12 hp) (.cons (dm_ex e12 h1) .nil)), hR, hl, o1, o2, ho, fun f n r p H' hg hr hp ne e ht hp' => ?_, fun H' hg e => ⟨hk, fun a na => ⟨_, rfl, ?_⟩⟩⟩
    · exact hN _ _ ⟨e12.trans e, .inl ⟨f, n, r, p, rfl, hg, Evl.fresh_back e12 hr, Evl.fresh_back e12 hp, ne, ht, hp'⟩⟩
    · exact hN _ _ ⟨(e12.trans e).trans (Evl.Ex.new na), .inr ⟨hg, a, rfl⟩⟩
  obtain ⟨eH, hW⟩ := hW
  rcases hW with ⟨f, n, r, p, rfl, hg, hr', hp', ne, ht, hpl⟩ | ⟨hg, a, rfl⟩
  · have hout : outD rs os ps = .tuple [.int (f : Int), .int ((n - f : Nat) : Int), iL (itr rs os ps n)] := by
      unfold outD
      rw [hg]
    rw [hout] at q
    refine Evl.q_when (b := false) (Evl.et_test (Evl.ev_is (Evl.ev_op (Evl.ev_var rfl) Evl.ev_c (fun H1 _ Q q => ⟨rfl, q H1 (Evl.Ex.refl _)⟩)) rfl)) (fun hb => nomatch hb) (fun _ H3 e3 => ?_)
    have eH3 := eH.trans e3
    have hfd : Dm K M H3 (.ref r) (.tuple [.int (f : Int), .int ((n - f : Nat) : Int), iL (itr rs os ps n)]) :=
      .tup (Evl.st_of (mi_of (hM.nin hr') (e3 _ _ ht))) (.cons (.int _) (.cons (.int _) (.cons (.lst (Evl.sq_of (mi_of (hM.nin hp') (e3 _ _ hpl))) (dp_ints _)) .nil)))
    refine Evl.q_when (b := false) (Evl.et_is (Evl.et_or (Evl.et_not (Evl.et_B (ev_isi (de_v hfd (by rfl)) (kit_tuple _)))) (fun _ => Evl.et_test (Evl.ev_op (ev_lenD (de_v hfd (by rfl)) (.inl rfl)) Evl.ev_c (Evl.rv_ne rfl)))) (by simp [isTup])) (fun hb => nomatch hb) (fun _ H4 e4 => ?_)
    have ht4 := (e3.trans e4) _ _ ht
    refine Evl.q_app ((e3.trans e4) _ _ hpl) (Evl.ev_op (Evl.ev_var rfl) Evl.ev_c (Evl.rv_ixT (Evl.st_of ht4) rfl)) Evl.ev_c (by rw [List.length_map, itr_len]; have := hR.2.1; omega) fun H5 e5 => ?_
    have eX : Evl.Ex H (upd H5 p (.lst ((itr rs os ps n).map V.int ++ [V.non]))) := ((eH3.trans e4).trans e5).mut hp'
    have ht6 : upd H5 p (.lst ((itr rs os ps n).map V.int ++ [V.non])) r = some (.tup [.int (f : Int), .int ((n - f : Nat) : Int), .ref p]) := by
      rw [upd_ne ne]
      exact e5 _ _ ht4
    have hp6 : upd H5 p (.lst ((itr rs os ps n).map V.int ++ [V.non])) p = some (.lst ((itr rs os ps n).map V.int ++ [V.non])) := upd_same
    generalize upd H5 p (.lst ((itr rs os ps n).map V.int ++ [V.non])) = H6 at eX ht6 hp6
    have hM6 := hM.ex eX
    have ix : ∀ {i : Int} {u : V}, atI [V.int (f : Int), V.int ((n - f : Nat) : Int), V.ref p] i = some u → Evl.Ev (tOp (rIxT K) (tVar 4) (tC (.int i))) [some v, some v1, some v2, some .non, some (.ref r), none] H6 u := fun h => Evl.ev_op (Evl.ev_var rfl) Evl.ev_c (Evl.rv_ixT (Evl.st_of ht6) h)
    refine s_retD (K := K) (M := M) (de_tup hM6 (da_cons (de_sc (d := .int (f : Int)) (ix (i := 0) rfl) rfl) (da_cons (de_sc (d := .int ((n - f : Nat) : Int)) (ix (i := 1) rfl) rfl) (da_dl (dl_list hM6 (ix (i := 2) rfl) hp6 (ds := (itr rs os ps n).map PyData.int ++ [.none]) (dpa_app (dp_ints _) (.cons .non .nil)) Evl.eo_none (Evl.eo_some (Evl.ev_un Evl.ev_c Evl.ru_neg)) (cut_last _ _) (dp_ints _)) hM6 da_nil))) (by simp)) fun u H7 e7 hu => q u H7 (eX.trans e7) hu
  · have hout : outD rs os ps = .str "many" := by
      unfold outD
      rw [hg]
    rw [hout] at q
    refine Evl.q_when (b := true) (Evl.et_test (Evl.ev_is (Evl.ev_op (Evl.ev_var rfl) Evl.ev_c (fun H1 _ Q q => ⟨rfl, q H1 (Evl.Ex.refl _)⟩)) rfl)) (fun _ H3 e3 => ?_) (fun hb => nomatch hb)
    exact Evl.s_ret Evl.ev_c fun H5 e5 => q _ H5 (eH.trans (e3.trans e5)) (.str _)
end
end K21

set_option Elab.async false
set_option linter.all false
set_option maxRecDepth 100000
set_option maxHeartbeats 400000
/-! What the law's own rows come to. -/
namespace K21
open PySem PySem.Spec PyProof.Rows L2 DK DD TM XC2
theorem bef_none {x : Nat → List Int} {m : Nat} (h : ∀ f, f < m → x f ≠ x m) : bef x m = none := by
  unfold bef
  rw [List.find?_eq_none]
  intro f hf
  rw [List.mem_range] at hf
  simpa using h f hf
theorem bef_of {x : Nat → List Int} {f N : Nat} (hf : f < N) (e : x f = x N) (u : ∀ g, g < N → x g = x N → g = f) : bef x N = some f := by
  cases z : bef x N with
  | none =>
    unfold bef at z
    rw [List.find?_eq_none] at z
    exact absurd (decide_eq_true e) (z f (List.mem_range.mpr hf))
  | some g =>
    obtain ⟨h1, h2⟩ := bef_some z
    rw [u g h1 h2]
theorem goR_run {x : Nat → List Int} {L f N : Nat} (hN : bef x N = some f) : ∀ k n, n ≤ N → N - n < k → (∀ m, n ≤ m → m < N → bef x m = none ∧ (m + 1) * L ≤ 1000) → goR x L k n = some (f, N)
  | 0, n, _, h, _ => by omega
  | k + 1, n, hn, hk, h => by
    by_cases e : n = N
    · subst e
      rw [goR, hN]
    · obtain ⟨h1, h2⟩ := h n (Nat.le_refl n) (by omega)
      rw [goR, h1]
      dsimp only
      rw [if_neg (by omega)]
      exact goR_run hN k (n + 1) (by omega) (by omega) fun m m1 m2 => h m (by omega) m2
theorem goR_many {x : Nat → List Int} {L N : Nat} (hL : 1000 < (N + 1) * L) : ∀ k n, n ≤ N → (∀ m, n ≤ m → m ≤ N → bef x m = none) → goR x L k n = none
  | 0, n, _, _ => rfl
  | k + 1, n, hn, h => by
    rw [goR, h n (Nat.le_refl n) hn]
    dsimp only
    by_cases e : 1000 < (n + 1) * L
    · rw [if_pos e]
    · rw [if_neg e]
      have : n ≠ N := fun z => e (z ▸ hL)
      exact goR_many hL k (n + 1) (by omega) fun m m1 m2 => h m (by omega) m2
theorem least2 (a b : Int) : pick .least (asc [a, b]) = min a b := by
  by_cases h : a ≤ b
  · have : asc [a, b] = [a, b] := (asc_uni (List.Perm.refl _) (by simp [h])).symm
    rw [this]
    show a = min a b
    omega
  · have : asc [a, b] = [b, a] := (asc_uni (List.Perm.swap a b []) (by simp; omega)).symm
    rw [this]
    show b = min a b
    omega
/-- the least of one more than the price, and of m -/
abbrev up (m : Int) : Trm := .node .least [.price 0 1, .plain m]
theorem rep_up (m p : Int) : rep [up m] [p] 0 = [min (p + 1) m] := by
  have : val [p] (up m) = min (p + 1) m := by
    rw [val, vals, vals, vals, val, val]
    exact least2 (p + 1) m
  show [val [p] (up m)] = _
  rw [this]
theorem itr1 {m p : Int} (h : p ≤ m) : ∀ n : Nat, itr [up m] [0] [p] n = [min (p + n) m]
  | 0 => by
    show [p] = _
    rw [show min (p + ((0 : Nat) : Int)) m = p by omega]
  | n + 1 => by
    show rep [up m] (itr [up m] [0] [p] n) 0 = _
    rw [itr1 h n, rep_up, show min (min (p + (n : Int)) m + 1) m = min (p + ((n + 1 : Nat) : Int)) m by omega]
theorem itr2 {m p : Int} (h : p ≤ m) : ∀ n : Nat, itr [up m] [0, 0] [p] n = [min (p + 2 * n) m]
  | 0 => by
    show [p] = _
    rw [show min (p + 2 * ((0 : Nat) : Int)) m = p by omega]
  | n + 1 => by
    show rep [up m] (rep [up m] (itr [up m] [0, 0] [p] n) 0) 0 = _
    rw [itr2 h n, rep_up, rep_up, show min (min (min (p + 2 * (n : Int)) m + 1) m + 1) m = min (p + 2 * ((n + 1 : Nat) : Int)) m by omega]
theorem one_inj {a b : Int} (h : [a] = [b]) : a = b := List.cons.inj h |>.1
theorem out_of {rs : List Trm} {os ps : List Int} {f n : Nat} (h : goA rs os ps = some (f, n)) : outD rs os ps = .tuple [.int (f : Int), .int ((n - f : Nat) : Int), iL (itr rs os ps n)] := by
  unfold outD
  rw [h]
theorem out_many {rs : List Trm} {os ps : List Int} (h : goA rs os ps = none) : outD rs os ps = .str "many" := by
  unfold outD
  rw [h]
theorem row1 : outD [up 999] [0] [0] = .tuple [.int 999, .int 1, iL [999]] := by
  have h : goA [up 999] [0] [0] = some (999, 1000) := by
    refine goR_run (bef_of (by decide) ?_ fun g hg e => ?_) 1001 0 (by decide) (by decide) fun m _ hm => ⟨bef_none fun f hf e => ?_, by simp; omega⟩
    · rw [itr1 (by decide), itr1 (by decide)] <;> rfl
    · rw [itr1 (by decide), itr1 (by decide)] at e
      have := one_inj e
      omega
    · rw [itr1 (by decide), itr1 (by decide)] at e
      have := one_inj e
      omega
  rw [out_of h, itr1 (by decide)] <;> rfl
theorem row2 : outD [up 999] [0] [-1] = .str "many" := out_many (goR_many (N := 1000) (by decide) 1001 0 (by decide) fun m _ hm => bef_none fun f hf e => by
  rw [itr1 (by decide), itr1 (by decide)] at e
  have := one_inj e
  omega)
theorem row3 : outD [up 998] [0, 0] [0] = .tuple [.int 499, .int 1, iL [998]] := by
  have h : goA [up 998] [0, 0] [0] = some (499, 500) := by
    refine goR_run (bef_of (by decide) ?_ fun g hg e => ?_) 1001 0 (by decide) (by decide) fun m _ hm => ⟨bef_none fun f hf e => ?_, by simp; omega⟩
    · rw [itr2 (by decide), itr2 (by decide)] <;> rfl
    · rw [itr2 (by decide), itr2 (by decide)] at e
      have := one_inj e
      omega
    · rw [itr2 (by decide), itr2 (by decide)] at e
      have := one_inj e
      omega
  rw [out_of h, itr2 (by decide)] <;> rfl
theorem row4 : outD [up 998] [0, 0] [-1] = .str "many" := out_many (goR_many (N := 500) (by decide) 1001 0 (by decide) fun m _ hm => bef_none fun f hf e => by
  rw [itr2 (by decide), itr2 (by decide)] at e
  have := one_inj e
  omega)
theorem rep_still (p : Int) : rep [.price 0 0] [p] 0 = [p] := by
  show [p + 0] = [p]
  rw [Int.add_zero]
theorem aft_still (p : Int) : ∀ k : Nat, aft [.price 0 0] [p] (List.replicate k 0) = [p]
  | 0 => rfl
  | k + 1 => by
    show aft _ (rep [.price 0 0] [p] 0) (List.replicate k 0) = _
    rw [rep_still]
    exact aft_still p k
theorem aft_seven : ∀ (k : Nat) (p : Int), aft [.plain 7] [p] (List.replicate (k + 1) 0) = [7]
  | 0, p => rfl
  | k + 1, p => aft_seven k 7
theorem itr_still (k : Nat) (p : Int) : ∀ n, itr [.price 0 0] (List.replicate k 0) [p] n = [p]
  | 0 => rfl
  | n + 1 => by rw [itr, itr_still k p n, aft_still]
theorem itr_seven (k : Nat) (p : Int) (n : Nat) : itr [.plain 7] (List.replicate (k + 1) 0) [p] (n + 1) = [7] := by
  rw [itr]
  cases n with
  | zero => exact aft_seven k p
  | succ n => rw [itr_seven k p n]; exact aft_seven k 7
theorem row5k (k : Nat) (hk : k ≤ 1000) : outD [.price 0 0] (List.replicate k 0) [5] = .tuple [.int 0, .int 1, iL [5]] := by
  have h : goA [.price 0 0] (List.replicate k 0) [5] = some (0, 1) := by
    refine goR_run (bef_of (by decide) ?_ fun g hg e => by omega) 1001 0 (by decide) (by decide) fun m _ hm => ⟨bef_none fun f hf e => by omega, ?_⟩
    · rw [itr_still, itr_still]
    · obtain rfl : m = 0 := by omega
      rw [List.length_replicate]
      omega
  rw [out_of h, itr_still] <;> rfl
theorem row5 : outD [.price 0 0] (List.replicate 1000 0) [5] = .tuple [.int 0, .int 1, iL [5]] := row5k 1000 (Nat.le_refl _)
theorem seven_none (k m : Nat) (hm : m ≤ 1) : bef (itr [.plain 7] (List.replicate (k + 1) 0) [5]) m = none := by
  refine bef_none fun f hf e => ?_
  obtain rfl : m = 1 := by omega
  obtain rfl : f = 0 := by omega
  rw [itr_seven k 5 0] at e
  exact absurd (one_inj e) (by decide)
theorem row6k (k : Nat) (hk : 1000 < 2 * (k + 1)) : outD [.plain 7] (List.replicate (k + 1) 0) [5] = .str "many" := out_many (goR_many (N := 1) (by rw [List.length_replicate]; omega) 1001 0 (by decide) fun m _ hm => seven_none k m hm)
theorem row6 : outD [.plain 7] (List.replicate 1000 0) [5] = .str "many" := row6k 999 (by decide)
theorem row7k (k : Nat) (hk : 2 * (k + 1) ≤ 1000) : outD [.plain 7] (List.replicate (k + 1) 0) [5] = .tuple [.int 1, .int 1, iL [7]] := by
  have h : goA [.plain 7] (List.replicate (k + 1) 0) [5] = some (1, 2) := by
    refine goR_run (bef_of (by decide) ?_ fun g hg e => ?_) 1001 0 (by decide) (by decide) fun m _ hm => ⟨seven_none k m (by omega), ?_⟩
    · rw [itr_seven k 5 0, itr_seven k 5 1]
    · match g, hg with
      | 1, _ => rfl
      | 0, _ =>
        rw [itr_seven k 5 1] at e
        exact absurd (one_inj e) (by decide)
    · rw [List.length_replicate]
      have : (m + 1) * (k + 1) ≤ 2 * (k + 1) := Nat.mul_le_mul_right _ (by omega)
      omega
  rw [out_of h, itr_seven k 5 1] <;> rfl
theorem row7 : outD [.plain 7] (List.replicate 500 0) [5] = .tuple [.int 1, .int 1, iL [7]] := row7k 499 (by decide)
theorem row8 : outD [.plain 7] (List.replicate 501 0) [5] = .str "many" := row6k 500 (by decide)
theorem row9 : outD [.price 1 0, .price 2 0, .price 0 0] [0, 1, 2] [4, 7, 9] = .tuple [.int 1, .int 2, iL [7, 9, 7]] := by
  have h : goA [.price 1 0, .price 2 0, .price 0 0] [0, 1, 2] [4, 7, 9] = some (1, 3) := by decide +kernel
  rw [out_of h] <;> rfl
theorem row10 : outD [up 999] [0] [1000] = .tuple [.int 1, .int 1, iL [999]] := by
  have x1 : ∀ n : Nat, itr [up 999] [0] [1000] (n + 1) = [999] := fun n => by
    induction n with
    | zero =>
      show rep [up 999] [1000] 0 = _
      rw [rep_up] <;> rfl
    | succ n ih =>
      show rep [up 999] (itr [up 999] [0] [1000] (n + 1)) 0 = _
      rw [ih, rep_up] <;> rfl
  have h : goA [up 999] [0] [1000] = some (1, 2) := by
    refine goR_run (bef_of (by decide) ?_ fun g hg e => ?_) 1001 0 (by decide) (by decide) fun m _ hm => ⟨bef_none fun f hf e => ?_, by simp; omega⟩
    · rw [x1 0, x1 1]
    · match g, hg with
      | 1, _ => rfl
      | 0, _ =>
        rw [x1 1] at e
        exact absurd (one_inj e) (by decide)
    · obtain rfl : m = 1 := by omega
      obtain rfl : f = 0 := by omega
      rw [x1 0] at e
      exact absurd (one_inj e) (by decide)
  rw [out_of h, x1 1] <;> rfl
end K21

set_option Elab.async false
set_option linter.all false
set_option maxRecDepth 100000
set_option maxHeartbeats 4000000
namespace K21
open PySem PySem.Spec PyProof.Rows L2 DK DD TM XC2
section
variable {P : Program} {w : World} {K : PySem.W.Frag} {mg : Str → Option Value} {base : Heap}
theorem q_te {te : TE} {i : Nat} {tz : TS} {D : Ends} {σ : L2.St} {H : Hp} (h : te σ H fun x H1 => tz D (σ.set i (some x)) H1) : tSeq (tAsg te (gName i)) tz D σ H := h
theorem domS {s c : Addr} {n : Nat} {H : Hp} (S : Src H s c n) : Dom [s, c] H := fun m hm => by
  obtain ⟨_, ks, t, h1, h2, _⟩ := S
  simp only [List.mem_cons, List.not_mem_nil, or_false] at hm
  rcases hm with rfl | rfl
  · rw [h1]; exact fun z => nomatch z
  · rw [h2]; exact fun z => nomatch z
/-- [a drawn number for x in a list] -/
theorem lc_nums {s c a : Addr} {n : Nat} {σ : L2.St} {H : Hp} {te : TE} {i0 j : Nat} {ws : List Nat} {xs : List V} {C : Int → Prop} {Q : VK} (S : Src H s c n) (hv : σ[i0]? = some (some (.ref a))) (ha : H a = some (.lst xs)) (na : a ∉ [s, c]) (hx : xs.length ≤ 100)
    (hw : ∀ x, wipe ((wipe σ ws).set j (some x)) ws = wipe σ ws)
    (he : ∀ (i : Nat) x H', i < xs.length → Src H' s c (n + i) → H' a = some (.lst xs) → ∀ Q : VK, (∀ (d : Int) (H'' : Hp), ExM [s, c] H' H'' → Src H'' s c (n + i + 1) → C d → Q (.int d) H'') → te ((wipe σ ws).set j (some x)) H' Q)
    (q : ∀ (p : Addr) (ds : List Int) (H' : Hp), ds.length = xs.length → H p = none → ExM [s, c] H H' → Src H' s c (n + xs.length) → H' p = some (.lst (ds.map V.int)) → (∀ d ∈ ds, C d) → Q (.ref p) H') :
    tLc (iList K (tVar i0)) (gName j) tYes te ws σ H Q := by
  refine ⟨_, hv, a, rfl, ⟨xs, Evl.sq_of ha⟩, fun D hD => ?_⟩
  have nD := S.nes' hD
  have aD : a ≠ D := fun z => by rw [z, hD] at ha; cases ha
  refine lc_list (xs := xs) (fun i H' => ∃ ds : List Int, H' D = some (.lst (ds.map V.int)) ∧ ds.length = i ∧ (∀ d ∈ ds, C d) ∧ ExM [s, c] H H' ∧ Src H' s c (n + i) ∧ H' a = some (.lst xs))
    ⟨[], upd_same, rfl, (by simp), ExM.new hD, S.new hD, by rw [upd_ne aD]; exact ha⟩ (fun i H' _ hP => by obtain ⟨_, _, _, _, _, _, z⟩ := hP; exact Evl.sq_of z) (fun i x H' hxi hP => ⟨hw _, ?_⟩) (fun H' hP => ?_)
  · obtain ⟨ds, hp, lt, gt, eM, S', ha'⟩ := hP
    have hi := (List.getElem?_eq_some_iff.mp hxi).1
    refine he i x H' hi S' ha' _ fun d H5 e5 S5 c5 => ?_
    have hp5 : H5 D = some (.lst (ds.map V.int)) := e5 D _ (by simp [nD.1, nD.2]) hp
    refine ⟨ds.map V.int, hp5, Evl.sz_lt (by rw [List.length_map]; omega), ds ++ [d], by rw [upd_same, List.map_append] <;> rfl, by simp [lt], ?_, (eM.trans e5).mut0 hD, S5.upd nD.1 nD.2, by rw [upd_ne aD]; exact e5 a _ na ha'⟩
    intro u hu
    rcases List.mem_append.mp hu with hu | hu
    · exact gt u hu
    · rw [List.mem_singleton] at hu
      rw [hu]
      exact c5
  · obtain ⟨ds, hp, lt, gt, eM, S', ha'⟩ := hP
    exact q D ds H' lt hD eM S' hp gt
/-- [a drawn number for x in range(1 + a drawn one)] -/
theorem lc_numr {s c a : Addr} {n : Nat} {σ : L2.St} {H : Hp} {ta : TA} {te : TE} {j : Nat} {ws : List Nat} {xs : List V} {C : Int → Prop} {Q : VK} (ha : H a = some (.lst xs)) (na : a ∉ [s, c])
    (hr : ∀ R : List V → Hp → Prop, (∀ (d : Int) H', 0 ≤ d → d < 5 → ExM [s, c] H H' → Src H' s c (n + 1) → R [.int (1 + d)] H') → ta σ H R)
    (hw : ∀ x, wipe ((wipe σ ws).set j (some x)) ws = wipe σ ws)
    (he : ∀ (i : Nat) x H', i ≤ 5 → Src H' s c (n + 1 + i) → H' a = some (.lst xs) → ∀ Q : VK, (∀ (d : Int) (H'' : Hp), ExM [s, c] H' H'' → Src H'' s c (n + 1 + i + 1) → C d → Q (.int d) H'') → te ((wipe σ ws).set j (some x)) H' Q)
    (q : ∀ (p : Addr) (ds : List Int) (H' : Hp), 1 ≤ ds.length → ds.length ≤ 5 → H p = none → ExM [s, c] H H' → Src H' s c (n + 6) → H' p = some (.lst (ds.map V.int)) → (∀ d ∈ ds, C d) → Q (.ref p) H') :
    tLc (iRng1 ta) (gName j) tYes te ws σ H Q := hr _ fun d H1 d0 d5 e1 S => by
  refine ⟨_, rfl, by omega, by omega, fun D hD => ?_⟩
  have nD := S.nes' hD
  have ha1 := e1 a _ na ha
  have aD : a ≠ D := fun z => by rw [z, hD] at ha1; cases ha1
  refine lc_range (lo := 0) (n := (1 + d).toNat) (fun i H' => ∃ ds : List Int, H' D = some (.lst (ds.map V.int)) ∧ ds.length = i ∧ (∀ d ∈ ds, C d) ∧ ExM [s, c] H1 H' ∧ Src H' s c (n + 1 + i) ∧ H' a = some (.lst xs))
    ⟨[], upd_same, rfl, (by simp), ExM.new hD, S.new hD, by rw [upd_ne aD]; exact ha1⟩ (fun i H' hi hP => ⟨hw _, ?_⟩) (fun H' hP => ?_)
  · obtain ⟨ds, hp, lt, gt, eM, S', ha'⟩ := hP
    refine he i _ H' (by omega) S' ha' _ fun d H5 e5 S5 c5 => ?_
    have hp5 : H5 D = some (.lst (ds.map V.int)) := e5 D _ (by simp [nD.1, nD.2]) hp
    refine ⟨ds.map V.int, hp5, Evl.sz_lt (by rw [List.length_map]; omega), ds ++ [d], by rw [upd_same, List.map_append] <;> rfl, by simp [lt], ?_, (eM.trans e5).mut0 hD, S5.upd nD.1 nD.2, by rw [upd_ne aD]; exact e5 a _ na ha'⟩
    intro u hu
    rcases List.mem_append.mp hu with hu | hu
    · exact gt u hu
    · rw [List.mem_singleton] at hu
      rw [hu]
      exact c5
  · obtain ⟨ds, hp, lt, gt, eM, S', ha'⟩ := hP
    exact q D ds H' (by omega) (by omega) (backS e1 S hD) (e1.trans eM) (S'.mono (by omega)) hp gt
theorem depthAll_le {n : Nat} : ∀ {ds : List PyData}, (∀ d ∈ ds, d.depth ≤ n) → PyData.depthAll ds ≤ n
  | [], _ => by simp [PyData.depthAll]
  | d :: ds, h => by
    have h1 := h d (by simp)
    have h2 := depthAll_le (ds := ds) fun e he => h e (List.mem_cons_of_mem _ he)
    simp only [PyData.depthAll]
    omega
theorem lay_ints : ∀ is : List Int, PyData.canLayAll0 (is.map PyData.int) = true ∧ PyData.depthAll (is.map PyData.int) ≤ 1
  | [] => by simp [PyData.canLayAll0, PyData.depthAll]
  | i :: is => by
    obtain ⟨h1, h2⟩ := lay_ints is
    simp only [List.map_cons, PyData.canLayAll0, PyData.depthAll, PyData.canLay0, PyData.depth, h1]
    exact ⟨rfl, by omega⟩
theorem lay_iL (is : List Int) : (iL is).canLay0 = true ∧ (iL is).depth ≤ 2 := by
  obtain ⟨h1, h2⟩ := lay_ints is
  simp only [PyData.canLay0, PyData.depth, h1]
  exact ⟨trivial, by omega⟩
theorem lay_eR {rs : List Trm} (h : okR rs) : (eR rs).canLay0 = true ∧ (eR rs).depth ≤ 14 := by
  have h1 := canLay_encs rs
  have h2 : PyData.depthAll (rs.map enc) ≤ 12 := depthAll_le fun d hd => by
    obtain ⟨t, ht, rfl⟩ := List.mem_map.mp hd
    have := (lay_enc t).2
    have := (h.2.2 t ht).1.2.1
    omega
  simp only [PyData.canLay0, PyData.depth, h1]
  exact ⟨trivial, by omega⟩
theorem lay_out (rs : List Trm) (os ps : List Int) : (outD rs os ps).canLay0 = true ∧ (outD rs os ps).depth ≤ 4 := by
  unfold outD
  split
  · simp only [PyData.canLay0, PyData.depth]
    exact ⟨by decide +kernel, by decide⟩
  · rename_i f n _
    obtain ⟨h1, h2⟩ := lay_iL (itr rs os ps n)
    simp only [PyData.canLayAll0, PyData.depthAll, h1, PyData.canLay0, PyData.depth]
    simp only [PyData.canLay0, PyData.depth] at h1 h2
    exact ⟨by simp [h1], by omega⟩
theorem lay_three {rs : List Trm} (h : okR rs) (os ps : List Int) : (PyData.list [eR rs, iL os, iL ps]).canLay0 = true ∧ (PyData.list [eR rs, iL os, iL ps]).depth ≤ 20 := by
  obtain ⟨h1, h2⟩ := lay_eR h
  obtain ⟨h3, h4⟩ := lay_iL os
  obtain ⟨h5, h6⟩ := lay_iL ps
  have e1 : (PyData.list [eR rs, iL os, iL ps]).canLay0 = PyData.canLayAll0 [eR rs, iL os, iL ps] := by simp only [PyData.canLay0]
  have e2 : (PyData.list [eR rs, iL os, iL ps]).depth = PyData.depthAll [eR rs, iL os, iL ps] + 1 := by simp only [PyData.depth]
  have h7 : PyData.depthAll [eR rs, iL os, iL ps] ≤ 14 := depthAll_le fun d hd => by
    simp only [List.mem_cons, List.not_mem_nil, or_false] at hd
    rcases hd with rfl | rfl | rfl <;> omega
  refine ⟨?_, by omega⟩
  rw [e1]
  show ((eR rs).canLay0 && ((iL os).canLay0 && ((iL ps).canLay0 && true))) = true
  rw [h1, h3, h5] <;> rfl
section
variable {M : List Addr} {σ : L2.St} {H : Hp} {ta : TA} {tb te : TE}
theorem dl_intsE {is : List Int} (h : Evl.EvL te σ H (is.map V.int)) : DL K M te σ H (is.map PyData.int) := fun H1 x Q q => h H1 x _ fun p H2 n e hp => q p _ H2 n e hp (dp_ints _)
theorem flat_rep (i : Int) : ∀ k : Nat, (List.replicate k [V.int i]).flatten = (List.replicate k i).map V.int
  | 0 => rfl
  | k + 1 => by
    rw [List.replicate_succ, List.flatten_cons, flat_rep i k, List.replicate_succ]
    rfl
theorem dl_rep {i : Int} {k : Nat} {tc : TE} (ha : Evl.EvL te σ H [.int i]) (hb : Evl.Ev tc σ H (.int (k : Int))) (hk : k ≤ 1000) : DL K M (tOp rRep te tc) σ H ((List.replicate k i).map PyData.int) :=
  dl_intsE fun H1 e Q q => ha H1 e _ fun p H2 n2 e2 hp => hb H2 (e.trans e2) _ fun H3 e3 => ⟨p, (k : Int), [.int i], rfl, rfl, e3 _ _ hp, by omega, by omega, Evl.sz_of (by simp; omega), fun z hz => by
    rw [Int.toNat_natCast, flat_rep]
    exact q z _ (Evl.fresh_back (e2.trans e3) hz) ((e2.trans e3).trans (Evl.Ex.new hz)) upd_same⟩
theorem row_ne {rs : List Trm} {os ps : List Int} {c : PyData} (hM : Dom M H) (hd : DA K M ta σ H [eR rs, iL os, iL ps]) (due : RDue [eR rs, iL os, iL ps] (outD rs os ps)) (hc : outD rs os ps = c) (hb : DE K M tb σ H c) : Evl.EvT (tTest (tOp (rNeM K) (tCall (spR K RDue) [] E0 ta) tb)) σ H false := by
  subst hc
  have l := lay_out rs os ps
  refine Evl.et_is (Evl.et_test (ev_neM (de_callR (E := E0) hM hd due) hb l.1 l.1 (by omega))) ?_
  rw [eqv_same _ l.1] <;> rfl
theorem row_eq {rs : List Trm} {os ps : List Int} {c : PyData} (hM : Dom M H) (hd : DA K M ta σ H [eR rs, iL os, iL ps]) (due : RDue [eR rs, iL os, iL ps] (outD rs os ps)) (hc : outD rs os ps = c) (hb : DE K M tb σ H c) : Evl.Ev (tOp (rEqM K) (tCall (spR K RDue) [] E0 ta) tb) σ H (.bl true) := by
  subst hc
  have l := lay_out rs os ps
  refine Evl.ev_is (ev_eqM (de_callR (E := E0) hM hd due) hb l.1 l.1 (by omega)) ?_
  rw [eqv_same _ l.1]
theorem q_parD {ds es : List PyData} {tz : TS} {D : Ends} {i j : Nat} (hM : Dom M H) (h1 : DL K M te σ H ds) (h2 : ∀ H1, Evl.Ex H H1 → DL K M tb σ H1 es)
    (k : ∀ v u H1, Evl.Ex H H1 → Dm K M H1 v (.list ds) → Dm K M H1 u (.list es) → tz D ((σ.set i (some v)).set j (some u)) H1) : tSeq (tPar i j (tCons te (tCons tb tNil))) tz D σ H :=
  (de_dl hM h1) H (Evl.Ex.refl _) _ fun v H1 e1 hv => (de_dl (hM.ex e1) (h2 H1 e1)) H1 (Evl.Ex.refl _) _ fun u H2 e2 hu => ⟨_, _, rfl, k v u H2 (e1.trans e2) (dm_ex e2 hv) hu⟩
end
theorem dueK {t : Trm} (h : okR [t]) (k : Nat) (h1 : 1 ≤ k) (h2 : k ≤ 1000) (p : Int) : RDue [eR [t], iL (List.replicate k 0), iL [p]] (outD [t] (List.replicate k 0) [p]) :=
  ⟨[t], [p], List.replicate k 0, rfl, h, rfl, by rw [List.length_replicate]; exact h1, by rw [List.length_replicate]; exact h2, fun o ho => by rw [List.eq_of_mem_replicate ho]; exact ⟨Int.le_refl 0, (show (0 : Int) < ((1 : Nat) : Int) by decide)⟩, rfl⟩
def spLaw (K : PySem.W.Frag) : Sp := fun vs H Q _ => ∃ (a : Addr) (ns : List Int), vs = [.ref a] ∧ SqL K H a (ns.map V.int) ∧ ns.length ≤ 63 ∧ ∀ H', Q (.bl true) H'
theorem ok_law (T : Top K mg) (hk : PySem.W.exmOne K (.ref T.TooMany.C) (.ref T.TooMany.C) = some true) : FnOk P w K mg base CX0 16 T.law.f T.law.fd ["script"] (spLaw K) := by
  refine T.law.F.ok sc_law (fun vs H Q E h => ?_) (fun cdv A outer s H vs Q E hr h => ?_)
  · obtain ⟨_, _, rfl, _⟩ := h
    rfl
  obtain ⟨a, ns, rfl, hx, h63, q⟩ := h
  refine ⟨_, (pss_cons (ps_set (i := 1) sc_law.nd rfl (Or.inr rfl) (pe_call (ok__law_source T) (hr.mono (by omega)) (by rfl) T._law_source.g T._law_source.F.kp T._law_source.b .nil pass0 (pa_cons (pv 0) pa_nil)))
      (pss_cons (ps_for PassesOwn.never rfl (pi_range1 (by rfl) T.n_range (pa_cons pe_int pa_nil)) (pg_name (i := 2) sc_law.nd rfl (Or.inl rfl)) (pss_cons (ps_set (i := 3) sc_law.nd rfl (Or.inr rfl) (pe_ix ix_list (pe_lst (pa_cons pe_int (pa_cons (pe_op op_powW pe_int pe_int) pa_nil))) (pe_op op_mod (pv 2) pe_int) (fun _ _ => rfl)))
      (pss_cons (ps_set (i := 4) sc_law.nd rfl (Or.inr rfl) (pe_lc (own := [("k", 13)]) (g := gName 13) (tt := tYes) rfl sc_law.nd (pi_range1 (by rfl) T.n_range (pa_cons pe_int pa_nil)) (blkOk_by (N := N_law) (sc := defScope s_law) (by decide +kernel)) (fun _ _ _ _ _ => (pg_name (i := 13) sc_law.nd rfl (Or.inl rfl))) (fun _ _ _ _ _ => pts_nil) (fun _ _ _ _ _ => (pe_call (ok__law_bounded T) (hr.mono (by omega)) (by rfl) T._law_bounded.g T._law_bounded.F.kp T._law_bounded.b .nil pass0 (pa_cons (pv 1) (pa_cons pe_int (pa_cons (pv 3) pa_nil)))))))
      (pss_cons (ps_if (pt_cmpR op_eq (pe_op op_mod (pv 2) pe_int) pe_int (nomark _)) (pss_one (ps_set (i := 4) sc_law.nd rfl (Or.inr rfl) (pe_call (ok__law_rules T) (hr.mono (by omega)) (by rfl) T._law_rules.g T._law_rules.F.kp T._law_rules.b .nil pass0 (pa_cons (pv 1) (pa_cons (pv 3) pa_nil))))) pss_nil)
      (pss_cons (ps_setLc (i := 5) (own := [("rule", 14)]) (g := gName 14) (tt := tYes) rfl sc_law.nd rfl rfl (by rfl) (pi_list (pv 4)) (blkOk_by (N := N_law) (sc := defScope s_law) (by decide +kernel)) (fun _ _ _ _ _ => (pg_name (i := 14) sc_law.nd rfl (Or.inl rfl))) (fun _ _ _ _ _ => pts_nil) (fun _ _ _ _ _ => (pe_op op_sub (pe_call (ok__law_draw T) (hr.mono (by omega)) (by rfl) T._law_draw.g T._law_draw.F.kp T._law_draw.b .nil pass0 (pa_cons (pv 1) (pa_cons pe_int pa_nil))) pe_int)))
      (pss_cons (ps_setLc (i := 6) (own := [("k", 13)]) (g := gName 13) (tt := tYes) rfl sc_law.nd rfl rfl (by rfl) (pi_range1 (by rfl) T.n_range (pa_cons (pe_op op_add pe_int (pe_call (ok__law_draw T) (hr.mono (by omega)) (by rfl) T._law_draw.g T._law_draw.F.kp T._law_draw.b .nil pass0 (pa_cons (pv 1) (pa_cons pe_int pa_nil)))) pa_nil)) (blkOk_by (N := N_law) (sc := defScope s_law) (by decide +kernel)) (fun _ _ _ _ _ => (pg_name (i := 13) sc_law.nd rfl (Or.inl rfl))) (fun _ _ _ _ _ => pts_nil) (fun _ _ _ _ _ => (pe_call (ok__law_draw T) (hr.mono (by omega)) (by rfl) T._law_draw.g T._law_draw.F.kp T._law_draw.b .nil pass0 (pa_cons (pv 1) (pa_cons (pe_callB (r := Evl.rLenS K) call_len_seq (by rfl) T.n_len PySem.boot_len (pa_cons (pv 4) pa_nil)) pa_nil)))))
      (pss_cons (ps_set (i := 7) sc_law.nd rfl (Or.inl rfl) (pe_lst (pa_cons (pe_callTy call_list_of (by rfl) T.n_list (by decide +kernel) (pa_cons (pv 4) pa_nil)) (pa_cons (pe_callTy call_list_of (by rfl) T.n_list (by decide +kernel) (pa_cons (pv 6) pa_nil)) (pa_cons (pe_callTy call_list_of (by rfl) T.n_list (by decide +kernel) (pa_cons (pv 5) pa_nil)) pa_nil)))))
      (pss_one (ps_if (PW.pt (pw_or (pt_cmpR (op_neM (hu64 hr)) (pe_call (ok__law_told T hk) (hr.mono (by omega)) (by rfl) T._law_told.g T._law_told.F.kp T._law_told.b .nil pass0 (pa_cons (pv 4) (pa_cons (pv 6) (pa_cons (pv 5) pa_nil)))) (pe_call (ok__law_due T) (hr.mono (by omega)) (by rfl) T._law_due.g T._law_due.F.kp T._law_due.b .nil pass0 (pa_cons (pv 4) (pa_cons (pv 6) (pa_cons (pv 5) pa_nil)))) (nomark _)) (pw_or1 (pt_cmpR (op_neM (hu64 hr)) (pe_lst (pa_cons (pv 4) (pa_cons (pv 6) (pa_cons (pv 5) pa_nil)))) (pv 7) (nomark _))))) (pss_one (ps_ret pe_bl)) pss_nil)))))))))
      (pss_cons (ps_set (i := 8) sc_law.nd rfl (Or.inl rfl) (pe_lst (pa_cons (pe_tup (pa_cons pe_str (pa_cons (pe_tup (pa_cons (pe_tup (pa_cons pe_str (pa_cons pe_int (pa_cons pe_int pa_nil)))) (pa_cons (pe_tup (pa_cons pe_str (pa_cons pe_int pa_nil))) pa_nil))) pa_nil))) pa_nil)))
      (pss_cons (ps_if (PW.pt (pw_or (pt_cmpR (op_neM (hu64 hr)) (pe_call (ok__law_told T hk) (hr.mono (by omega)) (by rfl) T._law_told.g T._law_told.F.kp T._law_told.b .nil pass0 (pa_cons (pv 8) (pa_cons (pe_lst (pa_cons pe_int pa_nil)) (pa_cons (pe_lst (pa_cons pe_int pa_nil)) pa_nil)))) (pe_tup (pa_cons pe_int (pa_cons pe_int (pa_cons (pe_lst (pa_cons pe_int pa_nil)) pa_nil)))) (nomark _)) (pw_or1 (pt_cmpR (op_neM (hu64 hr)) (pe_call (ok__law_told T hk) (hr.mono (by omega)) (by rfl) T._law_told.g T._law_told.F.kp T._law_told.b .nil pass0 (pa_cons (pv 8) (pa_cons (pe_lst (pa_cons pe_int pa_nil)) (pa_cons (pe_lst (pa_cons (pe_un un_neg pe_int) pa_nil)) pa_nil)))) pe_str (nomark _))))) (pss_one (ps_ret pe_bl)) pss_nil)
      (pss_cons (ps_set (i := 9) sc_law.nd rfl (Or.inl rfl) (pe_lst (pa_cons (pe_tup (pa_cons pe_str (pa_cons (pe_tup (pa_cons (pe_tup (pa_cons pe_str (pa_cons pe_int (pa_cons pe_int pa_nil)))) (pa_cons (pe_tup (pa_cons pe_str (pa_cons pe_int pa_nil))) pa_nil))) pa_nil))) pa_nil)))
      (pss_cons (ps_if (PW.pt (pw_or (pt_cmpR (op_neM (hu64 hr)) (pe_call (ok__law_told T hk) (hr.mono (by omega)) (by rfl) T._law_told.g T._law_told.F.kp T._law_told.b .nil pass0 (pa_cons (pv 9) (pa_cons (pe_lst (pa_cons pe_int (pa_cons pe_int pa_nil))) (pa_cons (pe_lst (pa_cons pe_int pa_nil)) pa_nil)))) (pe_tup (pa_cons pe_int (pa_cons pe_int (pa_cons (pe_lst (pa_cons pe_int pa_nil)) pa_nil)))) (nomark _)) (pw_or1 (pt_cmpR (op_neM (hu64 hr)) (pe_call (ok__law_told T hk) (hr.mono (by omega)) (by rfl) T._law_told.g T._law_told.F.kp T._law_told.b .nil pass0 (pa_cons (pv 9) (pa_cons (pe_lst (pa_cons pe_int (pa_cons pe_int pa_nil))) (pa_cons (pe_lst (pa_cons (pe_un un_neg pe_int) pa_nil)) pa_nil)))) pe_str (nomark _))))) (pss_one (ps_ret pe_bl)) pss_nil)
      (pss_cons (ps_par (i := 10) (j := 11) (by rfl) sc_law.nd rfl rfl (by decide) rfl rfl (pa_cons (pe_lst (pa_cons (pe_tup (pa_cons pe_str (pa_cons pe_int (pa_cons pe_int pa_nil)))) pa_nil)) (pa_cons (pe_lst (pa_cons (pe_tup (pa_cons pe_str (pa_cons pe_int pa_nil))) pa_nil)) pa_nil)) (by rfl))
      (pss_cons (ps_if (PW.pt (pw_or (pt_cmpR (op_neM (hu64 hr)) (pe_call (ok__law_told T hk) (hr.mono (by omega)) (by rfl) T._law_told.g T._law_told.F.kp T._law_told.b .nil pass0 (pa_cons (pv 10) (pa_cons (pe_op op_rep (pe_lst (pa_cons pe_int pa_nil)) pe_int) (pa_cons (pe_lst (pa_cons pe_int pa_nil)) pa_nil)))) (pe_tup (pa_cons pe_int (pa_cons pe_int (pa_cons (pe_lst (pa_cons pe_int pa_nil)) pa_nil)))) (nomark _)) (pw_or1 (pt_cmpR (op_neM (hu64 hr)) (pe_call (ok__law_told T hk) (hr.mono (by omega)) (by rfl) T._law_told.g T._law_told.F.kp T._law_told.b .nil pass0 (pa_cons (pv 11) (pa_cons (pe_op op_rep (pe_lst (pa_cons pe_int pa_nil)) pe_int) (pa_cons (pe_lst (pa_cons pe_int pa_nil)) pa_nil)))) pe_str (nomark _))))) (pss_one (ps_ret pe_bl)) pss_nil)
      (pss_cons (ps_if (PW.pt (pw_or (pt_cmpR (op_neM (hu64 hr)) (pe_call (ok__law_told T hk) (hr.mono (by omega)) (by rfl) T._law_told.g T._law_told.F.kp T._law_told.b .nil pass0 (pa_cons (pv 11) (pa_cons (pe_op op_rep (pe_lst (pa_cons pe_int pa_nil)) pe_int) (pa_cons (pe_lst (pa_cons pe_int pa_nil)) pa_nil)))) (pe_tup (pa_cons pe_int (pa_cons pe_int (pa_cons (pe_lst (pa_cons pe_int pa_nil)) pa_nil)))) (nomark _)) (pw_or1 (pt_cmpR (op_neM (hu64 hr)) (pe_call (ok__law_told T hk) (hr.mono (by omega)) (by rfl) T._law_told.g T._law_told.F.kp T._law_told.b .nil pass0 (pa_cons (pv 11) (pa_cons (pe_op op_rep (pe_lst (pa_cons pe_int pa_nil)) pe_int) (pa_cons (pe_lst (pa_cons pe_int pa_nil)) pa_nil)))) pe_str (nomark _))))) (pss_one (ps_ret pe_bl)) pss_nil)
      (pss_cons (ps_set (i := 12) sc_law.nd rfl (Or.inl rfl) (pe_lst (pa_cons (pe_tup (pa_cons pe_str (pa_cons pe_int (pa_cons pe_int pa_nil)))) (pa_cons (pe_tup (pa_cons pe_str (pa_cons pe_int (pa_cons pe_int pa_nil)))) (pa_cons (pe_tup (pa_cons pe_str (pa_cons pe_int (pa_cons pe_int pa_nil)))) pa_nil)))))
      (pss_one (ps_ret (pe_and (pe_cmpR (op_eqM (hu64 hr)) (pe_call (ok__law_told T hk) (hr.mono (by omega)) (by rfl) T._law_told.g T._law_told.F.kp T._law_told.b .nil pass0 (pa_cons (pv 12) (pa_cons (pe_lst (pa_cons pe_int (pa_cons pe_int (pa_cons pe_int pa_nil)))) (pa_cons (pe_lst (pa_cons pe_int (pa_cons pe_int (pa_cons pe_int pa_nil)))) pa_nil)))) (pe_tup (pa_cons pe_int (pa_cons pe_int (pa_cons (pe_lst (pa_cons pe_int (pa_cons pe_int (pa_cons pe_int pa_nil)))) pa_nil)))) (nomark _)) (pe_one (pe_cmpR (op_eqM (hu64 hr)) (pe_call (ok__law_told T hk) (hr.mono (by omega)) (by rfl) T._law_told.g T._law_told.F.kp T._law_told.b .nil pass0 (pa_cons (pv 8) (pa_cons (pe_lst (pa_cons pe_int pa_nil)) (pa_cons (pe_lst (pa_cons pe_int pa_nil)) pa_nil)))) (pe_tup (pa_cons pe_int (pa_cons pe_int (pa_cons (pe_lst (pa_cons pe_int pa_nil)) pa_nil)))) (nomark _)))))))))))))))), ?_⟩
  refine ⟨_, rfl, a, ns, rfl, hx, h63, fun s c H1 e1 hs hc S => ?_⟩
  dsimp only [L2.gName]
  refine ⟨_, rfl, by decide, by decide, for_range (lo := 0) (n := 24) (fun i σ H' => ∃ x2 x3 x4 x5 x6 x7, σ = [some (.ref a), some (.ref s), x2, x3, x4, x5, x6, x7, none, none, none, none, none, none, none] ∧ Src H' s c (i * 3000)) ⟨none, none, none, none, none, none, rfl, S.mono (by omega)⟩ (fun i σ H' hi hP => ?_) (fun σ H' hP => ?_)⟩
  · obtain ⟨x2, x3, x4, x5, x6, x7, rfl, S'⟩ := hP
    dsimp only [L2.gName]
    rw [show (0 : Int) + (i : Int) = (i : Int) by omega]
    -- most
    refine Evl.q_asg (v := .int (if i % 2 = 0 then 6 else 10 ^ 29)) (ev_ixNewL (xs := [.int 6, .int (10 ^ 29)]) (Evl.el_lst (Evl.ea_cons Evl.ev_c (Evl.ea_cons (Evl.ev_is (Evl.ev_op Evl.ev_c Evl.ev_c (Evl.rv_I ⟨by decide, by decide +kernel⟩)) (by decide +kernel)) Evl.ea_nil)) (by simp)) (i := ((i % 2 : Nat) : Int)) (Evl.ev_is (Evl.ev_op (Evl.ev_var rfl) Evl.ev_c (Evl.rv_I (show (0 : Int) < 2 by decide))) (congrArg V.int (by omega))) ?_) fun H2 e2 => ?_
    · rcases (show i % 2 = 0 ∨ i % 2 = 1 by omega) with z | z <;> rw [z] <;> rfl
    generalize hmo : (if i % 2 = 0 then (6 : Int) else 10 ^ 29) = mo
    have mo1 : 1 ≤ mo ∧ mo ≤ 10 ^ 29 := by
      subst hmo
      split <;> decide +kernel
    have S2 := S'.ex1 e2
    have sM : s ∈ [s, c] := by simp
    have cM : c ∈ [s, c] := by simp
    -- rules
    refine q_te (lc_gen (K := K) (M := [s, c]) (m := 3) (B := 100) (G := Gen 3 (10 ^ 30) 4) (domS S2) S2 sM cM (by decide) (Evl.ea_cons Evl.ev_c Evl.ea_nil) (fun _ => rfl) (fun k x H3 D hk hD hdom S3 Q q => ?_) (fun p vs ts H3 hl hp e3 S3 hp3 hv hG => ?_))
    · exact ⟨_, rfl, _, rfl, s, c, _, D :: [s, c], 3, mo, rfl, S3, by simp, by simp, hdom, by omega, by decide, by decide, mo1.1, mo1.2, fun v t H5 e5 S5 d5 g5 => q v t H5 e5 S5 d5 g5⟩
    have hR3 := okR_gen hl ⟨by decide, by decide, rfl⟩ hG
    refine LS.q_word (fun σ' H' => ∃ (p : Addr) (vs : List V) (rs : List Trm), σ' = [some (.ref a), some (.ref s), some (.int (i : Int)), some (.int mo), some (.ref p), x5, x6, x7, none, none, none, none, none, none, none] ∧ Src H' s c (i * 3000 + 2500) ∧ p ∉ [s, c] ∧ H' p = some (.lst vs) ∧ Dms K (p :: [s, c]) H' vs (rs.map enc) ∧ okR rs) (fun N hN => ?_) (fun σ' H' hW => ?_)
    · refine ⟨_, rfl, _, _, rfl, rfl, (show (0 : Int) < 8 by decide), rfl, _, rfl, ite2 (fun _ => ?_) (fun _ => ?_)⟩
      · exact ⟨_, rfl, _, rfl, s, c, _, [s, c], mo, rfl, S3, sM, cM, domS S3, by omega, mo1.1, mo1.2, fun p2 vs2 rs2 H5 n5 e5 S5 hp5 d5 hR5 _ => hN _ _ ⟨p2, vs2, rs2, rfl, S5.mono (by omega), (domS S3).nin n5, hp5, d5, hR5⟩⟩
      · exact hN _ _ ⟨p, vs, ts, rfl, S3.mono (by omega), (domS S2).nin hp, hp3, hv, hR3⟩
    obtain ⟨p, vs, rs, rfl, SW, np, hpW, dW, hR⟩ := hW
    have hvl : vs.length = rs.length := by rw [dpa_len dW, List.length_map]
    have h6 := hR.2.1
    -- prices
    refine q_te (lc_nums (K := K) (C := fun _ => True) SW (by rfl) hpW np (by omega) (fun _ => rfl) (fun k x H5 hk S5 ha5 Q q => ?_) (fun p5 ps H5 hpl n5 e5 S5 h5 _ => ?_))
    · exact ⟨_, rfl, s, c, _, 30, rfl, S5, by omega, by decide, by decide, fun d H6 d0 d1 e6 S6 => ⟨_, _, rfl, rfl, q _ H6 e6 S6 True.intro⟩⟩
    have hp5 := e5 p _ np hpW
    have np5 : p5 ∉ [s, c] := (domS SW).nin n5
    -- order
    refine q_te (lc_numr (n := i * 3000 + 2500 + vs.length) (C := fun o => 0 ≤ o ∧ o < (rs.length : Int)) hp5 np (fun R hR' => ?_) (fun _ => rfl) (fun k x H6 hk S6 ha6 Q q => ?_) (fun p6 os H6 ol o5 n6 e6 S6 h6' ho => ?_))
    · exact ⟨_, rfl, s, c, _, 5, rfl, S5, by omega, by decide, by decide, fun d H6 d0 d1 e6 S6 => ⟨_, _, rfl, rfl, hR' d H6 d0 d1 e6 S6⟩⟩
    · exact ⟨_, rfl, _, rfl, p, vs, rfl, .inl (Evl.sq_of ha6), s, c, _, _, rfl, S6, by omega, by have := hR.1; omega, by omega, fun d H7 d0 d1 e7 S7 => q d H7 e7 S7 ⟨d0, by omega⟩⟩
    have hp6 := e6 p _ np hp5
    have h56 := e6 p5 _ np5 h5
    have np6 : p6 ∉ [s, c] := (domS S5).nin n6
    have hM := domS S6
    have dR : Dm K [s, c] H6 (.ref p) (eR rs) := .lst (Evl.sq_of (mi_of np hp6)) (dms_exM e6 (dms_exM e5 (dms_less dW)))
    have dP : Dm K [s, c] H6 (.ref p5) (iL ps) := .lst (Evl.sq_of (mi_of np5 h56)) (dp_ints _)
    have dO : Dm K [s, c] H6 (.ref p6) (iL os) := .lst (Evl.sq_of (mi_of np6 h6')) (dp_ints _)
    -- kept
    refine q_asgD (de_dl hM (dl_lst (da_dl (dl_copy (de_v dR (by rfl))) hM (da_dl (dl_copy (de_v dO (by rfl))) hM (da_dl (dl_copy (de_v dP (by rfl))) hM da_nil))) (by simp))) fun v7 H7 e7 h7 => ?_
    have hM7 := hM.ex e7
    have due : RDue [eR rs, iL os, iL ps] (outD rs os ps) := ⟨rs, ps, os, rfl, hR, by omega, ol, by omega, ho, rfl⟩
    have args := fun (σ : L2.St) (z4 : σ[4]? = some (some (.ref p))) (z5 : σ[5]? = some (some (.ref p5))) (z6 : σ[6]? = some (some (.ref p6))) => (da_cons (de_v (dm_ex e7 dR) z4) (da_cons (de_v (dm_ex e7 dO) z6) (da_cons (de_v (dm_ex e7 dP) z5) da_nil)) : DA K [s, c] _ σ H7 [eR rs, iL os, iL ps])
    have l1 := lay_out rs os ps
    have l2 := lay_three hR os ps
    refine Evl.s_when (b := false) (Evl.et_is (Evl.et_or (Evl.et_test (ev_neM (de_callR (E := E0) hM7 (args _ rfl rfl rfl) due) (de_callR (E := E0) hM7 (args _ rfl rfl rfl) due) l1.1 l1.1 (by omega)))
      (fun _ => Evl.et_test (ev_neM (de_dl hM7 (dl_lst (args _ rfl rfl rfl) (by simp))) (de_v h7 (by rfl)) l2.1 l2.1 (by omega)))) ?_) (fun hb => nomatch hb) fun _ H8 e8 => ?_
    · rw [eqv_same _ l1.1, eqv_same _ l2.1] <;> rfl
    · exact ⟨_, _, _, _, _, _, rfl, (S6.ex1 (e7.trans e8)).mono (by omega)⟩
  · obtain ⟨x2, x3, x4, x5, x6, x7, rfl, _⟩ := hP
    have hM : ∀ H : Hp, Dom [] H := fun H m hm => nomatch hm
    have i1 : ∀ {σ : L2.St} {H : Hp} (i : Int), DA K [] (tCons (tC (.int i)) tNil) σ H [.int i] := fun i => da_cons (de_sc Evl.ev_c rfl) da_nil
    have lp : ∀ {σ : L2.St} {H : Hp} (i : Int), DL K [] (tLst (tCons (tC (.int i)) tNil)) σ H [.int i] := fun i => dl_lst (i1 i) (by simp)
    have ln : ∀ {σ : L2.St} {H : Hp}, DL K [] (tLst (tCons (tUn (rU fun i => V.int (-i)) (tC (.int 1))) tNil)) σ H [.int (-1)] := dl_lst (da_cons (de_sc (Evl.ev_un Evl.ev_c Evl.ru_neg) rfl) da_nil) (by simp)
    have l00 : ∀ {σ : L2.St} {H : Hp}, DL K [] (tLst (tCons (tC (.int 0)) (tCons (tC (.int 0)) tNil))) σ H [.int 0, .int 0] := dl_lst (da_cons (de_sc Evl.ev_c rfl) (i1 0)) (by simp)
    have cut3 : ∀ {σ : L2.St} {H : Hp} (f n i : Int), DE K [] (tTup (tCons (tC (.int f)) (tCons (tC (.int n)) (tCons (tLst (tCons (tC (.int i)) tNil)) tNil)))) σ H (.tuple [.int f, .int n, iL [i]]) := fun f n i => de_tup (hM _) (da_cons (de_sc Evl.ev_c rfl) (da_cons (de_sc Evl.ev_c rfl) (da_dl (lp i) (hM _) da_nil))) (by simp)
    have many : ∀ {σ : L2.St} {H : Hp}, DE K [] (tC (.str "many")) σ H (.str "many") := de_sc Evl.ev_c rfl
    have price : ∀ {σ : L2.St} {H : Hp} (s : Nat) (n : Int), DE K [] (tTup (tCons (tC (.str "price")) (tCons (tC (.int (s : Int))) (tCons (tC (.int n)) tNil)))) σ H (enc (.price s n)) := fun s n => de_tup (hM _) (da_cons (de_sc Evl.ev_c rfl) (da_cons (de_sc Evl.ev_c rfl) (da_cons (de_sc Evl.ev_c rfl) da_nil))) (by simp)
    have plain : ∀ {σ : L2.St} {H : Hp} (n : Int), DE K [] (tTup (tCons (tC (.str "plain")) (tCons (tC (.int n)) tNil))) σ H (enc (.plain n)) := fun n => de_tup (hM _) (da_cons (de_sc Evl.ev_c rfl) (da_cons (de_sc Evl.ev_c rfl) da_nil)) (by simp)
    have upD : ∀ {σ : L2.St} {H : Hp} (m : Int), DL K [] (tLst (tCons (tTup (tCons (tC (.str "least")) (tCons (tTup (tCons (tTup (tCons (tC (.str "price")) (tCons (tC (.int 0)) (tCons (tC (.int 1)) tNil)))) (tCons (tTup (tCons (tC (.str "plain")) (tCons (tC (.int m)) tNil))) tNil))) tNil))) tNil)) σ H ([up m].map enc) :=
      fun m => dl_lst (da_cons (de_tup (hM _) (da_cons (de_sc Evl.ev_c (d := .str "least") rfl) (da_cons (de_tup (hM _) (da_cons (price 0 1) (da_cons (plain m) da_nil)) (show 2 ≤ 1000 by decide)) da_nil)) (show 2 ≤ 1000 by decide)) da_nil) (show 1 ≤ 1000 by decide)
    have u1 : okR [up 999] := ⟨by decide, by decide, fun t ht => by
      rw [List.mem_singleton] at ht
      subst ht
      exact ⟨by decide +kernel, by decide +kernel⟩⟩
    have u2 : okR [up 998] := ⟨by decide, by decide, fun t ht => by
      rw [List.mem_singleton] at ht
      subst ht
      exact ⟨by decide +kernel, by decide +kernel⟩⟩
    have dueU : ∀ {m : Int}, okR [up m] → ∀ (os : List Int) (p : Int), 1 ≤ os.length → os.length ≤ 1000 → (∀ o ∈ os, o = 0) → RDue [eR [up m], iL os, iL [p]] (outD [up m] os [p]) := fun h os p o1 o2 ho => ⟨_, _, _, rfl, h, rfl, o1, o2, fun o ho' => by rw [ho o ho']; exact ⟨Int.le_refl 0, (show (0 : Int) < ((1 : Nat) : Int) by decide)⟩, rfl⟩
    -- long
    refine q_asgD (K := K) (M := []) (de_dl (hM _) (upD 999)) fun v8 H2 e2 h8 => ?_
    refine Evl.q_when (b := false) (Evl.et_is (Evl.et_or (row_ne (rs := [up 999]) (os := [0]) (ps := [0]) (hM _) (da_cons (de_v h8 (by rfl)) (da_dl (lp 0) (hM _) (da_dl (lp 0) (hM _) da_nil))) (dueU u1 [0] 0 (by decide) (by decide) (by simp)) row1 (cut3 999 1 999)) (fun _ => row_ne (rs := [up 999]) (os := [0]) (ps := [-1]) (hM _) (da_cons (de_v h8 (by rfl)) (da_dl (lp 0) (hM _) (da_dl ln (hM _) da_nil))) (dueU u1 [0] (-1) (by decide) (by decide) (by simp)) row2 many)) rfl) (fun hb => nomatch hb) fun _ H3 e3 => ?_
    have h83 := dm_ex e3 h8
    -- twice
    refine q_asgD (K := K) (M := []) (de_dl (hM _) (upD 998)) fun v9 H4 e4 h9 => ?_
    refine Evl.q_when (b := false) (Evl.et_is (Evl.et_or (row_ne (rs := [up 998]) (os := [0, 0]) (ps := [0]) (hM _) (da_cons (de_v h9 (by rfl)) (da_dl l00 (hM _) (da_dl (lp 0) (hM _) da_nil))) (dueU u2 [0, 0] 0 (by decide) (by decide) (by simp)) row3 (cut3 499 1 998)) (fun _ => row_ne (rs := [up 998]) (os := [0, 0]) (ps := [-1]) (hM _) (da_cons (de_v h9 (by rfl)) (da_dl l00 (hM _) (da_dl ln (hM _) da_nil))) (dueU u2 [0, 0] (-1) (by decide) (by decide) (by simp)) row4 many)) rfl) (fun hb => nomatch hb) fun _ H5 e5 => ?_
    have h85 := dm_ex (e4.trans e5) h83
    have u3 : okR [.price 0 0] := ⟨by decide, by decide, fun t ht => by
      rw [List.mem_singleton] at ht
      subst ht
      exact ⟨by decide +kernel, by decide +kernel⟩⟩
    have u4 : okR [.plain 7] := ⟨by decide, by decide, fun t ht => by
      rw [List.mem_singleton] at ht
      subst ht
      exact ⟨by decide +kernel, by decide +kernel⟩⟩
    have u5 : okR [.price 1 0, .price 2 0, .price 0 0] := ⟨by decide, by decide, fun t ht => by
      simp only [List.mem_cons, List.not_mem_nil, or_false] at ht
      rcases ht with rfl | rfl | rfl <;> exact ⟨by decide +kernel, by decide +kernel⟩⟩
    have reps : ∀ {σ : L2.St} {H : Hp} (k : Nat), k ≤ 1000 → DL K [] (tOp rRep (tLst (tCons (tC (.int 0)) tNil)) (tC (.int (k : Int)))) σ H ((List.replicate k 0).map PyData.int) := fun k hk => dl_rep (Evl.el_lst (Evl.ea_cons Evl.ev_c Evl.ea_nil) (by simp)) Evl.ev_c hk
    -- still, seven
    refine q_parD (K := K) (M := []) (hM _) (dl_lst (da_cons (price 0 0) da_nil) (show 1 ≤ 1000 by decide)) (fun _ _ => dl_lst (da_cons (plain 7) da_nil) (show 1 ≤ 1000 by decide)) fun v10 v11 H6 e6 h10 h11 => ?_
    refine Evl.q_when (b := false) (Evl.et_is (Evl.et_or (row_ne (rs := [.price 0 0]) (os := List.replicate 1000 0) (ps := [5]) (hM _) (da_cons (de_v h10 (by rfl)) (da_dl (reps 1000 (by decide)) (hM _) (da_dl (lp 5) (hM _) da_nil))) (dueK u3 1000 (by decide) (by decide) 5) row5 (cut3 0 1 5))
      (fun _ => row_ne (rs := [.plain 7]) (os := List.replicate 1000 0) (ps := [5]) (hM _) (da_cons (de_v h11 (by rfl)) (da_dl (reps 1000 (by decide)) (hM _) (da_dl (lp 5) (hM _) da_nil))) (dueK u4 1000 (by decide) (by decide) 5) row6 many)) rfl) (fun hb => nomatch hb) fun _ H7 e7 => ?_
    have h117 := dm_ex e7 h11
    refine Evl.q_when (b := false) (Evl.et_is (Evl.et_or (row_ne (rs := [.plain 7]) (os := List.replicate 500 0) (ps := [5]) (hM _) (da_cons (de_v h117 (by rfl)) (da_dl (reps 500 (by decide)) (hM _) (da_dl (lp 5) (hM _) da_nil))) (dueK u4 500 (by decide) (by decide) 5) row7 (cut3 1 1 7))
      (fun _ => row_ne (rs := [.plain 7]) (os := List.replicate 501 0) (ps := [5]) (hM _) (da_cons (de_v h117 (by rfl)) (da_dl (reps 501 (by decide)) (hM _) (da_dl (lp 5) (hM _) da_nil))) (dueK u4 501 (by decide) (by decide) 5) row8 many)) rfl) (fun hb => nomatch hb) fun _ H8 e8 => ?_
    have h88 := dm_ex ((e6.trans e7).trans e8) h85
    -- swap
    refine q_asgD (K := K) (M := []) (de_dl (hM _) (dl_lst (da_cons (price 1 0) (da_cons (price 2 0) (da_cons (price 0 0) da_nil))) (show 3 ≤ 1000 by decide))) fun v12 H9 e9 h12 => ?_
    have l3 : ∀ {σ : L2.St} {H : Hp} (x y z : Int), DL K [] (tLst (tCons (tC (.int x)) (tCons (tC (.int y)) (tCons (tC (.int z)) tNil)))) σ H [.int x, .int y, .int z] := fun x y z => dl_lst (da_cons (de_sc Evl.ev_c rfl) (da_cons (de_sc Evl.ev_c rfl) (i1 z))) (show 3 ≤ 1000 by decide)
    refine Evl.s_ret (Evl.ev_is (Evl.ev_andV (row_eq (M := []) (rs := [.price 1 0, .price 2 0, .price 0 0]) (os := [0, 1, 2]) (ps := [4, 7, 9]) (hM _) (da_cons (de_v h12 (by rfl)) (da_dl (l3 0 1 2) (hM _) (da_dl (l3 4 7 9) (hM _) da_nil))) ⟨_, _, _, rfl, u5, rfl, by decide, by decide, by decide, rfl⟩ row9 (de_tup (hM _) (da_cons (de_sc Evl.ev_c rfl) (da_cons (de_sc Evl.ev_c rfl) (da_dl (l3 7 9 7) (hM _) da_nil))) (show 3 ≤ 1000 by decide)))
      (fun _ => row_eq (M := []) (rs := [up 999]) (os := [0]) (ps := [1000]) (hM _) (da_cons (de_v (dm_ex e9 h88) (by rfl)) (da_dl (lp 0) (hM _) (da_dl (lp 1000) (hM _) da_nil))) (dueU u1 [0] 1000 (by decide) (by decide) (by simp)) row10 (cut3 1 1 999))) rfl) fun H10 _ => q H10
end
end K21

set_option Elab.async false
set_option linter.all false
set_option maxRecDepth 100000
set_option maxHeartbeats 8000000
namespace K21
open PySem PySem.Spec PyProof.Rows L2 DK DD TM XC2
theorem all_mk {l : PySem.W.OpenLaw} {w : World} {K : PySem.W.Frag} {h : Heap} {mg : Str → Option Value} {fa : Addr} (X : K.In h) (G : h.Ns mainGlobals mg) (hfa : mg "law" = some (.ref fa))
    {f_is_int : Addr} {od_is_int an_is_int : Option Addr} {sl_is_int : Array (Option Value)} {oc_is_int kV_is_int dc_is_int pm_is_int cd_is_int ct_is_int : Value}
    (a_is_int : PySem.W.nsIn K mainGlobals "is_int" = some (some (.ref f_is_int))) (l_is_int : K.lookup f_is_int = some ⟨oc_is_int, od_is_int, .func (PySem.W.fnOf "is_int" "is_int" (defArgs s_is_int) (defBody s_is_int) (defScope s_is_int) .none kV_is_int dc_is_int pm_is_int an_is_int cd_is_int ct_is_int), sl_is_int⟩) (c_is_int : PySem.W.codeIn K cd_is_int "is_int" = true) (k_is_int : PySem.W.keepIn K (.ref f_is_int) = true)
    {f_is_int_from : Addr} {od_is_int_from an_is_int_from : Option Addr} {sl_is_int_from : Array (Option Value)} {oc_is_int_from kV_is_int_from dc_is_int_from pm_is_int_from cd_is_int_from ct_is_int_from : Value}
    (a_is_int_from : PySem.W.nsIn K mainGlobals "is_int_from" = some (some (.ref f_is_int_from))) (l_is_int_from : K.lookup f_is_int_from = some ⟨oc_is_int_from, od_is_int_from, .func (PySem.W.fnOf "is_int_from" "is_int_from" (defArgs s_is_int_from) (defBody s_is_int_from) (defScope s_is_int_from) .none kV_is_int_from dc_is_int_from pm_is_int_from an_is_int_from cd_is_int_from ct_is_int_from), sl_is_int_from⟩) (c_is_int_from : PySem.W.codeIn K cd_is_int_from "is_int_from" = true) (k_is_int_from : PySem.W.keepIn K (.ref f_is_int_from) = true)
    {f_is_number : Addr} {od_is_number an_is_number : Option Addr} {sl_is_number : Array (Option Value)} {oc_is_number kV_is_number dc_is_number pm_is_number cd_is_number ct_is_number : Value}
    (a_is_number : PySem.W.nsIn K mainGlobals "is_number" = some (some (.ref f_is_number))) (l_is_number : K.lookup f_is_number = some ⟨oc_is_number, od_is_number, .func (PySem.W.fnOf "is_number" "is_number" (defArgs s_is_number) (defBody s_is_number) (defScope s_is_number) .none kV_is_number dc_is_number pm_is_number an_is_number cd_is_number ct_is_number), sl_is_number⟩) (c_is_number : PySem.W.codeIn K cd_is_number "is_number" = true) (k_is_number : PySem.W.keepIn K (.ref f_is_number) = true)
    {f_is_int_list : Addr} {od_is_int_list an_is_int_list : Option Addr} {sl_is_int_list : Array (Option Value)} {oc_is_int_list kV_is_int_list dc_is_int_list pm_is_int_list cd_is_int_list ct_is_int_list : Value}
    (a_is_int_list : PySem.W.nsIn K mainGlobals "is_int_list" = some (some (.ref f_is_int_list))) (l_is_int_list : K.lookup f_is_int_list = some ⟨oc_is_int_list, od_is_int_list, .func (PySem.W.fnOf "is_int_list" "is_int_list" (defArgs s_is_int_list) (defBody s_is_int_list) (defScope s_is_int_list) .none kV_is_int_list dc_is_int_list pm_is_int_list an_is_int_list cd_is_int_list ct_is_int_list), sl_is_int_list⟩) (c_is_int_list : PySem.W.codeIn K cd_is_int_list "is_int_list" = true) (k_is_int_list : PySem.W.keepIn K (.ref f_is_int_list) = true)
    {f_is_leaf : Addr} {od_is_leaf an_is_leaf : Option Addr} {sl_is_leaf : Array (Option Value)} {oc_is_leaf kV_is_leaf dc_is_leaf pm_is_leaf cd_is_leaf ct_is_leaf : Value}
    (a_is_leaf : PySem.W.nsIn K mainGlobals "is_leaf" = some (some (.ref f_is_leaf))) (l_is_leaf : K.lookup f_is_leaf = some ⟨oc_is_leaf, od_is_leaf, .func (PySem.W.fnOf "is_leaf" "is_leaf" (defArgs s_is_leaf) (defBody s_is_leaf) (defScope s_is_leaf) .none kV_is_leaf dc_is_leaf pm_is_leaf an_is_leaf cd_is_leaf ct_is_leaf), sl_is_leaf⟩) (c_is_leaf : PySem.W.codeIn K cd_is_leaf "is_leaf" = true) (k_is_leaf : PySem.W.keepIn K (.ref f_is_leaf) = true)
    {f_parts_of : Addr} {od_parts_of an_parts_of : Option Addr} {sl_parts_of : Array (Option Value)} {oc_parts_of kV_parts_of dc_parts_of pm_parts_of cd_parts_of ct_parts_of : Value}
    (a_parts_of : PySem.W.nsIn K mainGlobals "parts_of" = some (some (.ref f_parts_of))) (l_parts_of : K.lookup f_parts_of = some ⟨oc_parts_of, od_parts_of, .func (PySem.W.fnOf "parts_of" "parts_of" (defArgs s_parts_of) (defBody s_parts_of) (defScope s_parts_of) .none kV_parts_of dc_parts_of pm_parts_of an_parts_of cd_parts_of ct_parts_of), sl_parts_of⟩) (c_parts_of : PySem.W.codeIn K cd_parts_of "parts_of" = true) (k_parts_of : PySem.W.keepIn K (.ref f_parts_of) = true)
    {f_is_term : Addr} {od_is_term an_is_term : Option Addr} {sl_is_term : Array (Option Value)} {oc_is_term kV_is_term dc_is_term pm_is_term cd_is_term ct_is_term : Value}
    (a_is_term : PySem.W.nsIn K mainGlobals "is_term" = some (some (.ref f_is_term))) (l_is_term : K.lookup f_is_term = some ⟨oc_is_term, od_is_term, .func (PySem.W.fnOf "is_term" "is_term" (defArgs s_is_term) (defBody s_is_term) (defScope s_is_term) .none kV_is_term dc_is_term pm_is_term an_is_term cd_is_term ct_is_term), sl_is_term⟩) (c_is_term : PySem.W.codeIn K cd_is_term "is_term" = true) (k_is_term : PySem.W.keepIn K (.ref f_is_term) = true)
    {f_check_term : Addr} {od_check_term an_check_term : Option Addr} {sl_check_term : Array (Option Value)} {oc_check_term kV_check_term dc_check_term pm_check_term cd_check_term ct_check_term : Value}
    (a_check_term : PySem.W.nsIn K mainGlobals "check_term" = some (some (.ref f_check_term))) (l_check_term : K.lookup f_check_term = some ⟨oc_check_term, od_check_term, .func (PySem.W.fnOf "check_term" "check_term" (defArgs s_check_term) (defBody s_check_term) (defScope s_check_term) .none kV_check_term dc_check_term pm_check_term an_check_term cd_check_term ct_check_term), sl_check_term⟩) (c_check_term : PySem.W.codeIn K cd_check_term "check_term" = true) (k_check_term : PySem.W.keepIn K (.ref f_check_term) = true)
    {f_shops_in : Addr} {od_shops_in an_shops_in : Option Addr} {sl_shops_in : Array (Option Value)} {oc_shops_in kV_shops_in dc_shops_in pm_shops_in cd_shops_in ct_shops_in : Value}
    (a_shops_in : PySem.W.nsIn K mainGlobals "shops_in" = some (some (.ref f_shops_in))) (l_shops_in : K.lookup f_shops_in = some ⟨oc_shops_in, od_shops_in, .func (PySem.W.fnOf "shops_in" "shops_in" (defArgs s_shops_in) (defBody s_shops_in) (defScope s_shops_in) .none kV_shops_in dc_shops_in pm_shops_in an_shops_in cd_shops_in ct_shops_in), sl_shops_in⟩) (c_shops_in : PySem.W.codeIn K cd_shops_in "shops_in" = true) (k_shops_in : PySem.W.keepIn K (.ref f_shops_in) = true)
    {f_tell : Addr} {od_tell an_tell : Option Addr} {sl_tell : Array (Option Value)} {oc_tell kV_tell dc_tell pm_tell cd_tell ct_tell : Value}
    (a_tell : PySem.W.nsIn K mainGlobals "tell" = some (some (.ref f_tell))) (l_tell : K.lookup f_tell = some ⟨oc_tell, od_tell, .func (PySem.W.fnOf "tell" "tell" (defArgs s_tell) (defBody s_tell) (defScope s_tell) .none kV_tell dc_tell pm_tell an_tell cd_tell ct_tell), sl_tell⟩) (c_tell : PySem.W.codeIn K cd_tell "tell" = true) (k_tell : PySem.W.keepIn K (.ref f_tell) = true)
    {f__has_form : Addr} {od__has_form an__has_form : Option Addr} {sl__has_form : Array (Option Value)} {oc__has_form kV__has_form dc__has_form pm__has_form cd__has_form ct__has_form : Value}
    (a__has_form : PySem.W.nsIn K mainGlobals "_has_form" = some (some (.ref f__has_form))) (l__has_form : K.lookup f__has_form = some ⟨oc__has_form, od__has_form, .func (PySem.W.fnOf "_has_form" "_has_form" (defArgs s__has_form) (defBody s__has_form) (defScope s__has_form) .none kV__has_form dc__has_form pm__has_form an__has_form cd__has_form ct__has_form), sl__has_form⟩) (c__has_form : PySem.W.codeIn K cd__has_form "_has_form" = true) (k__has_form : PySem.W.keepIn K (.ref f__has_form) = true)
    {f__are_parts : Addr} {od__are_parts an__are_parts : Option Addr} {sl__are_parts : Array (Option Value)} {oc__are_parts kV__are_parts dc__are_parts pm__are_parts cd__are_parts ct__are_parts : Value}
    (a__are_parts : PySem.W.nsIn K mainGlobals "_are_parts" = some (some (.ref f__are_parts))) (l__are_parts : K.lookup f__are_parts = some ⟨oc__are_parts, od__are_parts, .func (PySem.W.fnOf "_are_parts" "_are_parts" (defArgs s__are_parts) (defBody s__are_parts) (defScope s__are_parts) .none kV__are_parts dc__are_parts pm__are_parts an__are_parts cd__are_parts ct__are_parts), sl__are_parts⟩) (c__are_parts : PySem.W.codeIn K cd__are_parts "_are_parts" = true) (k__are_parts : PySem.W.keepIn K (.ref f__are_parts) = true)
    {f__all_shops : Addr} {od__all_shops an__all_shops : Option Addr} {sl__all_shops : Array (Option Value)} {oc__all_shops kV__all_shops dc__all_shops pm__all_shops cd__all_shops ct__all_shops : Value}
    (a__all_shops : PySem.W.nsIn K mainGlobals "_all_shops" = some (some (.ref f__all_shops))) (l__all_shops : K.lookup f__all_shops = some ⟨oc__all_shops, od__all_shops, .func (PySem.W.fnOf "_all_shops" "_all_shops" (defArgs s__all_shops) (defBody s__all_shops) (defScope s__all_shops) .none kV__all_shops dc__all_shops pm__all_shops an__all_shops cd__all_shops ct__all_shops), sl__all_shops⟩) (c__all_shops : PySem.W.codeIn K cd__all_shops "_all_shops" = true) (k__all_shops : PySem.W.keepIn K (.ref f__all_shops) = true)
    {f_check_rules : Addr} {od_check_rules an_check_rules : Option Addr} {sl_check_rules : Array (Option Value)} {oc_check_rules kV_check_rules dc_check_rules pm_check_rules cd_check_rules ct_check_rules : Value}
    (a_check_rules : PySem.W.nsIn K mainGlobals "check_rules" = some (some (.ref f_check_rules))) (l_check_rules : K.lookup f_check_rules = some ⟨oc_check_rules, od_check_rules, .func (PySem.W.fnOf "check_rules" "check_rules" (defArgs s_check_rules) (defBody s_check_rules) (defScope s_check_rules) .none kV_check_rules dc_check_rules pm_check_rules an_check_rules cd_check_rules ct_check_rules), sl_check_rules⟩) (c_check_rules : PySem.W.codeIn K cd_check_rules "check_rules" = true) (k_check_rules : PySem.W.keepIn K (.ref f_check_rules) = true)
    {f_check_market : Addr} {od_check_market an_check_market : Option Addr} {sl_check_market : Array (Option Value)} {oc_check_market kV_check_market dc_check_market pm_check_market cd_check_market ct_check_market : Value}
    (a_check_market : PySem.W.nsIn K mainGlobals "check_market" = some (some (.ref f_check_market))) (l_check_market : K.lookup f_check_market = some ⟨oc_check_market, od_check_market, .func (PySem.W.fnOf "check_market" "check_market" (defArgs s_check_market) (defBody s_check_market) (defScope s_check_market) .none kV_check_market dc_check_market pm_check_market an_check_market cd_check_market ct_check_market), sl_check_market⟩) (c_check_market : PySem.W.codeIn K cd_check_market "check_market" = true) (k_check_market : PySem.W.keepIn K (.ref f_check_market) = true)
    {f_check_prices : Addr} {od_check_prices an_check_prices : Option Addr} {sl_check_prices : Array (Option Value)} {oc_check_prices kV_check_prices dc_check_prices pm_check_prices cd_check_prices ct_check_prices : Value}
    (a_check_prices : PySem.W.nsIn K mainGlobals "check_prices" = some (some (.ref f_check_prices))) (l_check_prices : K.lookup f_check_prices = some ⟨oc_check_prices, od_check_prices, .func (PySem.W.fnOf "check_prices" "check_prices" (defArgs s_check_prices) (defBody s_check_prices) (defScope s_check_prices) .none kV_check_prices dc_check_prices pm_check_prices an_check_prices cd_check_prices ct_check_prices), sl_check_prices⟩) (c_check_prices : PySem.W.codeIn K cd_check_prices "check_prices" = true) (k_check_prices : PySem.W.keepIn K (.ref f_check_prices) = true)
    {f_check_order : Addr} {od_check_order an_check_order : Option Addr} {sl_check_order : Array (Option Value)} {oc_check_order kV_check_order dc_check_order pm_check_order cd_check_order ct_check_order : Value}
    (a_check_order : PySem.W.nsIn K mainGlobals "check_order" = some (some (.ref f_check_order))) (l_check_order : K.lookup f_check_order = some ⟨oc_check_order, od_check_order, .func (PySem.W.fnOf "check_order" "check_order" (defArgs s_check_order) (defBody s_check_order) (defScope s_check_order) .none kV_check_order dc_check_order pm_check_order an_check_order cd_check_order ct_check_order), sl_check_order⟩) (c_check_order : PySem.W.codeIn K cd_check_order "check_order" = true) (k_check_order : PySem.W.keepIn K (.ref f_check_order) = true)
    {f_is_shop : Addr} {od_is_shop an_is_shop : Option Addr} {sl_is_shop : Array (Option Value)} {oc_is_shop kV_is_shop dc_is_shop pm_is_shop cd_is_shop ct_is_shop : Value}
    (a_is_shop : PySem.W.nsIn K mainGlobals "is_shop" = some (some (.ref f_is_shop))) (l_is_shop : K.lookup f_is_shop = some ⟨oc_is_shop, od_is_shop, .func (PySem.W.fnOf "is_shop" "is_shop" (defArgs s_is_shop) (defBody s_is_shop) (defScope s_is_shop) .none kV_is_shop dc_is_shop pm_is_shop an_is_shop cd_is_shop ct_is_shop), sl_is_shop⟩) (c_is_shop : PySem.W.codeIn K cd_is_shop "is_shop" = true) (k_is_shop : PySem.W.keepIn K (.ref f_is_shop) = true)
    {f_fits : Addr} {od_fits an_fits : Option Addr} {sl_fits : Array (Option Value)} {oc_fits kV_fits dc_fits pm_fits cd_fits ct_fits : Value}
    (a_fits : PySem.W.nsIn K mainGlobals "fits" = some (some (.ref f_fits))) (l_fits : K.lookup f_fits = some ⟨oc_fits, od_fits, .func (PySem.W.fnOf "fits" "fits" (defArgs s_fits) (defBody s_fits) (defScope s_fits) .none kV_fits dc_fits pm_fits an_fits cd_fits ct_fits), sl_fits⟩) (c_fits : PySem.W.codeIn K cd_fits "fits" = true) (k_fits : PySem.W.keepIn K (.ref f_fits) = true)
    {f_played : Addr} {od_played an_played : Option Addr} {sl_played : Array (Option Value)} {oc_played kV_played dc_played pm_played cd_played ct_played : Value}
    (a_played : PySem.W.nsIn K mainGlobals "played" = some (some (.ref f_played))) (l_played : K.lookup f_played = some ⟨oc_played, od_played, .func (PySem.W.fnOf "played" "played" (defArgs s_played) (defBody s_played) (defScope s_played) .none kV_played dc_played pm_played an_played cd_played ct_played), sl_played⟩) (c_played : PySem.W.codeIn K cd_played "played" = true) (k_played : PySem.W.keepIn K (.ref f_played) = true)
    {f__steps : Addr} {od__steps an__steps : Option Addr} {sl__steps : Array (Option Value)} {oc__steps kV__steps dc__steps pm__steps cd__steps ct__steps : Value}
    (a__steps : PySem.W.nsIn K mainGlobals "_steps" = some (some (.ref f__steps))) (l__steps : K.lookup f__steps = some ⟨oc__steps, od__steps, .func (PySem.W.fnOf "_steps" "_steps" (defArgs s__steps) (defBody s__steps) (defScope s__steps) .none kV__steps dc__steps pm__steps an__steps cd__steps ct__steps), sl__steps⟩) (c__steps : PySem.W.codeIn K cd__steps "_steps" = true) (k__steps : PySem.W.keepIn K (.ref f__steps) = true)
    {f__repriced : Addr} {od__repriced an__repriced : Option Addr} {sl__repriced : Array (Option Value)} {oc__repriced kV__repriced dc__repriced pm__repriced cd__repriced ct__repriced : Value}
    (a__repriced : PySem.W.nsIn K mainGlobals "_repriced" = some (some (.ref f__repriced))) (l__repriced : K.lookup f__repriced = some ⟨oc__repriced, od__repriced, .func (PySem.W.fnOf "_repriced" "_repriced" (defArgs s__repriced) (defBody s__repriced) (defScope s__repriced) .none kV__repriced dc__repriced pm__repriced an__repriced cd__repriced ct__repriced), sl__repriced⟩) (c__repriced : PySem.W.codeIn K cd__repriced "_repriced" = true) (k__repriced : PySem.W.keepIn K (.ref f__repriced) = true)
    {f__law_source : Addr} {od__law_source an__law_source : Option Addr} {sl__law_source : Array (Option Value)} {oc__law_source kV__law_source dc__law_source pm__law_source cd__law_source ct__law_source : Value}
    (a__law_source : PySem.W.nsIn K mainGlobals "_law_source" = some (some (.ref f__law_source))) (l__law_source : K.lookup f__law_source = some ⟨oc__law_source, od__law_source, .func (PySem.W.fnOf "_law_source" "_law_source" (defArgs s__law_source) (defBody s__law_source) (defScope s__law_source) .none kV__law_source dc__law_source pm__law_source an__law_source cd__law_source ct__law_source), sl__law_source⟩) (c__law_source : PySem.W.codeIn K cd__law_source "_law_source" = true) (k__law_source : PySem.W.keepIn K (.ref f__law_source) = true)
    {f__law_draw : Addr} {od__law_draw an__law_draw : Option Addr} {sl__law_draw : Array (Option Value)} {oc__law_draw kV__law_draw dc__law_draw pm__law_draw cd__law_draw ct__law_draw : Value}
    (a__law_draw : PySem.W.nsIn K mainGlobals "_law_draw" = some (some (.ref f__law_draw))) (l__law_draw : K.lookup f__law_draw = some ⟨oc__law_draw, od__law_draw, .func (PySem.W.fnOf "_law_draw" "_law_draw" (defArgs s__law_draw) (defBody s__law_draw) (defScope s__law_draw) .none kV__law_draw dc__law_draw pm__law_draw an__law_draw cd__law_draw ct__law_draw), sl__law_draw⟩) (c__law_draw : PySem.W.codeIn K cd__law_draw "_law_draw" = true) (k__law_draw : PySem.W.keepIn K (.ref f__law_draw) = true)
    {f__law_great : Addr} {od__law_great an__law_great : Option Addr} {sl__law_great : Array (Option Value)} {oc__law_great kV__law_great dc__law_great pm__law_great cd__law_great ct__law_great : Value}
    (a__law_great : PySem.W.nsIn K mainGlobals "_law_great" = some (some (.ref f__law_great))) (l__law_great : K.lookup f__law_great = some ⟨oc__law_great, od__law_great, .func (PySem.W.fnOf "_law_great" "_law_great" (defArgs s__law_great) (defBody s__law_great) (defScope s__law_great) .none kV__law_great dc__law_great pm__law_great an__law_great cd__law_great ct__law_great), sl__law_great⟩) (c__law_great : PySem.W.codeIn K cd__law_great "_law_great" = true) (k__law_great : PySem.W.keepIn K (.ref f__law_great) = true)
    {f__law_add : Addr} {od__law_add an__law_add : Option Addr} {sl__law_add : Array (Option Value)} {oc__law_add kV__law_add dc__law_add pm__law_add cd__law_add ct__law_add : Value}
    (a__law_add : PySem.W.nsIn K mainGlobals "_law_add" = some (some (.ref f__law_add))) (l__law_add : K.lookup f__law_add = some ⟨oc__law_add, od__law_add, .func (PySem.W.fnOf "_law_add" "_law_add" (defArgs s__law_add) (defBody s__law_add) (defScope s__law_add) .none kV__law_add dc__law_add pm__law_add an__law_add cd__law_add ct__law_add), sl__law_add⟩) (c__law_add : PySem.W.codeIn K cd__law_add "_law_add" = true) (k__law_add : PySem.W.keepIn K (.ref f__law_add) = true)
    {f__law_end : Addr} {od__law_end an__law_end : Option Addr} {sl__law_end : Array (Option Value)} {oc__law_end kV__law_end dc__law_end pm__law_end cd__law_end ct__law_end : Value}
    (a__law_end : PySem.W.nsIn K mainGlobals "_law_end" = some (some (.ref f__law_end))) (l__law_end : K.lookup f__law_end = some ⟨oc__law_end, od__law_end, .func (PySem.W.fnOf "_law_end" "_law_end" (defArgs s__law_end) (defBody s__law_end) (defScope s__law_end) .none kV__law_end dc__law_end pm__law_end an__law_end cd__law_end ct__law_end), sl__law_end⟩) (c__law_end : PySem.W.codeIn K cd__law_end "_law_end" = true) (k__law_end : PySem.W.keepIn K (.ref f__law_end) = true)
    {f__law_term : Addr} {od__law_term an__law_term : Option Addr} {sl__law_term : Array (Option Value)} {oc__law_term kV__law_term dc__law_term pm__law_term cd__law_term ct__law_term : Value}
    (a__law_term : PySem.W.nsIn K mainGlobals "_law_term" = some (some (.ref f__law_term))) (l__law_term : K.lookup f__law_term = some ⟨oc__law_term, od__law_term, .func (PySem.W.fnOf "_law_term" "_law_term" (defArgs s__law_term) (defBody s__law_term) (defScope s__law_term) .none kV__law_term dc__law_term pm__law_term an__law_term cd__law_term ct__law_term), sl__law_term⟩) (c__law_term : PySem.W.codeIn K cd__law_term "_law_term" = true) (k__law_term : PySem.W.keepIn K (.ref f__law_term) = true)
    {f__law_bounded : Addr} {od__law_bounded an__law_bounded : Option Addr} {sl__law_bounded : Array (Option Value)} {oc__law_bounded kV__law_bounded dc__law_bounded pm__law_bounded cd__law_bounded ct__law_bounded : Value}
    (a__law_bounded : PySem.W.nsIn K mainGlobals "_law_bounded" = some (some (.ref f__law_bounded))) (l__law_bounded : K.lookup f__law_bounded = some ⟨oc__law_bounded, od__law_bounded, .func (PySem.W.fnOf "_law_bounded" "_law_bounded" (defArgs s__law_bounded) (defBody s__law_bounded) (defScope s__law_bounded) .none kV__law_bounded dc__law_bounded pm__law_bounded an__law_bounded cd__law_bounded ct__law_bounded), sl__law_bounded⟩) (c__law_bounded : PySem.W.codeIn K cd__law_bounded "_law_bounded" = true) (k__law_bounded : PySem.W.keepIn K (.ref f__law_bounded) = true)
    {f__law_rules : Addr} {od__law_rules an__law_rules : Option Addr} {sl__law_rules : Array (Option Value)} {oc__law_rules kV__law_rules dc__law_rules pm__law_rules cd__law_rules ct__law_rules : Value}
    (a__law_rules : PySem.W.nsIn K mainGlobals "_law_rules" = some (some (.ref f__law_rules))) (l__law_rules : K.lookup f__law_rules = some ⟨oc__law_rules, od__law_rules, .func (PySem.W.fnOf "_law_rules" "_law_rules" (defArgs s__law_rules) (defBody s__law_rules) (defScope s__law_rules) .none kV__law_rules dc__law_rules pm__law_rules an__law_rules cd__law_rules ct__law_rules), sl__law_rules⟩) (c__law_rules : PySem.W.codeIn K cd__law_rules "_law_rules" = true) (k__law_rules : PySem.W.keepIn K (.ref f__law_rules) = true)
    {f__law_value : Addr} {od__law_value an__law_value : Option Addr} {sl__law_value : Array (Option Value)} {oc__law_value kV__law_value dc__law_value pm__law_value cd__law_value ct__law_value : Value}
    (a__law_value : PySem.W.nsIn K mainGlobals "_law_value" = some (some (.ref f__law_value))) (l__law_value : K.lookup f__law_value = some ⟨oc__law_value, od__law_value, .func (PySem.W.fnOf "_law_value" "_law_value" (defArgs s__law_value) (defBody s__law_value) (defScope s__law_value) .none kV__law_value dc__law_value pm__law_value an__law_value cd__law_value ct__law_value), sl__law_value⟩) (c__law_value : PySem.W.codeIn K cd__law_value "_law_value" = true) (k__law_value : PySem.W.keepIn K (.ref f__law_value) = true)
    {f__law_behind : Addr} {od__law_behind an__law_behind : Option Addr} {sl__law_behind : Array (Option Value)} {oc__law_behind kV__law_behind dc__law_behind pm__law_behind cd__law_behind ct__law_behind : Value}
    (a__law_behind : PySem.W.nsIn K mainGlobals "_law_behind" = some (some (.ref f__law_behind))) (l__law_behind : K.lookup f__law_behind = some ⟨oc__law_behind, od__law_behind, .func (PySem.W.fnOf "_law_behind" "_law_behind" (defArgs s__law_behind) (defBody s__law_behind) (defScope s__law_behind) .none kV__law_behind dc__law_behind pm__law_behind an__law_behind cd__law_behind ct__law_behind), sl__law_behind⟩) (c__law_behind : PySem.W.codeIn K cd__law_behind "_law_behind" = true) (k__law_behind : PySem.W.keepIn K (.ref f__law_behind) = true)
    {f__law_due : Addr} {od__law_due an__law_due : Option Addr} {sl__law_due : Array (Option Value)} {oc__law_due kV__law_due dc__law_due pm__law_due cd__law_due ct__law_due : Value}
    (a__law_due : PySem.W.nsIn K mainGlobals "_law_due" = some (some (.ref f__law_due))) (l__law_due : K.lookup f__law_due = some ⟨oc__law_due, od__law_due, .func (PySem.W.fnOf "_law_due" "_law_due" (defArgs s__law_due) (defBody s__law_due) (defScope s__law_due) .none kV__law_due dc__law_due pm__law_due an__law_due cd__law_due ct__law_due), sl__law_due⟩) (c__law_due : PySem.W.codeIn K cd__law_due "_law_due" = true) (k__law_due : PySem.W.keepIn K (.ref f__law_due) = true)
    {f__law_told : Addr} {od__law_told an__law_told : Option Addr} {sl__law_told : Array (Option Value)} {oc__law_told kV__law_told dc__law_told pm__law_told cd__law_told ct__law_told : Value}
    (a__law_told : PySem.W.nsIn K mainGlobals "_law_told" = some (some (.ref f__law_told))) (l__law_told : K.lookup f__law_told = some ⟨oc__law_told, od__law_told, .func (PySem.W.fnOf "_law_told" "_law_told" (defArgs s__law_told) (defBody s__law_told) (defScope s__law_told) .none kV__law_told dc__law_told pm__law_told an__law_told cd__law_told ct__law_told), sl__law_told⟩) (c__law_told : PySem.W.codeIn K cd__law_told "_law_told" = true) (k__law_told : PySem.W.keepIn K (.ref f__law_told) = true)
    {f_law : Addr} {od_law an_law : Option Addr} {sl_law : Array (Option Value)} {oc_law kV_law dc_law pm_law cd_law ct_law : Value}
    (a_law : PySem.W.nsIn K mainGlobals "law" = some (some (.ref f_law))) (l_law : K.lookup f_law = some ⟨oc_law, od_law, .func (PySem.W.fnOf "law" "law" (defArgs s_law) (defBody s_law) (defScope s_law) .none kV_law dc_law pm_law an_law cd_law ct_law), sl_law⟩) (c_law : PySem.W.codeIn K cd_law "law" = true) (k_law : PySem.W.keepIn K (.ref f_law) = true)
    {C_InvalidTerm : Addr} (g_InvalidTerm : PySem.W.nsIn K mainGlobals "InvalidTerm" = some (some (.ref C_InvalidTerm))) (kC_InvalidTerm : PySem.W.keepIn K (.ref C_InvalidTerm) = true) (q_InvalidTerm : PySem.W.excIn K C_InvalidTerm [.type "ValueError", .type "Exception", .type "BaseException", .type "object"] "ValueError.__new__" = true) (ex_InvalidTerm : PySem.W.subIn K (.ref C_InvalidTerm) (.type "BaseException") = some true) (ty_InvalidTerm : PySem.W.typeIn K (.ref C_InvalidTerm) = some (.type "type"))
    {C_InvalidRules : Addr} (g_InvalidRules : PySem.W.nsIn K mainGlobals "InvalidRules" = some (some (.ref C_InvalidRules))) (kC_InvalidRules : PySem.W.keepIn K (.ref C_InvalidRules) = true) (q_InvalidRules : PySem.W.excIn K C_InvalidRules [.type "ValueError", .type "Exception", .type "BaseException", .type "object"] "ValueError.__new__" = true) (ex_InvalidRules : PySem.W.subIn K (.ref C_InvalidRules) (.type "BaseException") = some true) (ty_InvalidRules : PySem.W.typeIn K (.ref C_InvalidRules) = some (.type "type"))
    {C_InvalidPrices : Addr} (g_InvalidPrices : PySem.W.nsIn K mainGlobals "InvalidPrices" = some (some (.ref C_InvalidPrices))) (kC_InvalidPrices : PySem.W.keepIn K (.ref C_InvalidPrices) = true) (q_InvalidPrices : PySem.W.excIn K C_InvalidPrices [.type "ValueError", .type "Exception", .type "BaseException", .type "object"] "ValueError.__new__" = true) (ex_InvalidPrices : PySem.W.subIn K (.ref C_InvalidPrices) (.type "BaseException") = some true) (ty_InvalidPrices : PySem.W.typeIn K (.ref C_InvalidPrices) = some (.type "type"))
    {C_InvalidOrder : Addr} (g_InvalidOrder : PySem.W.nsIn K mainGlobals "InvalidOrder" = some (some (.ref C_InvalidOrder))) (kC_InvalidOrder : PySem.W.keepIn K (.ref C_InvalidOrder) = true) (q_InvalidOrder : PySem.W.excIn K C_InvalidOrder [.type "ValueError", .type "Exception", .type "BaseException", .type "object"] "ValueError.__new__" = true) (ex_InvalidOrder : PySem.W.subIn K (.ref C_InvalidOrder) (.type "BaseException") = some true) (ty_InvalidOrder : PySem.W.typeIn K (.ref C_InvalidOrder) = some (.type "type"))
    {C_TooMany : Addr} (g_TooMany : PySem.W.nsIn K mainGlobals "TooMany" = some (some (.ref C_TooMany))) (kC_TooMany : PySem.W.keepIn K (.ref C_TooMany) = true) (q_TooMany : PySem.W.excIn K C_TooMany [.type "ValueError", .type "Exception", .type "BaseException", .type "object"] "ValueError.__new__" = true) (ex_TooMany : PySem.W.subIn K (.ref C_TooMany) (.type "BaseException") = some true) (ty_TooMany : PySem.W.typeIn K (.ref C_TooMany) = some (.type "type"))
    {t__GREATEST_NUMBER : Nat} (g__GREATEST_NUMBER : PySem.W.nsIn K mainGlobals "_GREATEST_NUMBER" = some (some (.int v__GREATEST_NUMBER t__GREATEST_NUMBER)))
    {t_MOST_SHOPS : Nat} (g_MOST_SHOPS : PySem.W.nsIn K mainGlobals "MOST_SHOPS" = some (some (.int v_MOST_SHOPS t_MOST_SHOPS)))
    {t__MOST_PARTS : Nat} (g__MOST_PARTS : PySem.W.nsIn K mainGlobals "_MOST_PARTS" = some (some (.int v__MOST_PARTS t__MOST_PARTS)))
    {t__MOST_TERMS : Nat} (g__MOST_TERMS : PySem.W.nsIn K mainGlobals "_MOST_TERMS" = some (some (.int v__MOST_TERMS t__MOST_TERMS)))
    {t__MOST_LEVELS : Nat} (g__MOST_LEVELS : PySem.W.nsIn K mainGlobals "_MOST_LEVELS" = some (some (.int v__MOST_LEVELS t__MOST_LEVELS)))
    {t__LONGEST_ORDER : Nat} (g__LONGEST_ORDER : PySem.W.nsIn K mainGlobals "_LONGEST_ORDER" = some (some (.int 1000 t__LONGEST_ORDER)))
    {t__MOST_REPRICINGS : Nat} (g__MOST_REPRICINGS : PySem.W.nsIn K mainGlobals "_MOST_REPRICINGS" = some (some (.int 1000 t__MOST_REPRICINGS)))
    (z_len : PySem.W.nsIn K mainGlobals "len" = some none)
    (z_isinstance : PySem.W.nsIn K mainGlobals "isinstance" = some none)
    (z_abs : PySem.W.nsIn K mainGlobals "abs" = some none)
    (z_range : PySem.W.nsIn K mainGlobals "range" = some none)
    (z_int : PySem.W.nsIn K mainGlobals "int" = some none)
    (z_bool : PySem.W.nsIn K mainGlobals "bool" = some none)
    (z_tuple : PySem.W.nsIn K mainGlobals "tuple" = some none)
    (z_list : PySem.W.nsIn K mainGlobals "list" = some none)
    (z_all : PySem.W.nsIn K mainGlobals "all" = some none)
    (z_sorted : PySem.W.nsIn K mainGlobals "sorted" = some none)
    (z_set : PySem.W.nsIn K mainGlobals "set" = some none)
    (hk : PySem.W.exmOne K (.ref C_TooMany) (.ref C_TooMany) = some true) :
    ∃ fd : FuncData, (∀ (s : Shared) (v : Value), BindsTo s fd ⟨[v], []⟩ [("script", v)]) ∧ ∀ base : Heap, K.In base → base.Ns mainGlobals mg → FnOk l.prog w K mg base CX0 16 fa fd ["script"] (spLaw K) := by
  have e := hfa.symm.trans (PySem.W.mg_of X G a_law)
  cases e
  let T : Top K mg := {
    is_int := { f := _, fd := _, F := fun_mk l_is_int c_is_int k_is_int, g := PySem.W.mg_of X G a_is_int, b := (fun_mk l_is_int c_is_int k_is_int).binds (ps := ["value"]) fun _ _ _ _ _ _ us hl => match us, hl with | [_], _ => rfl },
    is_int_from := { f := _, fd := _, F := fun_mk l_is_int_from c_is_int_from k_is_int_from, g := PySem.W.mg_of X G a_is_int_from, b := (fun_mk l_is_int_from c_is_int_from k_is_int_from).binds (ps := ["value", "least", "greatest"]) fun _ _ _ _ _ _ us hl => match us, hl with | [_, _, _], _ => rfl },
    is_number := { f := _, fd := _, F := fun_mk l_is_number c_is_number k_is_number, g := PySem.W.mg_of X G a_is_number, b := (fun_mk l_is_number c_is_number k_is_number).binds (ps := ["value"]) fun _ _ _ _ _ _ us hl => match us, hl with | [_], _ => rfl },
    is_int_list := { f := _, fd := _, F := fun_mk l_is_int_list c_is_int_list k_is_int_list, g := PySem.W.mg_of X G a_is_int_list, b := (fun_mk l_is_int_list c_is_int_list k_is_int_list).binds (ps := ["value", "fewest", "greatest"]) fun _ _ _ _ _ _ us hl => match us, hl with | [_, _, _], _ => rfl },
    is_leaf := { f := _, fd := _, F := fun_mk l_is_leaf c_is_leaf k_is_leaf, g := PySem.W.mg_of X G a_is_leaf, b := (fun_mk l_is_leaf c_is_leaf k_is_leaf).binds (ps := ["term"]) fun _ _ _ _ _ _ us hl => match us, hl with | [_], _ => rfl },
    parts_of := { f := _, fd := _, F := fun_mk l_parts_of c_parts_of k_parts_of, g := PySem.W.mg_of X G a_parts_of, b := (fun_mk l_parts_of c_parts_of k_parts_of).binds (ps := ["term"]) fun _ _ _ _ _ _ us hl => match us, hl with | [_], _ => rfl },
    is_term := { f := _, fd := _, F := fun_mk l_is_term c_is_term k_is_term, g := PySem.W.mg_of X G a_is_term, b := (fun_mk l_is_term c_is_term k_is_term).binds (ps := ["value"]) fun _ _ _ _ _ _ us hl => match us, hl with | [_], _ => rfl },
    check_term := { f := _, fd := _, F := fun_mk l_check_term c_check_term k_check_term, g := PySem.W.mg_of X G a_check_term, b := (fun_mk l_check_term c_check_term k_check_term).binds (ps := ["term"]) fun _ _ _ _ _ _ us hl => match us, hl with | [_], _ => rfl },
    shops_in := { f := _, fd := _, F := fun_mk l_shops_in c_shops_in k_shops_in, g := PySem.W.mg_of X G a_shops_in, b := (fun_mk l_shops_in c_shops_in k_shops_in).binds (ps := ["term"]) fun _ _ _ _ _ _ us hl => match us, hl with | [_], _ => rfl },
    tell := { f := _, fd := _, F := fun_mk l_tell c_tell k_tell, g := PySem.W.mg_of X G a_tell, b := (fun_mk l_tell c_tell k_tell).binds (ps := ["term", "prices"]) fun _ _ _ _ _ _ us hl => match us, hl with | [_, _], _ => rfl },
    _has_form := { f := _, fd := _, F := fun_mk l__has_form c__has_form k__has_form, g := PySem.W.mg_of X G a__has_form, b := (fun_mk l__has_form c__has_form k__has_form).binds (ps := ["term"]) fun _ _ _ _ _ _ us hl => match us, hl with | [_], _ => rfl },
    _are_parts := { f := _, fd := _, F := fun_mk l__are_parts c__are_parts k__are_parts, g := PySem.W.mg_of X G a__are_parts, b := (fun_mk l__are_parts c__are_parts k__are_parts).binds (ps := ["value"]) fun _ _ _ _ _ _ us hl => match us, hl with | [_], _ => rfl },
    _all_shops := { f := _, fd := _, F := fun_mk l__all_shops c__all_shops k__all_shops, g := PySem.W.mg_of X G a__all_shops, b := (fun_mk l__all_shops c__all_shops k__all_shops).binds (ps := ["term"]) fun _ _ _ _ _ _ us hl => match us, hl with | [_], _ => rfl },
    check_rules := { f := _, fd := _, F := fun_mk l_check_rules c_check_rules k_check_rules, g := PySem.W.mg_of X G a_check_rules, b := (fun_mk l_check_rules c_check_rules k_check_rules).binds (ps := ["rules"]) fun _ _ _ _ _ _ us hl => match us, hl with | [_], _ => rfl },
    check_market := { f := _, fd := _, F := fun_mk l_check_market c_check_market k_check_market, g := PySem.W.mg_of X G a_check_market, b := (fun_mk l_check_market c_check_market k_check_market).binds (ps := ["rules", "prices"]) fun _ _ _ _ _ _ us hl => match us, hl with | [_, _], _ => rfl },
    check_prices := { f := _, fd := _, F := fun_mk l_check_prices c_check_prices k_check_prices, g := PySem.W.mg_of X G a_check_prices, b := (fun_mk l_check_prices c_check_prices k_check_prices).binds (ps := ["prices", "many"]) fun _ _ _ _ _ _ us hl => match us, hl with | [_, _], _ => rfl },
    check_order := { f := _, fd := _, F := fun_mk l_check_order c_check_order k_check_order, g := PySem.W.mg_of X G a_check_order, b := (fun_mk l_check_order c_check_order k_check_order).binds (ps := ["order", "many", "fewest"]) fun _ _ _ _ _ _ us hl => match us, hl with | [_, _, _], _ => rfl },
    is_shop := { f := _, fd := _, F := fun_mk l_is_shop c_is_shop k_is_shop, g := PySem.W.mg_of X G a_is_shop, b := (fun_mk l_is_shop c_is_shop k_is_shop).binds (ps := ["value", "many"]) fun _ _ _ _ _ _ us hl => match us, hl with | [_, _], _ => rfl },
    fits := { f := _, fd := _, F := fun_mk l_fits c_fits k_fits, g := PySem.W.mg_of X G a_fits, b := (fun_mk l_fits c_fits k_fits).binds (ps := ["term", "many"]) fun _ _ _ _ _ _ us hl => match us, hl with | [_, _], _ => rfl },
    played := { f := _, fd := _, F := fun_mk l_played c_played k_played, g := PySem.W.mg_of X G a_played, b := (fun_mk l_played c_played k_played).binds (ps := ["rules", "prices", "order"]) fun _ _ _ _ _ _ us hl => match us, hl with | [_, _, _], _ => rfl },
    _steps := { f := _, fd := _, F := fun_mk l__steps c__steps k__steps, g := PySem.W.mg_of X G a__steps, b := (fun_mk l__steps c__steps k__steps).binds (ps := ["rules", "prices", "order"]) fun _ _ _ _ _ _ us hl => match us, hl with | [_, _, _], _ => rfl },
    _repriced := { f := _, fd := _, F := fun_mk l__repriced c__repriced k__repriced, g := PySem.W.mg_of X G a__repriced, b := (fun_mk l__repriced c__repriced k__repriced).binds (ps := ["rules", "prices", "shop"]) fun _ _ _ _ _ _ us hl => match us, hl with | [_, _, _], _ => rfl },
    _law_source := { f := _, fd := _, F := fun_mk l__law_source c__law_source k__law_source, g := PySem.W.mg_of X G a__law_source, b := (fun_mk l__law_source c__law_source k__law_source).binds (ps := ["script"]) fun _ _ _ _ _ _ us hl => match us, hl with | [_], _ => rfl },
    _law_draw := { f := _, fd := _, F := fun_mk l__law_draw c__law_draw k__law_draw, g := PySem.W.mg_of X G a__law_draw, b := (fun_mk l__law_draw c__law_draw k__law_draw).binds (ps := ["source", "limit"]) fun _ _ _ _ _ _ us hl => match us, hl with | [_, _], _ => rfl },
    _law_great := { f := _, fd := _, F := fun_mk l__law_great c__law_great k__law_great, g := PySem.W.mg_of X G a__law_great, b := (fun_mk l__law_great c__law_great k__law_great).binds (ps := ["source", "limit"]) fun _ _ _ _ _ _ us hl => match us, hl with | [_, _], _ => rfl },
    _law_add := { f := _, fd := _, F := fun_mk l__law_add c__law_add k__law_add, g := PySem.W.mg_of X G a__law_add, b := (fun_mk l__law_add c__law_add k__law_add).binds (ps := ["source", "most"]) fun _ _ _ _ _ _ us hl => match us, hl with | [_, _], _ => rfl },
    _law_end := { f := _, fd := _, F := fun_mk l__law_end c__law_end k__law_end, g := PySem.W.mg_of X G a__law_end, b := (fun_mk l__law_end c__law_end k__law_end).binds (ps := ["source", "many", "most"]) fun _ _ _ _ _ _ us hl => match us, hl with | [_, _, _], _ => rfl },
    _law_term := { f := _, fd := _, F := fun_mk l__law_term c__law_term k__law_term, g := PySem.W.mg_of X G a__law_term, b := (fun_mk l__law_term c__law_term k__law_term).binds (ps := ["source", "many", "most", "deep"]) fun _ _ _ _ _ _ us hl => match us, hl with | [_, _, _, _], _ => rfl },
    _law_bounded := { f := _, fd := _, F := fun_mk l__law_bounded c__law_bounded k__law_bounded, g := PySem.W.mg_of X G a__law_bounded, b := (fun_mk l__law_bounded c__law_bounded k__law_bounded).binds (ps := ["source", "many", "most"]) fun _ _ _ _ _ _ us hl => match us, hl with | [_, _, _], _ => rfl },
    _law_rules := { f := _, fd := _, F := fun_mk l__law_rules c__law_rules k__law_rules, g := PySem.W.mg_of X G a__law_rules, b := (fun_mk l__law_rules c__law_rules k__law_rules).binds (ps := ["source", "most"]) fun _ _ _ _ _ _ us hl => match us, hl with | [_, _], _ => rfl },
    _law_value := { f := _, fd := _, F := fun_mk l__law_value c__law_value k__law_value, g := PySem.W.mg_of X G a__law_value, b := (fun_mk l__law_value c__law_value k__law_value).binds (ps := ["term", "prices"]) fun _ _ _ _ _ _ us hl => match us, hl with | [_, _], _ => rfl },
    _law_behind := { f := _, fd := _, F := fun_mk l__law_behind c__law_behind k__law_behind, g := PySem.W.mg_of X G a__law_behind, b := (fun_mk l__law_behind c__law_behind k__law_behind).binds (ps := ["rules", "prices", "shop"]) fun _ _ _ _ _ _ us hl => match us, hl with | [_, _, _], _ => rfl },
    _law_due := { f := _, fd := _, F := fun_mk l__law_due c__law_due k__law_due, g := PySem.W.mg_of X G a__law_due, b := (fun_mk l__law_due c__law_due k__law_due).binds (ps := ["rules", "order", "prices"]) fun _ _ _ _ _ _ us hl => match us, hl with | [_, _, _], _ => rfl },
    _law_told := { f := _, fd := _, F := fun_mk l__law_told c__law_told k__law_told, g := PySem.W.mg_of X G a__law_told, b := (fun_mk l__law_told c__law_told k__law_told).binds (ps := ["rules", "order", "prices"]) fun _ _ _ _ _ _ us hl => match us, hl with | [_, _, _], _ => rfl },
    law := { f := _, fd := _, F := fun_mk l_law c_law k_law, g := PySem.W.mg_of X G a_law, b := (fun_mk l_law c_law k_law).binds (ps := ["script"]) fun _ _ _ _ _ _ us hl => match us, hl with | [_], _ => rfl },
    InvalidTerm := { C := C_InvalidTerm, g := PySem.W.mg_of X G g_InvalidTerm, k := kC_InvalidTerm, q := q_InvalidTerm, ex := ex_InvalidTerm, ty := ty_InvalidTerm },
    InvalidRules := { C := C_InvalidRules, g := PySem.W.mg_of X G g_InvalidRules, k := kC_InvalidRules, q := q_InvalidRules, ex := ex_InvalidRules, ty := ty_InvalidRules },
    InvalidPrices := { C := C_InvalidPrices, g := PySem.W.mg_of X G g_InvalidPrices, k := kC_InvalidPrices, q := q_InvalidPrices, ex := ex_InvalidPrices, ty := ty_InvalidPrices },
    InvalidOrder := { C := C_InvalidOrder, g := PySem.W.mg_of X G g_InvalidOrder, k := kC_InvalidOrder, q := q_InvalidOrder, ex := ex_InvalidOrder, ty := ty_InvalidOrder },
    TooMany := { C := C_TooMany, g := PySem.W.mg_of X G g_TooMany, k := kC_TooMany, q := q_TooMany, ex := ex_TooMany, ty := ty_TooMany },
    g__GREATEST_NUMBER := ⟨_, PySem.W.mg_of X G g__GREATEST_NUMBER⟩,
    g_MOST_SHOPS := ⟨_, PySem.W.mg_of X G g_MOST_SHOPS⟩,
    g__MOST_PARTS := ⟨_, PySem.W.mg_of X G g__MOST_PARTS⟩,
    g__MOST_TERMS := ⟨_, PySem.W.mg_of X G g__MOST_TERMS⟩,
    g__MOST_LEVELS := ⟨_, PySem.W.mg_of X G g__MOST_LEVELS⟩,
    g__LONGEST_ORDER := ⟨_, PySem.W.mg_of X G g__LONGEST_ORDER⟩,
    g__MOST_REPRICINGS := ⟨_, PySem.W.mg_of X G g__MOST_REPRICINGS⟩,
    n_len := PySem.W.mg_none_of X G z_len,
    n_isinstance := PySem.W.mg_none_of X G z_isinstance,
    n_abs := PySem.W.mg_none_of X G z_abs,
    n_range := PySem.W.mg_none_of X G z_range,
    n_int := PySem.W.mg_none_of X G z_int,
    n_bool := PySem.W.mg_none_of X G z_bool,
    n_tuple := PySem.W.mg_none_of X G z_tuple,
    n_list := PySem.W.mg_none_of X G z_list,
    n_all := PySem.W.mg_none_of X G z_all,
    n_sorted := PySem.W.mg_none_of X G z_sorted,
    n_set := PySem.W.mg_none_of X G z_set }
  exact ⟨_, fun s v => .of_eq rfl, fun base _ _ => ok_law T hk⟩
end K21
open PySem PySem.W PyProof.Rows
set_option maxHeartbeats 0 in
theorem PySem.Challenge.cw_pricespin_k21_orders_played_holds : PySem.Challenge.rw_pricespin_k21_orders_played.Holds := by
  w_on; o_law; k_head; (case hw => w_witness2)
  k_fill
  refine L2.walk_of (l := PySem.Challenge.rw_pricespin_k21_orders_played) (n := 63) (k := 16) (x := "script") (CX := fun _ => L2.CX0) (sp := fun w => K21.spLaw _) rfl (by decide) rfl ⟨rfl, by decide, by decide⟩ (fun w h Y => PySem.W.kIn_of Y) ?F (fun _ _ a ns hl _ hS => ⟨a, ns, rfl, hS, hl, fun _ => rfl⟩) (fun _ _ _ _ _ h => h)
  case F =>
    intro w mg fa h KX G hmg
    refine' K21.all_mk KX G hmg ?a_is_int ?l_is_int ?c_is_int ?k_is_int ?a_is_int_from ?l_is_int_from ?c_is_int_from ?k_is_int_from ?a_is_number ?l_is_number ?c_is_number ?k_is_number ?a_is_int_list ?l_is_int_list ?c_is_int_list ?k_is_int_list ?a_is_leaf ?l_is_leaf ?c_is_leaf ?k_is_leaf ?a_parts_of ?l_parts_of ?c_parts_of ?k_parts_of ?a_is_term ?l_is_term ?c_is_term ?k_is_term ?a_check_term ?l_check_term ?c_check_term ?k_check_term ?a_shops_in ?l_shops_in ?c_shops_in ?k_shops_in ?a_tell ?l_tell ?c_tell ?k_tell ?a__has_form ?l__has_form ?c__has_form ?k__has_form ?a__are_parts ?l__are_parts ?c__are_parts ?k__are_parts ?a__all_shops ?l__all_shops ?c__all_shops ?k__all_shops ?a_check_rules ?l_check_rules ?c_check_rules ?k_check_rules ?a_check_market ?l_check_market ?c_check_market ?k_check_market ?a_check_prices ?l_check_prices ?c_check_prices ?k_check_prices ?a_check_order ?l_check_order ?c_check_order ?k_check_order ?a_is_shop ?l_is_shop ?c_is_shop ?k_is_shop ?a_fits ?l_fits ?c_fits ?k_fits ?a_played ?l_played ?c_played ?k_played ?a__steps ?l__steps ?c__steps ?k__steps ?a__repriced ?l__repriced ?c__repriced ?k__repriced ?a__law_source ?l__law_source ?c__law_source ?k__law_source ?a__law_draw ?l__law_draw ?c__law_draw ?k__law_draw ?a__law_great ?l__law_great ?c__law_great ?k__law_great ?a__law_add ?l__law_add ?c__law_add ?k__law_add ?a__law_end ?l__law_end ?c__law_end ?k__law_end ?a__law_term ?l__law_term ?c__law_term ?k__law_term ?a__law_bounded ?l__law_bounded ?c__law_bounded ?k__law_bounded ?a__law_rules ?l__law_rules ?c__law_rules ?k__law_rules ?a__law_value ?l__law_value ?c__law_value ?k__law_value ?a__law_behind ?l__law_behind ?c__law_behind ?k__law_behind ?a__law_due ?l__law_due ?c__law_due ?k__law_due ?a__law_told ?l__law_told ?c__law_told ?k__law_told ?a_law ?l_law ?c_law ?k_law ?g_InvalidTerm ?kC_InvalidTerm ?q_InvalidTerm ?ex_InvalidTerm ?ty_InvalidTerm ?g_InvalidRules ?kC_InvalidRules ?q_InvalidRules ?ex_InvalidRules ?ty_InvalidRules ?g_InvalidPrices ?kC_InvalidPrices ?q_InvalidPrices ?ex_InvalidPrices ?ty_InvalidPrices ?g_InvalidOrder ?kC_InvalidOrder ?q_InvalidOrder ?ex_InvalidOrder ?ty_InvalidOrder ?g_TooMany ?kC_TooMany ?q_TooMany ?ex_TooMany ?ty_TooMany ?g__GREATEST_NUMBER ?g_MOST_SHOPS ?g__MOST_PARTS ?g__MOST_TERMS ?g__MOST_LEVELS ?g__LONGEST_ORDER ?g__MOST_REPRICINGS ?z_len ?z_isinstance ?z_abs ?z_range ?z_int ?z_bool ?z_tuple ?z_list ?z_all ?z_sorted ?z_set ?hk
    (case g_InvalidTerm => k_is)
    (case g_InvalidRules => k_is)
    (case g_InvalidPrices => k_is)
    (case g_InvalidOrder => k_is)
    (case g_TooMany => k_is)
    (case a_is_int => k_is)
    (case l_is_int => k_is)
    (case c_is_int => k_is)
    (case k_is_int => k_is)
    (case a_is_int_from => k_is)
    (case l_is_int_from => k_is)
    (case c_is_int_from => k_is)
    (case k_is_int_from => k_is)
    (case a_is_number => k_is)
    (case l_is_number => k_is)
    (case c_is_number => k_is)
    (case k_is_number => k_is)
    (case a_is_int_list => k_is)
    (case l_is_int_list => k_is)
    (case c_is_int_list => k_is)
    (case k_is_int_list => k_is)
    (case a_is_leaf => k_is)
    (case l_is_leaf => k_is)
    (case c_is_leaf => k_is)
    (case k_is_leaf => k_is)
    (case a_parts_of => k_is)
    (case l_parts_of => k_is)
    (case c_parts_of => k_is)
    (case k_parts_of => k_is)
    (case a_is_term => k_is)
    (case l_is_term => k_is)
    (case c_is_term => k_is)
    (case k_is_term => k_is)
    (case a_check_term => k_is)
    (case l_check_term => k_is)
    (case c_check_term => k_is)
    (case k_check_term => k_is)
    (case a_shops_in => k_is)
    (case l_shops_in => k_is)
    (case c_shops_in => k_is)
    (case k_shops_in => k_is)
    (case a_tell => k_is)
    (case l_tell => k_is)
    (case c_tell => k_is)
    (case k_tell => k_is)
    (case a__has_form => k_is)
    (case l__has_form => k_is)
    (case c__has_form => k_is)
    (case k__has_form => k_is)
    (case a__are_parts => k_is)
    (case l__are_parts => k_is)
    (case c__are_parts => k_is)
    (case k__are_parts => k_is)
    (case a__all_shops => k_is)
    (case l__all_shops => k_is)
    (case c__all_shops => k_is)
    (case k__all_shops => k_is)
    (case a_check_rules => k_is)
    (case l_check_rules => k_is)
    (case c_check_rules => k_is)
    (case k_check_rules => k_is)
    (case a_check_market => k_is)
    (case l_check_market => k_is)
    (case c_check_market => k_is)
    (case k_check_market => k_is)
    (case a_check_prices => k_is)
    (case l_check_prices => k_is)
    (case c_check_prices => k_is)
    (case k_check_prices => k_is)
    (case a_check_order => k_is)
    (case l_check_order => k_is)
    (case c_check_order => k_is)
    (case k_check_order => k_is)
    (case a_is_shop => k_is)
    (case l_is_shop => k_is)
    (case c_is_shop => k_is)
    (case k_is_shop => k_is)
    (case a_fits => k_is)
    (case l_fits => k_is)
    (case c_fits => k_is)
    (case k_fits => k_is)
    (case a_played => k_is)
    (case l_played => k_is)
    (case c_played => k_is)
    (case k_played => k_is)
    (case a__steps => k_is)
    (case l__steps => k_is)
    (case c__steps => k_is)
    (case k__steps => k_is)
    (case a__repriced => k_is)
    (case l__repriced => k_is)
    (case c__repriced => k_is)
    (case k__repriced => k_is)
    (case a__law_source => k_is)
    (case l__law_source => k_is)
    (case c__law_source => k_is)
    (case k__law_source => k_is)
    (case a__law_draw => k_is)
    (case l__law_draw => k_is)
    (case c__law_draw => k_is)
    (case k__law_draw => k_is)
    (case a__law_great => k_is)
    (case l__law_great => k_is)
    (case c__law_great => k_is)
    (case k__law_great => k_is)
    (case a__law_add => k_is)
    (case l__law_add => k_is)
    (case c__law_add => k_is)
    (case k__law_add => k_is)
    (case a__law_end => k_is)
    (case l__law_end => k_is)
    (case c__law_end => k_is)
    (case k__law_end => k_is)
    (case a__law_term => k_is)
    (case l__law_term => k_is)
    (case c__law_term => k_is)
    (case k__law_term => k_is)
    (case a__law_bounded => k_is)
    (case l__law_bounded => k_is)
    (case c__law_bounded => k_is)
    (case k__law_bounded => k_is)
    (case a__law_rules => k_is)
    (case l__law_rules => k_is)
    (case c__law_rules => k_is)
    (case k__law_rules => k_is)
    (case a__law_value => k_is)
    (case l__law_value => k_is)
    (case c__law_value => k_is)
    (case k__law_value => k_is)
    (case a__law_behind => k_is)
    (case l__law_behind => k_is)
    (case c__law_behind => k_is)
    (case k__law_behind => k_is)
    (case a__law_due => k_is)
    (case l__law_due => k_is)
    (case c__law_due => k_is)
    (case k__law_due => k_is)
    (case a__law_told => k_is)
    (case l__law_told => k_is)
    (case c__law_told => k_is)
    (case k__law_told => k_is)
    (case a_law => k_is)
    (case l_law => k_is)
    (case c_law => k_is)
    (case k_law => k_is)
    (case kC_InvalidTerm => k_is)
    (case q_InvalidTerm => k_exc)
    (case ex_InvalidTerm => k_is)
    (case ty_InvalidTerm => k_is)
    (case kC_InvalidRules => k_is)
    (case q_InvalidRules => k_exc)
    (case ex_InvalidRules => k_is)
    (case ty_InvalidRules => k_is)
    (case kC_InvalidPrices => k_is)
    (case q_InvalidPrices => k_exc)
    (case ex_InvalidPrices => k_is)
    (case ty_InvalidPrices => k_is)
    (case kC_InvalidOrder => k_is)
    (case q_InvalidOrder => k_exc)
    (case ex_InvalidOrder => k_is)
    (case ty_InvalidOrder => k_is)
    (case kC_TooMany => k_is)
    (case q_TooMany => k_exc)
    (case ex_TooMany => k_is)
    (case ty_TooMany => k_is)
    (case g__GREATEST_NUMBER => k_is)
    (case g_MOST_SHOPS => k_is)
    (case g__MOST_PARTS => k_is)
    (case g__MOST_TERMS => k_is)
    (case g__MOST_LEVELS => k_is)
    (case g__LONGEST_ORDER => k_is)
    (case g__MOST_REPRICINGS => k_is)
    (case z_len => k_is)
    (case z_isinstance => k_is)
    (case z_abs => k_is)
    (case z_range => k_is)
    (case z_int => k_is)
    (case z_bool => k_is)
    (case z_tuple => k_is)
    (case z_list => k_is)
    (case z_all => k_is)
    (case z_sorted => k_is)
    (case z_set => k_is)
    (case hk => kernel_rfl)

