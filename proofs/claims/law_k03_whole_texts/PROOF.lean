import PyProof.Rows.All
import Wide.All
import OpenK.AllK
import Wide.FinOn
import HandS.ForMost
import HandS.ForExc
import HandS.NoneIn
import HandS.Evl
import KE.KEqSeq
import PyProof.StrBlock2
import HandS.IsInst
import HandS.FStr
import HandS.Codes
import KE.KIntText
import PyProof.Rows.StrIntSpec
import HandS.TupAny
import PySem.Challenge.RW_pricespin_k03_whole_texts
set_option Elab.async false
set_option linter.all false
set_option maxRecDepth 100000
namespace DK
open PySem PySem.Spec PyProof.Rows L2
theorem hu64 {k : Nat} {A : Around} (hr : Room k A) : A.units + 64 < cLine := by
  have := hr.un
  omega
def CPowW (i j : Int) : Prop := 0 ≤ j ∧ (Builtin.Int.intBits i : Int) * j ≤ 2 ^ 27
theorem op_powW {X : Cx} : OpR X (binaryOp .Pow) (rI CPowW fun i j => .int (i ^ j.toNat)) := opI fun _ _ _ _ _ _ _ hc q => pow_int hc.1 hc.2 q
/-- a text times a number -/
theorem op_mulS {X : Cx} : OpR X (binaryOp .Mult) (fun x y H Q => ∃ z n, x = .str z ∧ y = .int n ∧ PySem.MulOk z n ∧ Q (.str (PySem.Txt.mul z n)) H) := by
  intro pins s σ H x y v u Q I rx ry h
  obtain ⟨z, n, rfl, rfl, hc, q⟩ := h
  obtain ⟨t, rfl⟩ := rx
  obtain ⟨t', rfl⟩ := ry
  exact PySem.SB.mul hc fun t2 k => ⟨.str _, H, I.tok _, ⟨_, rfl⟩, q⟩
/-- where a def of the top stands -/
structure At (K : PySem.W.Frag) (mg : Str → Option Value) (x : Str) (st : Stmt) (ps : List Str) where
  f : Addr
  fd : FuncData
  F : Fun K x x st f fd
  g : mg x = some (.ref f)
  b : Binds K fd ps []
/-- all but the addresses of M stay -/
def ExM (M : List Addr) (H H' : Hp) : Prop := ∀ a o, a ∉ M → H a = some o → H' a = some o
theorem ExM.refl (M : List Addr) (H : Hp) : ExM M H H := fun _ _ _ h => h
theorem ExM.trans {M : List Addr} {H H1 H2 : Hp} (a : ExM M H H1) (b : ExM M H1 H2) : ExM M H H2 := fun x o n h => b x o n (a x o n h)
theorem ExM.new {M : List Addr} {H : Hp} {p : Addr} {o : HO} (h : H p = none) : ExM M H (upd H p o) := fun a u _ e => by
  rw [upd_ne (ne_of_none e h)]
  exact e
theorem ExM.mut {M : List Addr} {H : Hp} {p : Addr} {o : HO} (h : p ∈ M) : ExM M H (upd H p o) := fun a u n e => by
  rw [upd_ne (show a ≠ p from fun z => n (by rw [z]; exact h))]
  exact e
theorem ExM.of {M : List Addr} {H H' : Hp} (e : Evl.Ex H H') : ExM M H H' := fun a o _ h => e a o h
/-- the source of a law's draws: at s the list of the cells' list (at c) and of the turn, at most n -/
def big : Int := 10 ^ 1200
structure Src (H : Hp) (s c : Addr) (n : Nat) : Prop where
  ne : c ≠ s
  ex : ∃ (ks : List Int) (t : Nat), H s = some (.lst [.ref c, .int (t : Int)]) ∧ H c = some (.lst (ks.map V.int)) ∧ 1 ≤ ks.length ∧ ks.length ≤ 63 ∧ t ≤ n
theorem Src.mono {H : Hp} {s c : Addr} {n m : Nat} (h : Src H s c n) (l : n ≤ m) : Src H s c m := by
  obtain ⟨a, ks, t, e1, e2, e3, e4, e5⟩ := h
  exact ⟨a, ks, t, e1, e2, e3, e4, Nat.le_trans e5 l⟩
theorem Src.ex1 {H H' : Hp} {s c : Addr} {n : Nat} (h : Src H s c n) (e : Evl.Ex H H') : Src H' s c n := by
  obtain ⟨a, ks, t, e1, e2, e3, e4, e5⟩ := h
  exact ⟨a, ks, t, e _ _ e1, e _ _ e2, e3, e4, e5⟩
theorem Src.new {H : Hp} {s c p : Addr} {o : HO} {n : Nat} (h : Src H s c n) (hp : H p = none) : Src (upd H p o) s c n := h.ex1 (Evl.Ex.new hp)
/-- _law_source(script) -/
def spSource (K : PySem.W.Frag) : Sp := fun vs H Q _ => ∃ (a : Addr) (ns : List Int), vs = [.ref a] ∧ SqL K H a (ns.map V.int) ∧ ns.length ≤ 63 ∧
  ∀ s c H', Evl.Ex H H' → H s = none → H c = none → Src H' s c 0 → Q (.ref s) H'
/-- _law_draw(source, limit) -/
def spDraw : Sp := fun vs H Q _ => ∃ (s c : Addr) (n : Nat) (l : Int), vs = [.ref s, .int l] ∧ Src H s c n ∧ n < 2 ^ 60 ∧ 0 < l ∧ l < 2 ^ 30 ∧
  ∀ (d : Int) H', 0 ≤ d → d < l → ExM [s, c] H H' → Src H' s c (n + 1) → Q (.int d) H'
/-- _law_pick(source, values) -/
def spPick (K : PySem.W.Frag) : Sp := fun vs H Q _ => ∃ (s c p : Addr) (n : Nat) (xs : List V), vs = [.ref s, .ref p] ∧ Src H s c n ∧ n < 2 ^ 60 ∧ SqL K H p xs ∧ p ≠ s ∧ p ≠ c ∧ 1 ≤ xs.length ∧ xs.length ≤ 1000 ∧
  ∀ v H', v ∈ xs → ExM [s, c] H H' → Src H' s c (n + 1) → Q v H'
theorem sqm {K : PySem.W.Frag} {M : List Addr} {H H' : Hp} {a : Addr} {xs : List V} (e : ExM M H H') (n : a ∉ M) (h : SqL K H a xs) : SqL K H' a xs := by
  rcases h with (h | ⟨o, h⟩) | h
  · exact .inl (.inl (e a _ n h))
  · exact .inl (.inr ⟨o, e a _ n h⟩)
  · exact .inr h
end DK

set_option Elab.async false
set_option linter.all false
set_option maxRecDepth 100000
set_option maxHeartbeats 2000000
/-! Data over the layer: a value that bears a datum (Dp), away from the addresses M that may be written; what an expression gives, as a datum. -/
namespace DD
open PySem PySem.Spec PyProof.Rows L2 Evl DK
def mi (H : Hp) (M : List Addr) : Hp := fun a => if a ∈ M then none else H a
theorem mi_some {H : Hp} {M : List Addr} {a : Addr} {o : HO} (h : mi H M a = some o) : a ∉ M ∧ H a = some o := by
  unfold mi at h
  split at h
  · cases h
  · rename_i n
    exact ⟨n, h⟩
theorem mi_of {H : Hp} {M : List Addr} {a : Addr} {o : HO} (n : a ∉ M) (h : H a = some o) : mi H M a = some o := by
  unfold mi
  rw [if_neg n]
  exact h
def Dom (M : List Addr) (H : Hp) : Prop := ∀ m ∈ M, H m ≠ none
theorem Dom.ex {M : List Addr} {H H' : Hp} (d : Dom M H) (e : Ex H H') : Dom M H' := fun m hm => by
  cases q : H m with
  | none => exact absurd q (d m hm)
  | some o =>
    rw [e m o q]
    exact fun z => nomatch z
theorem Dom.nin {M : List Addr} {H : Hp} {p : Addr} (d : Dom M H) (h : H p = none) : p ∉ M := fun z => d p z h
theorem Dom.cons {M : List Addr} {H : Hp} {p : Addr} (d : Dom M H) (h : H p ≠ none) : Dom (p :: M) H := fun m hm => by
  rcases List.mem_cons.mp hm with rfl | hm
  · exact h
  · exact d m hm
theorem Dom.exM {M : List Addr} {H H' : Hp} {s c : Addr} {n : Nat} (d : Dom M H) (e : ExM [s, c] H H') (S : Src H' s c n) : Dom M H' := fun m hm => by
  obtain ⟨_, ks, t, e1, e2, _⟩ := S
  by_cases h1 : m = s
  · rw [h1, e1]
    exact fun z => nomatch z
  by_cases h2 : m = c
  · rw [h2, e2]
    exact fun z => nomatch z
  cases q : H m with
  | none => exact absurd q (d m hm)
  | some o =>
    rw [e m o (by simp [h1, h2]) q]
    exact fun z => nomatch z
theorem _root_.DK.ExM.sub {M M' : List Addr} {H H' : Hp} (e : ExM M H H') (s : ∀ m, m ∈ M → m ∈ M') : ExM M' H H' := fun a o n h => e a o (fun z => n (s a z)) h
theorem _root_.DK.ExM.mut0 {M : List Addr} {H H' : Hp} {p : Addr} {o : HO} (e : ExM M H H') (n : H p = none) : ExM M H (upd H' p o) := fun a u na h => by
  rw [upd_ne (ne_of_none h n)]
  exact e a u na h
theorem _root_.DK.Src.upd {H : Hp} {s c p : Addr} {n : Nat} {o : HO} (S : Src H s c n) (h1 : p ≠ s) (h2 : p ≠ c) : Src (L2.upd H p o) s c n := by
  obtain ⟨ne, ks, t, e1, e2, e3⟩ := S
  exact ⟨ne, ks, t, by rw [upd_ne (Ne.symm h1)]; exact e1, by rw [upd_ne (Ne.symm h2)]; exact e2, e3⟩
theorem _root_.DK.Src.nes' {H : Hp} {s c p : Addr} {n : Nat} (S : Src H s c n) (h : H p = none) : p ≠ s ∧ p ≠ c := by
  obtain ⟨_, ks, t, e1, e2, _⟩ := S
  exact ⟨(ne_of_none e1 h).symm, (ne_of_none e2 h).symm⟩
theorem ex_full (H : Hp) (M : List Addr) : Ex (mi H M) H := fun a o h => (mi_some h).2
theorem ex_mi {H H' : Hp} {M : List Addr} (e : Ex H H') : Ex (mi H M) (mi H' M) := fun a o h => mi_of (mi_some h).1 (e a o (mi_some h).2)
theorem exM_mi {H H' : Hp} {M : List Addr} (e : ExM M H H') : Ex (mi H M) (mi H' M) := fun a o h => mi_of (mi_some h).1 (e a o (mi_some h).1 (mi_some h).2)
theorem ex_less {H : Hp} {M M' : List Addr} (s : ∀ m, m ∈ M → m ∈ M') : Ex (mi H M') (mi H M) := fun a o h => mi_of (fun z => (mi_some h).1 (s a z)) (mi_some h).2
theorem ex_add {H : Hp} {M : List Addr} {p : Addr} (n : H p = none) : Ex (mi H M) (mi H (p :: M)) := fun a o h => by
  obtain ⟨h1, h2⟩ := mi_some h
  refine mi_of (fun z => ?_) h2
  rcases List.mem_cons.mp z with rfl | z
  · rw [n] at h2
    cases h2
  · exact h1 z
section
variable {K : PySem.W.Frag} {H H' : Hp} {M : List Addr}
mutual
theorem dpx (e : Ex H H') : ∀ (d : PyData) (v : V), Dp K H v d → Dp K H' v d
  | .none, _, h => by cases h; exact .non
  | .bool _, _, h => by cases h; exact .bl _
  | .int _, _, h => by cases h; exact .int _
  | .str _, _, h => by cases h; exact .str _
  | .list ds, _, h => by
    cases h with
    | lst h1 h2 => exact .lst (ex_l e h1) (dpxs e ds _ h2)
  | .tuple ds, _, h => by
    cases h with
    | tup h1 h2 => exact .tup (ex_t e h1) (dpxs e ds _ h2)
  | .dict _, _, h => by cases h
theorem dpxs (e : Ex H H') : ∀ (ds : List PyData) (vs : List V), DpAll K H vs ds → DpAll K H' vs ds
  | [], _, h => by cases h; exact .nil
  | d :: ds, _, h => by
    cases h with
    | cons h1 h2 => exact .cons (dpx e d _ h1) (dpxs e ds _ h2)
end
end
abbrev Dm (K : PySem.W.Frag) (M : List Addr) (H : Hp) (v : V) (d : PyData) : Prop := Dp K (mi H M) v d
abbrev Dms (K : PySem.W.Frag) (M : List Addr) (H : Hp) (vs : List V) (ds : List PyData) : Prop := DpAll K (mi H M) vs ds
section
variable {K : PySem.W.Frag} {H H' : Hp} {M M' : List Addr} {v : V} {d : PyData} {vs : List V} {ds : List PyData}
theorem dm_ex (e : Ex H H') (h : Dm K M H v d) : Dm K M H' v d := dpx (ex_mi e) d v h
theorem dms_ex (e : Ex H H') (h : Dms K M H vs ds) : Dms K M H' vs ds := dpxs (ex_mi e) ds vs h
theorem dm_exM (e : ExM M H H') (h : Dm K M H v d) : Dm K M H' v d := dpx (exM_mi e) d v h
theorem dms_exM (e : ExM M H H') (h : Dms K M H vs ds) : Dms K M H' vs ds := dpxs (exM_mi e) ds vs h
theorem dm_add {p : Addr} (n : H p = none) (h : Dm K M H v d) : Dm K (p :: M) H v d := dpx (ex_add n) d v h
theorem dms_add {p : Addr} (n : H p = none) (h : Dms K M H vs ds) : Dms K (p :: M) H vs ds := dpxs (ex_add n) ds vs h
theorem dm_less {p : Addr} (h : Dm K (p :: M) H v d) : Dm K M H v d := dpx (ex_less fun m hm => List.mem_cons_of_mem p hm) d v h
theorem dms_less {p : Addr} (h : Dms K (p :: M) H vs ds) : Dms K M H vs ds := dpxs (ex_less fun m hm => List.mem_cons_of_mem p hm) ds vs h
theorem dm_full (h : Dm K M H v d) : Dp K H v d := dpx (ex_full H M) d v h
theorem dms_full (h : Dms K M H vs ds) : DpAll K H vs ds := dpxs (ex_full H M) ds vs h
theorem dm_none (h : Dp K H v d) : Dm K [] H v d := dpx (fun a o q => mi_of (by simp) q) d v h
theorem dpa_len : ∀ {vs : List V} {ds : List PyData}, DpAll K H vs ds → vs.length = ds.length
  | _, _, .nil => rfl
  | _, _, .cons _ t => congrArg (· + 1) (dpa_len t)
theorem dpa_get : ∀ {vs : List V} {ds : List PyData} {i : Nat} {d : PyData}, DpAll K H vs ds → ds[i]? = some d → ∃ v, vs[i]? = some v ∧ Dp K H v d
  | _, _, _, _, .nil, e => by simp at e
  | _, _, 0, _, .cons r _, e => by
    simp at e
    subst e
    exact ⟨_, rfl, r⟩
  | _, _, i + 1, d, .cons _ t, e => by
    obtain ⟨v, h1, h2⟩ := dpa_get (i := i) (d := d) t (by simpa using e)
    exact ⟨v, by simpa using h1, h2⟩
theorem dpa_get' : ∀ {vs : List V} {ds : List PyData} {i : Nat} {v : V}, DpAll K H vs ds → vs[i]? = some v → ∃ d, ds[i]? = some d ∧ Dp K H v d
  | _, _, _, _, .nil, e => by simp at e
  | _, _, 0, _, .cons r _, e => by
    simp at e
    subst e
    exact ⟨_, rfl, r⟩
  | _, _, i + 1, d, .cons _ t, e => by
    obtain ⟨v, h1, h2⟩ := dpa_get' (i := i) t (by simpa using e)
    exact ⟨v, by simpa using h1, h2⟩
theorem dpa_at {i : Int} (h : DpAll K H vs ds) (e : atI ds i = some d) : ∃ v, atI vs i = some v ∧ Dp K H v d := by
  unfold atI at e ⊢
  rw [dpa_len h]
  cases q : ixN ds.length i with
  | none => rw [q] at e; cases e
  | some j =>
    rw [q] at e
    exact dpa_get h e
theorem dpa_app : ∀ {vs us : List V} {ds es : List PyData}, DpAll K H vs ds → DpAll K H us es → DpAll K H (vs ++ us) (ds ++ es)
  | _, _, _, _, .nil, s => s
  | _, _, _, _, .cons r t, s => .cons r (dpa_app t s)
theorem dpa1 {d : PyData} (h : DpAll K H vs [d]) : ∃ v, vs = [v] ∧ Dp K H v d := by
  cases h with | cons h1 h2 => cases h2; exact ⟨_, rfl, h1⟩
theorem dpa2 {d e : PyData} (h : DpAll K H vs [d, e]) : ∃ v u, vs = [v, u] ∧ Dp K H v d ∧ Dp K H u e := by
  cases h with | cons h1 h2 => obtain ⟨u, rfl, h3⟩ := dpa1 h2; exact ⟨_, u, rfl, h1, h3⟩
theorem dpa3 {d e f : PyData} (h : DpAll K H vs [d, e, f]) : ∃ v u t, vs = [v, u, t] ∧ Dp K H v d ∧ Dp K H u e ∧ Dp K H t f := by
  cases h with | cons h1 h2 => obtain ⟨u, t, rfl, h4, h3⟩ := dpa2 h2; exact ⟨_, u, t, rfl, h1, h4, h3⟩
theorem dpInt {v : V} {i : Int} (h : Dp K H v (.int i)) : v = .int i := by cases h; rfl
theorem dpStr {v : V} {x : Str} (h : Dp K H v (.str x)) : v = .str x := by cases h; rfl
/-- the value of a scalar datum -/
def scV : PyData → Option V
  | .none => some .non
  | .bool b => some (.bl b)
  | .int i => some (.int i)
  | .str x => some (.str x)
  | _ => none
theorem sc_val (h : Dp K H v d) {u : V} (e : scV d = some u) : v = u := by
  cases h <;> first | (cases e; rfl) | cases e
theorem sc_dp {u : V} (e : scV d = some u) : Dp K H u d := by
  cases d <;> first | (cases e; constructor) | cases e
end
def DE (K : PySem.W.Frag) (M : List Addr) (te : TE) (σ : L2.St) (H : Hp) (d : PyData) : Prop := ∀ H1, Ex H H1 → ∀ Q : VK, (∀ v H2, Ex H1 H2 → Dm K M H2 v d → Q v H2) → te σ H1 Q
def DA (K : PySem.W.Frag) (M : List Addr) (ta : TA) (σ : L2.St) (H : Hp) (ds : List PyData) : Prop := ∀ H1, Ex H H1 → ∀ Q : List V → Hp → Prop, (∀ vs H2, Ex H1 H2 → Dms K M H2 vs ds → Q vs H2) → ta σ H1 Q
/-- a new list -/
def DL (K : PySem.W.Frag) (M : List Addr) (te : TE) (σ : L2.St) (H : Hp) (ds : List PyData) : Prop := ∀ H1, Ex H H1 → ∀ Q : VK, (∀ p vs H2, H1 p = none → Ex H1 H2 → H2 p = some (.lst vs) → Dms K (p :: M) H2 vs ds → Q (.ref p) H2) → te σ H1 Q
section
variable {K : PySem.W.Frag} {M : List Addr} {σ : L2.St} {H H' : Hp} {te ta tb : TE} {t : TA} {d e : PyData} {ds es : List PyData} {v : V}
theorem DE.mono (x : Ex H H') (h : DE K M te σ H d) : DE K M te σ H' d := fun H1 a Q q => h H1 (x.trans a) Q q
theorem DA.mono (x : Ex H H') (h : DA K M t σ H ds) : DA K M t σ H' ds := fun H1 a Q q => h H1 (x.trans a) Q q
theorem de_ev (h : Ev te σ H v) (hd : Dm K M H v d) : DE K M te σ H d := fun H1 x Q q => h H1 x Q fun H2 x2 => q v H2 x2 (dm_ex (x.trans x2) hd)
theorem de_v {i : Nat} (hd : Dm K M H v d) (h : σ[i]? = some (some v)) : DE K M (tVar i) σ H d := de_ev (ev_var h) hd
theorem de_sc {u : V} (h : Ev te σ H u) (e : scV d = some u) : DE K M te σ H d := fun H1 x Q q => h H1 x Q fun H2 x2 => q u H2 x2 (sc_dp e)
theorem ev_sc {u : V} (h : DE K M te σ H d) (e : scV d = some u) : Ev te σ H u := fun H1 x Q q => h H1 x Q fun v H2 x2 hd => by
  rw [sc_val hd e]
  exact q H2 x2
theorem da_nil : DA K M tNil σ H [] := fun H1 _ _ q => q [] H1 (Ex.refl H1) .nil
theorem da_cons (h : DE K M te σ H d) (hr : DA K M t σ H ds) : DA K M (tCons te t) σ H (d :: ds) := fun H1 x _ q =>
  h H1 x _ fun v H2 x2 hd => hr H2 (x.trans x2) _ fun vs H3 x3 hs => q _ H3 (x2.trans x3) (.cons (dm_ex x3 hd) hs)
theorem da_dl (h : DL K M te σ H es) (hM : Dom M H) (hr : DA K M t σ H ds) : DA K M (tCons te t) σ H (.list es :: ds) := fun H1 x _ q =>
  h H1 x _ fun p vs H2 n x2 hp hd => hr H2 (x.trans x2) _ fun us H3 x3 hs => q _ H3 (x2.trans x3)
    (.cons (.lst (sq_of (mi_of ((hM.ex x).nin n) (x3 _ _ hp))) (dms_ex x3 (dms_less hd))) hs)
theorem de_tup (hM : Dom M H) (h : DA K M t σ H ds) (hl : ds.length ≤ 1000) : DE K M (tTup t) σ H (.tuple ds) := fun H1 x _ q =>
  h H1 x _ fun vs H2 x2 hd => ⟨sz_of (by rw [dpa_len hd]; omega), fun p hp => q _ _ (x2.trans (Ex.new hp)) (.tup (st_of (mi_of ((hM.ex (x.trans x2)).nin hp) upd_same)) (dms_ex (Ex.new hp) hd))⟩
theorem dl_lst (h : DA K M t σ H ds) (hl : ds.length ≤ 1000) : DL K M (tLst t) σ H ds := fun H1 x _ q =>
  h H1 x _ fun vs H2 x2 hd => ⟨sz_of (by rw [dpa_len hd]; omega), fun p hp => q p vs _ (fresh_back x2 hp) (x2.trans (Ex.new hp)) upd_same (dms_ex (Ex.new hp) (dms_add hp hd))⟩
theorem de_dl (hM : Dom M H) (h : DL K M te σ H ds) : DE K M te σ H (.list ds) := fun H1 x Q q =>
  h H1 x Q fun p vs H2 n x2 hp hd => q _ H2 x2 (.lst (sq_of (mi_of ((hM.ex x).nin n) hp)) (dms_less hd))
/-- t[i], xs[i] -/
theorem de_ixT {i : Int} (ha : DE K M ta σ H (.tuple ds)) (hb : Ev tb σ H (.int i)) (e : atI ds i = some d) : DE K M (tOp (rIxT K) ta tb) σ H d := fun H1 x Q q =>
  ha H1 x _ fun v H2 x2 hd => hb H2 (x.trans x2) _ fun H3 x3 => by
    have hd3 := dm_ex x3 hd
    cases hd3 with
    | tup hs hv =>
      rename_i p xs
      obtain ⟨u, hu, du⟩ := dpa_at hv e
      exact ⟨p, xs, i, u, rfl, rfl, ex_t (ex_full _ _) hs, hu, q u H3 (x2.trans x3) du⟩
theorem de_ixL {i : Int} (ha : DE K M ta σ H (.list ds)) (hb : Ev tb σ H (.int i)) (e : atI ds i = some d) : DE K M (tOp (rIxL K) ta tb) σ H d := fun H1 x Q q =>
  ha H1 x _ fun v H2 x2 hd => hb H2 (x.trans x2) _ fun H3 x3 => by
    have hd3 := dm_ex x3 hd
    cases hd3 with
    | lst hs hv =>
      rename_i p xs
      obtain ⟨u, hu, du⟩ := dpa_at hv e
      exact ⟨p, xs, i, u, rfl, rfl, ex_l (ex_full _ _) hs, hu, q u H3 (x2.trans x3) du⟩
/-- len -/
theorem ev_lenD {ys : List PyData} (ha : DE K M ta σ H d) (e : d = .tuple ys ∨ d = .list ys) : Ev (tCB (rLenS K) (tCons ta tNil)) σ H (.int (ys.length : Int)) := fun H1 x Q q =>
  ha H1 x _ fun v H2 x2 hd => by
    have hf := dm_full hd
    rcases e with rfl | rfl
    · cases hf with
      | tup hs hv =>
        refine ⟨_, _, rfl, .inr hs, ?_⟩
        rw [dpa_len hv]
        exact q H2 x2
    · cases hf with
      | lst hs hv =>
        refine ⟨_, _, rfl, .inl hs, ?_⟩
        rw [dpa_len hv]
        exact q H2 x2
/-- a call of a def that gives a datum -/
def SpD (K : PySem.W.Frag) (M : List Addr) (sp : Sp) (ds : List PyData) (H : Hp) (r : PyData) : Prop := ∀ H1, Ex H H1 → ∀ vs, Dms K M H1 vs ds → ∀ Q : VK, (∀ v H2, Ex H1 H2 → Dm K M H2 v r → Q v H2) → ∀ E : XK, sp vs H1 Q E
theorem de_call {sp : Sp} {E : XK} {r : PyData} (h : DA K M t σ H ds) (hs : SpD K M sp ds H r) : DE K M (tCall sp [] E t) σ H r := fun H1 x Q q =>
  h H1 x _ fun vs H2 x2 hd => by
    rw [List.append_nil]
    exact hs H2 (x.trans x2) vs hd Q (fun v H3 x3 h3 => q v H3 (x2.trans x3) h3) E
/-- the promise of a def upon data: R ds r -/
def spR (K : PySem.W.Frag) (R : List PyData → PyData → Prop) : Sp := fun vs H Q _ => ∃ M ds r, Dom M H ∧ Dms K M H vs ds ∧ R ds r ∧ ∀ v H', Ex H H' → Dm K M H' v r → Q v H'
theorem spD_R {R : List PyData → PyData → Prop} {r : PyData} (hM : Dom M H) (h : R ds r) : SpD K M (spR K R) ds H r := fun H1 x vs hv Q q E => ⟨M, ds, r, hM.ex x, hv, h, q⟩
theorem de_callR {R : List PyData → PyData → Prop} {E : XK} {r : PyData} (hM : Dom M H) (h : DA K M t σ H ds) (hR : R ds r) : DE K M (tCall (spR K R) [] E t) σ H r := de_call h (spD_R hM hR)
/-- .. a new list of data -/
def spRL (K : PySem.W.Frag) (R : List PyData → List PyData → Prop) : Sp := fun vs H Q _ => ∃ M ds rs, Dom M H ∧ Dms K M H vs ds ∧ R ds rs ∧ ∀ p us H', H p = none → Ex H H' → H' p = some (.lst us) → Dms K (p :: M) H' us rs → Q (.ref p) H'
theorem dl_callR {R : List PyData → List PyData → Prop} {E : XK} {rs : List PyData} (hM : Dom M H) (h : DA K M t σ H ds) (hR : R ds rs) : DL K M (tCall (spRL K R) [] E t) σ H rs := fun H1 x Q q =>
  h H1 x _ fun vs H2 x2 hd => by
    rw [List.append_nil]
    exact ⟨M, ds, rs, hM.ex (x.trans x2), hd, hR, fun p us H3 n x3 hp h3 => q p us H3 (fresh_back x2 n) (x2.trans x3) hp h3⟩
/-- isinstance -/
def tyN : PyData → String
  | .none => "NoneType" | .bool _ => "bool" | .int _ => "int" | .str _ => "str" | .list _ => "list" | .tuple _ => "tuple" | .dict _ => "dict"
theorem tyx_of (h : Dp K H v d) : TyX K H v (.type (tyN d)) := by
  cases h with
  | non => exact .base .non
  | bl b => exact .base (.bl b)
  | int i => exact .base (.int i)
  | str x => exact .base (.str x)
  | lst hs _ =>
    rcases hs with (h | ⟨o, h⟩) | ⟨o, its, n, h, c, _⟩
    · exact .base (.lst h)
    · exact .base (.frz h)
    · exact .kList h c
  | tup hs _ =>
    rcases hs with (h | ⟨o, h⟩) | ⟨o, its, n, h, c, _⟩
    · exact .base (.tup h)
    · exact .fTuple h
    · exact .kTuple h c
theorem ev_isi {T : String} {b : Bool} (h : DE K M ta σ H d) (hb : kitB (tyN d) T = some b) : Ev (tCB (rIsi K) (tCons ta (tCons (tC (.ty T)) tNil))) σ H (.bl b) := fun H1 x Q q =>
  h H1 x _ fun v H2 x2 hd => ⟨v, .ty T, .type (tyN d), .type T, b, rfl, .ty T, tyx_of (dm_full hd), kit_ty hb, q H2 x2⟩
/-! ### statements -/
variable {D : Ends} {tz : TS} {i : Nat}
theorem q_asgD (h : DE K M te σ H d) (k : ∀ v H1, Ex H H1 → Dm K M H1 v d → tz D (σ.set i (some v)) H1) : tSeq (tAsg te (gName i)) tz D σ H := h H (Ex.refl H) _ fun v H1 x hd => k v H1 x hd
theorem q_asgDL (h : DL K M te σ H ds) (k : ∀ p vs H1, H p = none → Ex H H1 → H1 p = some (.lst vs) → Dms K (p :: M) H1 vs ds → tz D (σ.set i (some (.ref p))) H1) : tSeq (tAsg te (gName i)) tz D σ H := h H (Ex.refl H) _ fun p vs H1 n x hp hd => k p vs H1 n x hp hd
theorem s_retD (h : DE K M te σ H d) (k : ∀ v H1, Ex H H1 → Dm K M H1 v d → D.rt v H1) : tRet te D σ H := h H (Ex.refl H) _ fun v H1 x hd => k v H1 x hd
theorem s_retDL (h : DL K M te σ H ds) (k : ∀ p vs H1, H p = none → Ex H H1 → H1 p = some (.lst vs) → Dms K (p :: M) H1 vs ds → D.rt (.ref p) H1) : tRet te D σ H := h H (Ex.refl H) _ fun p vs H1 n x hp hd => k p vs H1 n x hp hd
/-! ### comprehensions -/
/-- [e for x in t], t a tuple of (l.map enc) -/
theorem dl_lcT {α : Type} {l : List α} {enc f : α → PyData} {tl : TE} {j : Nat} {ws : List Nat} (hM : Dom M H) (h : DE K M tl σ H (.tuple (l.map enc))) (hl : l.length ≤ 1000) (hw : ∀ x, wipe ((wipe σ ws).set j (some x)) ws = wipe σ ws)
    (he : ∀ a ∈ l, ∀ x H1 D, H D = none → Ex H H1 → Dom (D :: M) H1 → Dm K (D :: M) H1 x (enc a) → DE K (D :: M) te ((wipe σ ws).set j (some x)) H1 (f a)) : DL K M (tLc (iTup K tl) (gName j) tYes te ws) σ H (l.map f) := fun H0 x0 Q q => h H0 x0 _ fun v H1 x1 hd => by
  have hd' := hd
  cases hd' with
  | tup hs hv =>
  rename_i a xs
  refine ⟨a, rfl, ⟨xs, ex_t (ex_full _ _) hs⟩, fun Dl hD => ?_⟩
  have hD0 : H0 Dl = none := fresh_back x1 hD
  have hDH : H Dl = none := fresh_back x0 hD0
  have lenx : xs.length = l.length := by rw [dpa_len hv, List.length_map]
  refine lc_tup (xs := xs) (fun i H' => Ex H1 H' ∧ ∃ acc, H' Dl = some (.lst acc) ∧ Dms K (Dl :: M) H' acc ((l.take i).map f)) ⟨Ex.new hD, [], upd_same, .nil⟩ (fun i H' _ p => ex_t p.1 (ex_t (ex_full _ _) hs)) (fun i y H' hy p => ⟨hw y, ?_⟩) (fun H' p => ?_)
  · obtain ⟨p1, acc, p2, p3⟩ := p
    show te ((wipe σ ws).set j (some y)) H' _
    obtain ⟨ey, hey, dy⟩ := dpa_get' hv hy
    rw [List.getElem?_map] at hey
    cases hla : l[i]? with
    | none => rw [hla] at hey; cases hey
    | some la =>
      rw [hla] at hey
      obtain rfl : enc la = ey := Option.some.inj hey
      have hdom : Dom (Dl :: M) H' := ((hM.ex (x0.trans x1)).ex p1).cons (by rw [p2]; exact fun z => nomatch z)
      refine he la (List.mem_of_getElem? hla) y H' Dl hDH ((x0.trans x1).trans p1) hdom (dm_ex p1 (dm_add hD dy)) H' (Ex.refl _) _ fun w H2 x2 hw2 => ?_
      have eM : ExM (Dl :: M) H2 (upd H2 Dl (.lst (acc ++ [w]))) := ExM.mut (by simp)
      refine ⟨acc, x2 _ _ p2, sz_lt (by have := dpa_len p3; rw [List.length_map, List.length_take] at this; omega), (p1.trans x2).mut hD, acc ++ [w], upd_same, ?_⟩
      have e1 : (l.take (i + 1)).map f = (l.take i).map f ++ [f la] := by
        rw [List.take_add_one, hla, List.map_append]
        rfl
      rw [e1]
      exact dpa_app (dms_exM eM (dms_ex x2 p3)) (.cons (dm_exM eM hw2) .nil)
  · obtain ⟨p1, acc, p2, p3⟩ := p
    rw [lenx, List.take_length] at p3
    exact q Dl acc H' hD0 (x1.trans p1) p2 p3
end
/-! ### further words -/
section
variable {K : PySem.W.Frag} {M : List Addr} {σ : L2.St} {H : Hp} {ta tb tc : TE} {X : Cx}
theorem pe_globI {x : Str} {i : Int} {pos : Pos} (hg : Gl X x) (hm : ∃ t, X.mg x = some (.int i t)) (hd : (x == ("__debug__" : Str)) = false := by decide) : PE X (.Name x pos) (tC (.int i)) := by
  obtain ⟨t, hm⟩ := hm
  exact pe_glob hg hm ⟨t, rfl⟩ hd
theorem pe_globS {x : Str} {z : Str} {pos : Pos} (hg : Gl X x) (hm : ∃ t, X.mg x = some (.str z t)) (hd : (x == ("__debug__" : Str)) = false := by decide) : PE X (.Name x pos) (tC (.str z)) := by
  obtain ⟨t, hm⟩ := hm
  exact pe_glob hg hm ⟨t, rfl⟩ hd
/-- a statement that is not come to -/
theorem ps_never {st : Stmt} : PS X st (fun _ _ _ => False) := ⟨fun _ _ _ _ _ _ h => h.elim⟩
theorem ev_chain {f g : Int → Int → Bool} {x y z : Int} (ha : Ev ta σ H (.int x)) (hb : Ev tb σ H (.int y)) (hc : f x y = true → Ev tc σ H (.int z)) :
    Ev (tChain (rI0 fun i j => .bl (f i j)) (rI0 fun i j => .bl (g i j)) ta tb tc) σ H (.bl (f x y && g y z)) := fun H1 e Q q =>
  ha H1 e _ fun H2 e2 => hb H2 (e.trans e2) _ fun H3 e3 => ⟨x, y, rfl, rfl, f x y, rfl, by
    cases hf : f x y with
    | true =>
      rw [if_pos rfl]
      exact hc hf H3 ((e.trans e2).trans e3) _ fun H4 e4 => ⟨y, z, rfl, rfl, by
        have q' := q H4 ((e2.trans e3).trans e4)
        rw [hf] at q'
        exact q'⟩
    | false =>
      rw [if_neg Bool.false_ne_true]
      have q' := q H3 (e2.trans e3)
      rw [hf] at q'
      exact q'⟩
def isI : PyData → Bool
  | .int _ => true
  | _ => false
def isB : PyData → Bool
  | .bool _ => true
  | _ => false
def isTup : PyData → Bool
  | .tuple _ => true
  | _ => false
theorem kit_int (d : PyData) : kitB (tyN d) "int" = some (isI d || isB d) := by cases d <;> (simp only [tyN, isI, isB, isTup]; decide +kernel)
theorem kit_bool (d : PyData) : kitB (tyN d) "bool" = some (isB d) := by cases d <;> (simp only [tyN, isI, isB, isTup]; decide +kernel)
theorem kit_tuple (d : PyData) : kitB (tyN d) "tuple" = some (isTup d) := by cases d <;> (simp only [tyN, isI, isB, isTup]; decide +kernel)
theorem isI_eq (d : PyData) : ((isI d || isB d) && !isB d) = isI d := by cases d <;> rfl
theorem et_truL {p : Addr} {xs : List V} (ha : Ev ta σ H (.ref p)) (h : SqL K H p xs) : EvT (fun σ H Q => ta σ H fun x H' => ∃ k, TruV K x H' k ∧ Q k H') σ H (!xs.isEmpty) := fun H1 e Q q =>
  ha H1 e _ fun H2 e2 => ⟨!xs.isEmpty, .inl ⟨xs, ex_l (e.trans e2) h, rfl⟩, q H2 e2⟩
theorem dpa_snoc {d : PyData} : ∀ {ds : List PyData} {vs : List V}, DpAll K H vs (ds ++ [d]) → ∃ us y, vs = us ++ [y] ∧ DpAll K H us ds ∧ Dp K H y d
  | [], vs, h => by
    obtain ⟨v, rfl, hv⟩ := dpa1 h
    exact ⟨[], v, rfl, .nil, hv⟩
  | e :: ds, vs, h => by
    cases h with
    | cons h1 h2 =>
      obtain ⟨us, y, rfl, h3, h4⟩ := dpa_snoc h2
      exact ⟨_ :: us, y, rfl, .cons h1 h3, h4⟩
/-- f-strings -/
theorem ev_fmtS {y : Str} (h : Ev ta σ H (.str y)) (hl : y.length ≤ 100000) : Ev (tFmt ta) σ H (.str y) := fun H1 e Q q => h H1 e _ fun H2 e2 => .inl ⟨y, rfl, sz_of hl, q H2 e2⟩
theorem ev_fmtI {i : Int} (h : Ev ta σ H (.int i)) (hl : i.natAbs.log2 < 1920) : Ev (tFmt ta) σ H (.str (toString i)) := fun H1 e Q q => h H1 e _ fun H2 e2 => .inr ⟨i, rfl, hl, q H2 e2⟩
theorem js_all : ∀ {ts : List TE} {ys : List (List Nat)} {acc : List Nat}, Paired (fun (t : TE) (y : List Nat) => Ev t σ H (.str (SX.S y))) ts ys → (acc ++ ys.flatten).length ≤ 100000 →
    ∀ H1, Ex H H1 → ∀ Q : Str → Hp → Prop, (∀ H2, Ex H1 H2 → Q (SX.S (acc ++ ys.flatten)) H2) → tJs ts (SX.S acc) σ H1 Q
  | _, _, acc, .nil, _, H1, e, Q, q => by
    have q' := q H1 (Ex.refl _)
    simp only [List.flatten_nil, List.append_nil] at q'
    exact q'
  | _, _, acc, .cons (b := y) (l₂ := ys) r t, hl, H1, e, Q, q => by
    refine r H1 e _ fun H2 e2 => ⟨SX.S y, rfl, ?_, ?_⟩
    · rw [SX.S_cat, SX.S_len]
      refine sz_of ?_
      simp only [List.flatten_cons, List.length_append] at hl ⊢
      omega
    · rw [SX.S_cat]
      refine js_all (acc := acc ++ y) t ?_ H2 (e.trans e2) Q fun H3 e3 => ?_
      · rw [List.append_assoc, ← List.flatten_cons]
        exact hl
      · rw [List.append_assoc, ← List.flatten_cons]
        exact q H3 (e2.trans e3)
theorem ev_joined {ts : List TE} {ys : List (List Nat)} (h : Paired (fun (t : TE) (y : List Nat) => Ev t σ H (.str (SX.S y))) ts ys) (hl : ys.flatten.length ≤ 100000) :
    Ev (fun σ H Q => tJs ts Str.empty σ H fun out H1 => Q (.str out) H1) σ H (.str (SX.S ys.flatten)) := fun H1 e Q q =>
  js_all (acc := []) h hl H1 e _ fun H2 e2 => q H2 e2
/-- a text's item -/
theorem ev_ixS {z : List Nat} {i : Int} {c : Nat} (ha : Ev ta σ H (.str (SX.S z))) (hb : Ev tb σ H (.int i)) (hl : z.length ≤ 100000) (h : atI z i = some c) : Ev (tOp rIxS ta tb) σ H (.str (SX.S [c])) :=
  ev_op ha hb (rv_ixS (by rw [SX.S_len]; exact hl) h)
theorem dpa_strs {α : Type} {g : α → Str} : ∀ {l : List α} {vs : List V}, DpAll K H vs (l.map fun a => PyData.str (g a)) → vs = l.map fun a => V.str (g a)
  | [], _, h => by cases h; rfl
  | a :: l, _, h => by
    cases h with
    | cons h1 h2 =>
      obtain rfl := dpStr h1
      rw [dpa_strs h2]
      rfl
/-- sep.join([..]), the list new -/
theorem ev_join {sep : List Nat} {cs : List (List Nat)} (ho : Ev ta σ H (.str (SX.S sep))) (he : EvL tb σ H (cs.map fun y => V.str (SX.S y))) (hl : (cs.map List.length).sum + cs.length * sep.length ≤ 1000000) :
    Ev (tM1 (fun x xs H Q => ∃ a p, ∃ ys : List Str, x = .str a ∧ xs = [.ref p] ∧ (SqL K H p (ys.map V.str) ∨ SqT K H p (ys.map V.str)) ∧ (ys.map (·.length)).sum + ys.length * a.length ≤ 16777216 ∧ Q (.str (PySem.Txt.join a ys)) H) ta tb) σ H (.str (SX.S (TL.joinL sep cs))) := fun H1 e Q q =>
  ho H1 e _ fun H2 e2 => ⟨⟨_, rfl⟩, he H2 (e.trans e2) _ fun p H3 _ e3 hp => ⟨SX.S sep, p, cs.map SX.S, rfl, rfl, .inl (sq_of (by rw [hp, List.map_map]; rfl)), by rw [SX.lens, List.length_map, SX.S_len]; have e0 : (cs.map fun x => x.length).sum = (cs.map List.length).sum := rfl; omega, by
    rw [SX.join_S]
    exact q H3 (e2.trans e3)⟩⟩
end
end DD

set_option Elab.async false
set_option linter.all false
set_option maxRecDepth 100000
set_option maxHeartbeats 2000000
namespace DK
open PySem PySem.Spec PyProof.Rows L2 Evl
section
variable {K : PySem.W.Frag} {H H' : Hp}
mutual
theorem dp_ex (e : Ex H H') : ∀ (d : PyData) (v : V), Dp K H v d → Dp K H' v d
  | .none, _, h => by cases h; exact .non
  | .bool _, _, h => by cases h; exact .bl _
  | .int _, _, h => by cases h; exact .int _
  | .str _, _, h => by cases h; exact .str _
  | .list ds, _, h => by
    cases h with
    | lst h1 h2 => exact .lst (ex_l e h1) (dp_exAll e ds _ h2)
  | .tuple ds, _, h => by
    cases h with
    | tup h1 h2 => exact .tup (ex_t e h1) (dp_exAll e ds _ h2)
  | .dict _, _, h => by cases h
theorem dp_exAll (e : Ex H H') : ∀ (ds : List PyData) (vs : List V), DpAll K H vs ds → DpAll K H' vs ds
  | [], _, h => by cases h; exact .nil
  | d :: ds, _, h => by
    cases h with
    | cons h1 h2 => exact .cons (dp_ex e d _ h1) (dp_exAll e ds _ h2)
end
mutual
theorem eqv_same : ∀ d : PyData, d.canLay0 = true → PyData.eqv d d = true
  | .none, _ => rfl
  | .bool b, _ => by simp [PyData.eqv]
  | .int i, _ => by simp [PyData.eqv]
  | .str x, _ => by simp [PyData.eqv]
  | .list xs, h => by
    simp only [PyData.eqv]
    exact eqv_sameAll xs (by simpa [PyData.canLay0] using h)
  | .tuple xs, h => by
    simp only [PyData.eqv]
    exact eqv_sameAll xs (by simpa [PyData.canLay0] using h)
  | .dict _, h => by simp [PyData.canLay0] at h
theorem eqv_sameAll : ∀ ds : List PyData, PyData.canLayAll0 ds = true → PyData.eqvAll ds ds = true
  | [], _ => rfl
  | d :: ds, h => by
    have h' : d.canLay0 = true ∧ PyData.canLayAll0 ds = true := by simpa [PyData.canLayAll0] using h
    simp only [PyData.eqvAll]
    rw [eqv_same d h'.1, eqv_sameAll ds h'.2] <;> rfl
end
theorem rv_neD {x y : V} {d e : PyData} (hd : Dp K H x d) (he : Dp K H y e) (sd : SeqAt.shaped d = true) (se : SeqAt.shaped e = true) : RV (rNeD K) x y H (.bl (!PyData.eqv d e)) :=
  fun H1 e1 _ q => ⟨d, e, dp_ex e1 d _ hd, dp_ex e1 e _ he, sd, se, q H1 (Ex.refl H1)⟩
theorem rv_eqD {x y : V} {d e : PyData} (hd : Dp K H x d) (he : Dp K H y e) (sd : SeqAt.shaped d = true) (se : SeqAt.shaped e = true) : RV (rEqD K) x y H (.bl (PyData.eqv d e)) :=
  fun H1 e1 _ q => ⟨d, e, dp_ex e1 d _ hd, dp_ex e1 e _ he, sd, se, q H1 (Ex.refl H1)⟩
theorem rv_neS {x y : V} {d : PyData} (hd : Dp K H x d) (he : Dp K H y d) (sd : SeqAt.shaped d = true) : RV (rNeD K) x y H (.bl false) := by
  have h := rv_neD hd he sd sd
  rw [eqv_same d (SeqAt.canLay_of_shaped sd)] at h
  exact h
theorem dp_bools : ∀ bs : List Bool, DpAll K H (bs.map V.bl) (bs.map PyData.bool)
  | [] => .nil
  | b :: bs => .cons (.bl b) (dp_bools bs)
theorem shaped_bools (bs : List Bool) : SeqAt.shaped (.list (bs.map PyData.bool)) = true := by
  have h1 : ∀ bs : List Bool, PyData.canLayAll0 (bs.map PyData.bool) = true ∧ PyData.depthAll (bs.map PyData.bool) = 0 := fun bs => by
    induction bs with
    | nil => exact ⟨rfl, rfl⟩
    | cons b bs ih => simp [PyData.canLayAll0, PyData.canLay0, PyData.depthAll, PyData.depth, ih.1, ih.2]
  simp [SeqAt.shaped, PyData.canLay0, PyData.depth, (h1 bs).1, (h1 bs).2]
end
end DK

set_option Elab.async false
set_option linter.all false
set_option maxRecDepth 100000
set_option maxHeartbeats 1000000
/-! Terms as data. -/
namespace TM
open PySem PySem.Spec PyProof.Rows L2 Evl DK DD
inductive Hd where | least | most | rank (k : Nat)
inductive Trm where | price (s : Nat) (a : Int) | plain (n : Int) | node (h : Hd) (ps : List Trm)
mutual
def enc : Trm → PyData
  | .price s a => .tuple [.str "price", .int s, .int a]
  | .plain n => .tuple [.str "plain", .int n]
  | .node .least ps => .tuple [.str "least", .tuple (encs ps)]
  | .node .most ps => .tuple [.str "most", .tuple (encs ps)]
  | .node (.rank k) ps => .tuple [.str "rank", .int k, .tuple (encs ps)]
def encs : List Trm → List PyData
  | [] => []
  | t :: ts => enc t :: encs ts
end
theorem encs_map : ∀ ts : List Trm, encs ts = ts.map enc
  | [] => by simp [encs]
  | t :: ts => by simp [encs, encs_map ts]
mutual
def cnt : Trm → Nat
  | .price _ _ => 1
  | .plain _ => 1
  | .node _ ps => cnts ps + 1
def cnts : List Trm → Nat
  | [] => 0
  | t :: ts => cnt t + cnts ts
end
mutual
def dep : Trm → Nat
  | .price _ _ => 1
  | .plain _ => 1
  | .node _ ps => deps ps + 1
def deps : List Trm → Nat
  | [] => 0
  | t :: ts => max (dep t) (deps ts)
end
def big30 (n : Int) : Prop := -(10 ^ 30) ≤ n ∧ n ≤ 10 ^ 30
def hdOk (h : Hd) (m : Nat) : Prop := match h with
  | .rank k => 1 ≤ k ∧ k ≤ m
  | _ => True
mutual
/-- by the numbers of the document, but for the bounds of levels and terms -/
def wf : Trm → Prop
  | .price s a => s ≤ 5 ∧ big30 a
  | .plain n => big30 n
  | .node h ps => 1 ≤ ps.length ∧ ps.length ≤ 6 ∧ hdOk h ps.length ∧ wfs ps
def wfs : List Trm → Prop
  | [] => True
  | t :: ts => wf t ∧ wfs ts
end
theorem wfs_mem : ∀ {ts : List Trm} {t : Trm}, wfs ts → t ∈ ts → wf t
  | a :: ts, t, h, m => by
    simp only [wfs] at h
    rcases List.mem_cons.mp m with rfl | m
    · exact h.1
    · exact wfs_mem h.2 m
theorem wfs_all : ∀ {ts : List Trm}, (∀ t ∈ ts, wf t) → wfs ts
  | [], _ => by simp [wfs]
  | a :: ts, h => by
    simp only [wfs]
    exact ⟨h a (by simp), wfs_all fun t ht => h t (List.mem_cons_of_mem _ ht)⟩
theorem cnt_pos : ∀ t : Trm, 1 ≤ cnt t
  | .price _ _ => by simp [cnt]
  | .plain _ => by simp [cnt]
  | .node _ ps => by simp [cnt]
theorem dep_pos : ∀ t : Trm, 1 ≤ dep t
  | .price _ _ => by simp [dep]
  | .plain _ => by simp [dep]
  | .node _ ps => by simp [dep]
theorem deps_mem : ∀ {ts : List Trm} {t : Trm}, t ∈ ts → dep t ≤ deps ts
  | a :: ts, t, m => by
    simp only [deps]
    rcases List.mem_cons.mp m with rfl | m
    · omega
    · have := deps_mem m
      omega
theorem cnts_app : ∀ (xs ys : List Trm), cnts (xs ++ ys) = cnts xs + cnts ys
  | [], ys => by simp [cnts]
  | x :: xs, ys => by
    rw [List.cons_append]
    simp only [cnts, cnts_app xs ys]
    omega
def kids : Trm → List Trm
  | .node _ ps => ps
  | _ => []
def leaf : Trm → Bool
  | .node _ _ => false
  | _ => true
theorem cnt_kids (t : Trm) : cnt t = cnts (kids t) + 1 := by
  cases t <;> simp [cnt, kids, cnts]
theorem dep_kids {t u : Trm} (h : u ∈ kids t) : dep u + 1 ≤ dep t := by
  cases t with
  | node h' ps =>
    have := deps_mem (show u ∈ ps from h)
    simp only [dep]
    omega
  | price _ _ => cases h
  | plain _ => cases h
theorem wf_kids {t u : Trm} (w : wf t) (h : u ∈ kids t) : wf u := by
  cases t with
  | node h' ps =>
    simp only [wf] at w
    exact wfs_mem w.2.2.2 h
  | price _ _ => cases h
  | plain _ => cases h
/-- the word a term begins with -/
def word : Trm → Str
  | .price _ _ => "price"
  | .plain _ => "plain"
  | .node .least _ => "least"
  | .node .most _ => "most"
  | .node (.rank _) _ => "rank"
/-- the data of a term's tuple -/
def encL : Trm → List PyData
  | .price s a => [.str "price", .int s, .int a]
  | .plain n => [.str "plain", .int n]
  | .node .least ps => [.str "least", .tuple (ps.map enc)]
  | .node .most ps => [.str "most", .tuple (ps.map enc)]
  | .node (.rank k) ps => [.str "rank", .int k, .tuple (ps.map enc)]
theorem enc_eq (t : Trm) : enc t = .tuple (encL t) := by
  match t with
  | .price s a => simp only [enc, encL]
  | .plain n => simp only [enc, encL]
  | .node .least ps => simp only [enc, encL, encs_map]
  | .node .most ps => simp only [enc, encL, encs_map]
  | .node (.rank k) ps => simp only [enc, encL, encs_map]
theorem encL_word (t : Trm) : atI (encL t) 0 = some (.str (word t)) := by
  match t with
  | .price s a => rfl
  | .plain n => rfl
  | .node .least ps => rfl
  | .node .most ps => rfl
  | .node (.rank k) ps => rfl
theorem encL_kids {t : Trm} (h : leaf t = false) : atI (encL t) (-1) = some (.tuple ((kids t).map enc)) := by
  match t, h with
  | .node .least ps, _ => rfl
  | .node .most ps, _ => rfl
  | .node (.rank k) ps, _ => rfl
theorem leaf_word (t : Trm) : leaf t = (decide (V.str (word t) = V.str "price") || decide (V.str (word t) = V.str "plain")) := by
  match t with
  | .price s a => rfl
  | .plain n => rfl
  | .node .least ps => rfl
  | .node .most ps => rfl
  | .node (.rank k) ps => rfl
theorem leaf_kids {t : Trm} (h : leaf t = true) : kids t = [] := by
  cases t with
  | node h' ps => cases h
  | price _ _ => rfl
  | plain _ => rfl
def num (n : Int) : Bool := decide (-(10 ^ 30) ≤ n) && decide (n ≤ 10 ^ 30)
/-- is it of the form of a term, if its parts are terms -/
def form : Trm → Bool
  | .price s a => (decide ((0 : Int) ≤ (s : Int)) && decide ((s : Int) ≤ 5)) && num a
  | .plain n => num n
  | .node (.rank k) ps => (decide ((1 : Int) ≤ (ps.length : Int)) && decide ((ps.length : Int) ≤ 6)) && (decide ((1 : Int) ≤ (k : Int)) && decide ((k : Int) ≤ (ps.length : Int)))
  | .node _ ps => decide ((1 : Int) ≤ (ps.length : Int)) && decide ((ps.length : Int) ≤ 6)
theorem encL_len (t : Trm) : (encL t).length ≤ 3 ∧ 2 ≤ (encL t).length := by
  match t with
  | .price s a => exact ⟨by simp [encL], by simp [encL]⟩
  | .plain n => exact ⟨by simp [encL], by simp [encL]⟩
  | .node .least ps => exact ⟨by simp [encL], by simp [encL]⟩
  | .node .most ps => exact ⟨by simp [encL], by simp [encL]⟩
  | .node (.rank k) ps => exact ⟨by simp [encL], by simp [encL]⟩
mutual
/-- each term in it has the form -/
def fr : Trm → Bool
  | .price s a => form (.price s a)
  | .plain n => form (.plain n)
  | .node h ps => form (.node h ps) && frs ps
def frs : List Trm → Bool
  | [] => true
  | t :: ts => fr t && frs ts
end
theorem frs_iff : ∀ {ts : List Trm}, frs ts = true ↔ ∀ t ∈ ts, fr t = true
  | [] => by simp [frs]
  | a :: ts => by
    simp only [frs, Bool.and_eq_true, List.mem_cons, forall_eq_or_imp]
    exact and_congr Iff.rfl frs_iff
theorem fr_iff (t : Trm) : fr t = true ↔ form t = true ∧ ∀ u ∈ kids t, fr u = true := by
  cases t with
  | price s a => simp [fr, kids]
  | plain n => simp [fr, kids]
  | node h ps =>
    simp only [fr, Bool.and_eq_true, kids]
    exact and_congr Iff.rfl frs_iff
theorem deps_le {n : Nat} : ∀ {ts : List Trm}, deps ts ≤ n ↔ ∀ t ∈ ts, dep t ≤ n
  | [] => by simp [deps]
  | a :: ts => by
    simp only [deps, List.mem_cons, forall_eq_or_imp]
    have := deps_le (n := n) (ts := ts)
    constructor
    · intro h
      exact ⟨by omega, this.mp (by omega)⟩
    · intro h
      have := this.mpr h.2
      omega
theorem dep_iff (t : Trm) (n : Nat) : dep t ≤ n + 1 ↔ ∀ u ∈ kids t, dep u ≤ n := by
  cases t with
  | price s a => simp [dep, kids]
  | plain n => simp [dep, kids]
  | node h ps =>
    simp only [dep, kids]
    rw [← deps_le]
    omega
theorem form_kids {t : Trm} (h : form t = true) : (kids t).length ≤ 6 := by
  match t, h with
  | .price s a, _ => simp [kids]
  | .plain n, _ => simp [kids]
  | .node (.rank k) ps, h => simp [form] at h; simp only [kids]; omega
  | .node .least ps, h => simp [form] at h; simp only [kids]; omega
  | .node .most ps, h => simp [form] at h; simp only [kids]; omega
/-- the document's bounds -/
def okT (t : Trm) : Prop := cnt t ≤ 40 ∧ dep t ≤ 6 ∧ fr t = true
def good (e : Trm × Nat) : Prop := e.2 + dep e.1 ≤ 7 ∧ fr e.1 = true
theorem good_iff (t : Trm) (lv : Nat) : good (t, lv) ↔ lv ≤ 6 ∧ form t = true ∧ ∀ u ∈ kids t, good (u, lv + 1) := by
  unfold good
  have h1 := fr_iff t
  have hd := dep_pos t
  constructor
  · rintro ⟨a, b⟩
    obtain ⟨b1, b2⟩ := h1.mp b
    refine ⟨by simp only at a; omega, b1, fun u hu => ⟨?_, b2 u hu⟩⟩
    have := dep_kids hu
    simp only at a ⊢
    omega
  · rintro ⟨a, b, c⟩
    refine ⟨?_, h1.mpr ⟨b, fun u hu => (c u hu).2⟩⟩
    have : dep t ≤ (6 - lv) + 1 := (dep_iff t (6 - lv)).mpr fun u hu => by
      have := (c u hu).1
      simp only at this
      omega
    simp only
    omega
mutual
/-- its shops are below sh, its numbers within mo -/
def inB (sh mo : Int) : Trm → Prop
  | .price s a => (s : Int) < sh ∧ -mo ≤ a ∧ a ≤ mo
  | .plain n => -mo ≤ n ∧ n ≤ mo
  | .node _ ps => inBs sh mo ps
def inBs (sh mo : Int) : List Trm → Prop
  | [] => True
  | t :: ts => inB sh mo t ∧ inBs sh mo ts
end
theorem inBs_iff {sh mo : Int} : ∀ {ts : List Trm}, inBs sh mo ts ↔ ∀ t ∈ ts, inB sh mo t
  | [] => by simp [inBs]
  | a :: ts => by
    simp only [inBs, List.mem_cons, forall_eq_or_imp]
    exact and_congr Iff.rfl inBs_iff
/-- how many terms a term of so many levels has at most, each with at most three parts -/
def cap : Nat → Nat
  | 0 => 0
  | l + 1 => 1 + 3 * cap l
/-- what a law draws -/
structure Gen (sh mo : Int) (l : Nat) (t : Trm) : Prop where
  fr : fr t = true
  dep : dep t ≤ l
  cnt : cnt t ≤ cap l
  inB : inB sh mo t
theorem cnts_le {m : Nat} : ∀ {ts : List Trm}, (∀ t ∈ ts, cnt t ≤ m) → cnts ts ≤ ts.length * m
  | [], _ => by simp [cnts]
  | a :: ts, h => by
    have h1 := h a (by simp)
    have h2 := cnts_le (ts := ts) (m := m) fun t ht => h t (List.mem_cons_of_mem _ ht)
    simp only [cnts, List.length_cons, Nat.succ_mul]
    omega
theorem num_of {mo a : Int} (h1 : -mo ≤ a) (h2 : a ≤ mo) (hm : mo ≤ 10 ^ 30) : num a = true := by
  unfold num
  rw [decide_eq_true (by omega), decide_eq_true (by omega)] <;> rfl
theorem Gen.plain {sh mo a : Int} {l : Nat} (h1 : -mo ≤ a) (h2 : a ≤ mo) (hm : mo ≤ 10 ^ 30) : Gen sh mo (l + 1) (.plain a) :=
  ⟨by simp only [TM.fr, form]; exact num_of h1 h2 hm, by simp [TM.dep], by simp only [TM.cnt, cap]; omega, by simp only [TM.inB]; exact ⟨h1, h2⟩⟩
theorem Gen.price {sh mo a : Int} {s l : Nat} (h0 : (s : Int) < sh) (h6 : sh ≤ 6) (h1 : -mo ≤ a) (h2 : a ≤ mo) (hm : mo ≤ 10 ^ 30) : Gen sh mo (l + 1) (.price s a) :=
  ⟨by
    simp only [TM.fr, form]
    rw [num_of h1 h2 hm, decide_eq_true (by omega), decide_eq_true (by omega)] <;> rfl, by simp [TM.dep], by simp only [TM.cnt, cap]; omega, by simp only [TM.inB]; exact ⟨h0, h1, h2⟩⟩
theorem Gen.node {sh mo : Int} {l : Nat} {h : Hd} {ps : List Trm} (h1 : 1 ≤ ps.length) (h3 : ps.length ≤ 3) (hh : hdOk h ps.length) (hp : ∀ t ∈ ps, Gen sh mo l t) : Gen sh mo (l + 1) (.node h ps) := by
  refine ⟨?_, ?_, ?_, ?_⟩
  · rw [fr_iff]
    refine ⟨?_, fun u hu => (hp u hu).fr⟩
    cases h with
    | least => simp only [form]; rw [decide_eq_true (by omega), decide_eq_true (by omega)] <;> rfl
    | most => simp only [form]; rw [decide_eq_true (by omega), decide_eq_true (by omega)] <;> rfl
    | rank k =>
      simp only [hdOk] at hh
      simp only [form]
      rw [decide_eq_true (by omega), decide_eq_true (by omega), decide_eq_true (by omega), decide_eq_true (by omega)] <;> rfl
  · rw [dep_iff]
    exact fun u hu => (hp u hu).dep
  · have := cnts_le (m := cap l) fun t ht => (hp t ht).cnt
    simp only [TM.cnt, cap]
    have h4 : ps.length * cap l ≤ 3 * cap l := Nat.mul_le_mul_right _ h3
    omega
  · simp only [TM.inB]
    exact inBs_iff.mpr fun u hu => (hp u hu).inB
theorem Gen.okT {sh mo : Int} {l : Nat} {t : Trm} (h : Gen sh mo l t) (hl : l ≤ 4) : okT t := by
  refine ⟨?_, by have := h.dep; omega, h.fr⟩
  have := h.cnt
  have hc : cap l ≤ 40 := by
    match l, hl with
    | 0, _ => decide
    | 1, _ => decide
    | 2, _ => decide
    | 3, _ => decide
    | 4, _ => decide
  omega
theorem cnts_mem : ∀ {ts : List Trm} {t : Trm}, t ∈ ts → cnt t ≤ cnts ts
  | a :: ts, t, h => by
    simp only [cnts]
    rcases List.mem_cons.mp h with rfl | h
    · omega
    · have := cnts_mem h
      omega
end TM

set_option Elab.async false
set_option linter.all false
set_option maxRecDepth 100000
set_option maxHeartbeats 1000000
/-! Terms as texts: codes of what is written. -/
namespace TX
open PySem PySem.Spec PyProof.Rows L2 Evl DK DD TM SX PySem.W
/-- the digits of a number -/
def dg (n : Nat) : List Nat := (Nat.toDigits 10 n).map Char.toNat
theorem str_nat (n : Nat) : Str.ofString (toString ((n : Nat) : Int)) = S (dg n) := by
  rw [← S_tl (Str.ofString (toString ((n : Nat) : Int))), KIN.signs_num]
  rfl
def intc (n : Int) : List Nat := (if n < 0 then [45] else []) ++ dg n.natAbs
theorem str_int (n : Int) : Str.ofString (toString n) = S (intc n) := by
  cases n with
  | ofNat m =>
    have h := str_nat m
    have e : intc (Int.ofNat m) = dg m := by
      unfold intc
      rw [if_neg (by simp)]
      rfl
    rw [e]
    exact h
  | negSucc m =>
    have e : intc (Int.negSucc m) = 45 :: dg (m + 1) := by
      unfold intc
      rw [if_pos (by omega)]
      rfl
    rw [e, Str.ofString_eq_toList]
    show (⟨(("-" ++ Nat.repr (m + 1)).toList.map Char.toNat).toArray⟩ : Str) = _
    rw [String.toList_append, List.map_append, Nat.toList_repr]
    rfl
def addc (a : Int) : List Nat := if a = 0 then [] else [32, (if a < 0 then 45 else 43), 32] ++ dg a.natAbs
def hdc : Hd → List Nat
  | .least => [108, 101, 97, 115, 116]
  | .most => [109, 111, 115, 116]
  | .rank k => [114, 97, 110, 107, 32] ++ dg k
mutual
/-- the text of a term -/
def wrc : Trm → List Nat
  | .price s a => (97 + s) :: addc a
  | .plain n => intc n
  | .node h ps => hdc h ++ ([40] ++ (TL.joinL [44, 32] (wrcs ps) ++ [41]))
def wrcs : List Trm → List (List Nat)
  | [] => []
  | t :: ts => wrc t :: wrcs ts
end
theorem wrcs_map : ∀ ts : List Trm, wrcs ts = ts.map wrc
  | [] => by simp [wrcs]
  | t :: ts => by simp [wrcs, wrcs_map ts]
theorem dg_len {n : Nat} (h : n ≤ 10 ^ 30) : (dg n).length ≤ 31 := by
  unfold dg
  rw [List.length_map]
  exact PyProof.Rows.digits10_le (by decide) (by omega)
theorem joinL_len (s : List Nat) : ∀ ys : List (List Nat), (TL.joinL s ys).length ≤ (ys.map List.length).sum + ys.length * s.length
  | [] => by simp [TL.joinL]
  | [p] => by simp [TL.joinL]
  | p :: q :: r => by
    have := joinL_len s (q :: r)
    simp only [TL.joinL, List.length_append, List.map_cons, List.sum_cons, List.length_cons, Nat.succ_mul] at this ⊢
    omega
theorem num_abs {a : Int} (h : num a = true) : a.natAbs ≤ 10 ^ 30 := by
  simp only [num, Bool.and_eq_true, decide_eq_true_eq] at h
  omega
mutual
theorem wrc_len : ∀ t : Trm, fr t = true → (wrc t).length ≤ 60 * cnt t
  | .price s a, h => by
    simp only [TM.fr, form, Bool.and_eq_true] at h
    have := dg_len (num_abs h.2)
    simp only [wrc, addc, TM.cnt]
    split
    · simp
    · simp only [List.length_cons, List.length_append, List.length_nil]
      omega
  | .plain n, h => by
    simp only [TM.fr, form] at h
    have := dg_len (num_abs h)
    simp only [wrc, intc, TM.cnt]
    split
    · simp only [List.length_cons, List.length_append, List.length_nil]
      omega
    · simp only [List.length_append, List.length_nil]
      omega
  | .node hd ps, h => by
    have hf := (fr_iff (.node hd ps)).mp h
    have kl := form_kids hf.1
    simp only [kids] at kl
    have h2 := wrcs_len ps (TM.frs_iff.mpr hf.2)
    have hj := joinL_len [44, 32] (wrcs ps)
    have hl : (wrcs ps).length = ps.length := by rw [wrcs_map, List.length_map]
    rw [hl] at hj
    have hh : (hdc hd).length ≤ 36 := by
      cases hd with
      | least => decide
      | most => decide
      | rank k =>
        have hk : k ≤ 6 := by
          have := hf.1
          simp only [form, Bool.and_eq_true, decide_eq_true_eq] at this
          omega
        have := dg_len (n := k) (by omega)
        simp only [hdc, List.length_append, List.length_cons, List.length_nil]
        omega
    simp only [wrc, TM.cnt, List.length_append, List.length_cons, List.length_nil] at hj ⊢
    omega
theorem wrcs_len : ∀ ts : List Trm, TM.frs ts = true → ((wrcs ts).map List.length).sum ≤ 60 * cnts ts
  | [], _ => by simp [wrcs, cnts]
  | t :: ts, h => by
    simp only [TM.frs, Bool.and_eq_true] at h
    have h1 := wrc_len t h.1
    have h2 := wrcs_len ts h.2
    simp only [wrcs, cnts, List.map_cons, List.sum_cons]
    omega
end
/-! ### the law's words -/
mutual
def lw : Trm → List (List Nat)
  | .price s a => if a = 0 then [[97 + s]] else [[97 + s], [32], [if a > 0 then 43 else 45], [32], dg a.natAbs]
  | .plain n => (if n < 0 then [[45]] else []) ++ [dg n.natAbs]
  | .node .least ps => [[108, 101, 97, 115, 116], [40]] ++ (lws ps ++ [[41]])
  | .node .most ps => [[109, 111, 115, 116], [40]] ++ (lws ps ++ [[41]])
  | .node (.rank k) ps => [[114, 97, 110, 107], [32], dg k, [40]] ++ (lws ps ++ [[41]])
def lws : List Trm → List (List Nat)
  | [] => []
  | [t] => lw t
  | t :: u :: ts => lw t ++ ([[44], [32]] ++ lws (u :: ts))
end
mutual
theorem lw_flat : ∀ t : Trm, (lw t).flatten = wrc t
  | .price s a => by
    simp only [lw, wrc, addc]
    split
    · simp
    · rename_i h
      have : (if a > 0 then 43 else 45) = (if a < 0 then 45 else 43) := by
        split <;> split <;> omega
      simp [this]
  | .plain n => by
    simp only [lw, wrc, intc]
    split <;> simp
  | .node .least ps => by simp [lw, wrc, hdc, lws_flat ps]
  | .node .most ps => by simp [lw, wrc, hdc, lws_flat ps]
  | .node (.rank k) ps => by simp [lw, wrc, hdc, lws_flat ps]
theorem lws_flat : ∀ ts : List Trm, (lws ts).flatten = TL.joinL [44, 32] (wrcs ts)
  | [] => by simp [lws, wrcs, TL.joinL]
  | [t] => by simp [lws, wrcs, TL.joinL, lw_flat t]
  | t :: u :: ts => by
    have := lws_flat (u :: ts)
    simp only [wrcs] at this
    simp [lws, wrcs, TL.joinL, lw_flat t, this]
end
theorem joinL_nil : ∀ ys : List (List Nat), TL.joinL [] ys = ys.flatten
  | [] => rfl
  | [p] => by simp [TL.joinL]
  | p :: q :: r => by
    have := joinL_nil (q :: r)
    simp only [TL.joinL, this]
    simp
end TX

set_option Elab.async false
set_option linter.all false
set_option maxRecDepth 100000
set_option maxHeartbeats 1000000
/-! A reader of a text: an object with the text and the place. -/
namespace RD
open PySem PySem.Spec PyProof.Rows L2 Evl DK DD TM TX SX PySem.W
/-- all but r is as it was -/
def But (r : Addr) (H H' : Hp) : Prop := ∀ a, a ≠ r → H' a = H a
theorem But.refl (r : Addr) (H : Hp) : But r H H := fun _ _ => rfl
theorem But.trans {r : Addr} {H H1 H2 : Hp} (a : But r H H1) (b : But r H1 H2) : But r H H2 := fun x n => (b x n).trans (a x n)
theorem But.upd {r : Addr} {H : Hp} {o : HO} : But r H (L2.upd H r o) := fun a n => upd_ne n
def flds (cs : List Nat) (n : Nat) : List (Str × V) := [("text", .str (S cs)), ("at", .int (n : Int))]
def rdr (C dx : Addr) (cs : List Nat) (n : Nat) : HO := .ins C dx (flds cs n)
theorem lk_text (cs : List Nat) (n : Nat) : (flds cs n).lookup (Str.ofString "text") = some (.str (S cs)) := by simp [flds, List.lookup]
theorem lk_at (cs : List Nat) (n : Nat) : (flds cs n).lookup (Str.ofString "at") = some (.int (n : Int)) := by
  have z : (Str.ofString "at" == Str.ofString "text") = false := by decide +kernel
  simp [flds, List.lookup, z]
theorem put_at (cs : List Nat) (n : Nat) (m : Int) (k : Nat) (h : m = (k : Int)) : putF (Str.ofString "at") (.int m) (flds cs n) = flds cs k := by
  have z : ¬ (Str.ofString "text" = Str.ofString "at") := by decide +kernel
  subst h
  simp [flds, putF, z]
theorem cut1 {cs : List Nat} {n : Nat} (h : n ≤ cs.length) : cutS (S cs) (some (n : Int)) (some ((n : Int) + 1)) = S ((cs.drop n).take 1) := by
  have e : ((n : Int) + 1) = ((n + 1 : Nat) : Int) := by omega
  unfold cutS
  rw [e, HT.sIx_nat, HT.sIx_nat, S_len]
  show S _ = _
  rw [Nat.min_eq_left h]
  by_cases h1 : n + 1 ≤ cs.length
  · rw [Nat.min_eq_left h1, show n + 1 - n = 1 by omega]
  · have : n = cs.length := by omega
    rw [Nat.min_eq_right (by omega), this, List.drop_length]
    simp
theorem cutN {cs : List Nat} {n k : Nat} (h : n + k ≤ cs.length) : cutS (S cs) (some (n : Int)) (some ((n + k : Nat) : Int)) = S ((cs.drop n).take k) := by
  unfold cutS
  rw [HT.sIx_nat, HT.sIx_nat, S_len]
  show S _ = _
  rw [Nat.min_eq_left h, Nat.min_eq_left (show n ≤ cs.length by omega), show n + k - n = k by omega]
theorem cut0 {cs : List Nat} {k : Nat} : cutS (S cs) none (some (k : Int)) = S (cs.take k) := by
  unfold cutS
  rw [HT.sIx_none, HT.sIx_nat, S_len]
  show S ((cs.drop 0).take (min k cs.length - 0)) = _
  rw [List.drop_zero, Nat.sub_zero]
  by_cases h : k ≤ cs.length
  · rw [Nat.min_eq_left h]
  · rw [Nat.min_eq_right (by omega), List.take_of_length_le (by omega), List.take_of_length_le (by omega)]
/-- how many blanks stand ahead -/
def skip : List Nat → Nat
  | [] => 0
  | c :: cs => if c = 32 then skip cs + 1 else 0
theorem skip_le : ∀ cs : List Nat, skip cs ≤ cs.length
  | [] => by simp [skip]
  | c :: cs => by
    simp only [skip]
    split
    · have := skip_le cs
      simp only [List.length_cons]
      omega
    · simp
theorem skip_take : ∀ (cs : List Nat) (k : Nat), k ≤ skip cs → (((cs.drop k).take 1 = [32]) ↔ k < skip cs)
  | [], k, h => by simp [skip] at h ⊢
  | c :: cs, 0, h => by
    simp only [skip]
    by_cases hc : c = 32 <;> simp [hc]
  | c :: cs, k + 1, h => by
    simp only [skip] at h ⊢
    by_cases hc : c = 32
    · rw [if_pos hc] at h ⊢
      have := skip_take cs k (by omega)
      simp only [List.drop_succ_cons]
      rw [this]
      omega
    · rw [if_neg hc] at h
      omega
section
variable {K : PySem.W.Frag} {σ : L2.St} {H : Hp} {ta tb : TE} {C dx r : Addr} {cs : List Nat} {n : Nat}
theorem ev_fld {fs : List (Str × V)} {f : Str} {v : V} (ha : Ev ta σ H (.ref r)) (ho : H r = some (.ins C dx fs)) (cl : Cls K C) (hn : NoAttr K C f) (hl : fs.lookup f = some v) : Ev (tFld K ta f) σ H v := fun H1 e Q q =>
  ha H1 e _ fun H2 e2 => ⟨r, C, dx, fs, v, rfl, (e.trans e2) _ _ ho, cl, hn, hl, q H2 e2⟩
theorem ev_slS {tl th : TO} {z : List Nat} {lo hi : Option Int} {y : Str} (h : Ev ta σ H (.str (S z))) (h1 : EvO tl σ H lo) (h2 : EvO th σ H hi) (hl : z.length ≤ 100000) (e : cutS (S z) lo hi = y) : Ev (tSl rSlS ta tl th) σ H (.str y) := fun H1 x Q q =>
  h H1 x _ fun H2 x2 => h1 H2 (x.trans x2) _ fun H3 x3 => h2 H3 ((x.trans x2).trans x3) _ fun H4 x4 => ⟨S z, rfl, sz_of (by rw [S_len]; exact hl), by
    rw [e]
    exact q H4 ((x2.trans x3).trans x4)⟩
theorem ev_lenS {y : List Nat} (h : Ev ta σ H (.str (S y))) (hl : y.length ≤ 100000) : Ev (tCB (fun xs H Q => ∃ z, xs = [.str z] ∧ z.length ≤ sizeLine ∧ Q (.int z.length) H) (tCons ta tNil)) σ H (.int (y.length : Int)) := fun H1 x Q q =>
  h H1 x _ fun H2 x2 => ⟨S y, rfl, sz_of (by rw [S_len]; exact hl), by
    rw [S_len]
    exact q H2 x2⟩
theorem ev_inS {c : Nat} {z : List Nat} (ha : Ev ta σ H (.str (S [c]))) (hb : Ev tb σ H (.str (S z))) : Ev (tOp (fun x y H Q => ∃ (c : Nat) (z : Str), x = .str ⟨#[c]⟩ ∧ y = .str z ∧ Q (.bl (decide (c ∈ z.cps.toList))) H) ta tb) σ H (.bl (decide (c ∈ z))) := fun H1 e Q q =>
  ha H1 e _ fun H2 e2 => hb H2 (e.trans e2) _ fun H3 e3 => ⟨c, S z, rfl, rfl, q H3 (e2.trans e3)⟩
theorem ev_ninS {c : Nat} {z : List Nat} (ha : Ev ta σ H (.str (S [c]))) (hb : Ev tb σ H (.str (S z))) : Ev (tOp (fun x y H Q => ∃ (c : Nat) (z : Str), x = .str ⟨#[c]⟩ ∧ y = .str z ∧ Q (.bl (!decide (c ∈ z.cps.toList))) H) ta tb) σ H (.bl (!decide (c ∈ z))) := fun H1 e Q q =>
  ha H1 e _ fun H2 e2 => hb H2 (e.trans e2) _ fun H3 e3 => ⟨c, S z, rfl, rfl, q H3 (e2.trans e3)⟩
end
/-- the signs of al that stand ahead -/
def runL (al : List Nat) : List Nat → Nat
  | [] => 0
  | c :: cs => if c ∈ al then runL al cs + 1 else 0
theorem runL_le (al : List Nat) : ∀ cs : List Nat, runL al cs ≤ cs.length
  | [] => by simp [runL]
  | c :: cs => by
    simp only [runL]
    split
    · have := runL_le al cs
      simp only [List.length_cons]
      omega
    · simp
theorem runL_at (al : List Nat) : ∀ (cs : List Nat) (k c : Nat), k ≤ runL al cs → cs[k]? = some c → (c ∈ al ↔ k < runL al cs)
  | [], k, c, h, e => by simp at e
  | d :: cs, 0, c, h, e => by
    simp at e
    subst e
    simp only [runL]
    by_cases hc : d ∈ al <;> simp [hc]
  | d :: cs, k + 1, c, h, e => by
    simp only [runL] at h ⊢
    by_cases hc : d ∈ al
    · rw [if_pos hc] at h ⊢
      have := runL_at al cs k c (by omega) (by simpa using e)
      rw [this]
      omega
    · rw [if_neg hc] at h
      omega
theorem runL_end (al : List Nat) : ∀ (cs : List Nat), cs.length ≤ runL al cs → runL al cs = cs.length := fun cs h => Nat.le_antisymm (runL_le al cs) h
theorem lk_no {f : Str} (cs : List Nat) (n : Nat) (h1 : (f == Str.ofString "text") = false) (h2 : (f == Str.ofString "at") = false) : (flds cs n).lookup f = none := by simp [flds, List.lookup, h1, h2]
/-! ### words with blanks between them -/
def Lo : List (List Nat) → List Nat → Prop
  | [], l => skip l = l.length
  | w :: ws, l => ∃ l', l.drop (skip l) = w ++ l' ∧ Lo ws l'
theorem skip_drop : ∀ l : List Nat, skip (l.drop (skip l)) = 0
  | [] => rfl
  | c :: l => by
    simp only [skip]
    by_cases h : c = 32
    · rw [if_pos h]
      exact skip_drop l
    · rw [if_neg h]
      simp [skip, h]
theorem lo_skip : ∀ {ts : List (List Nat)} {l : List Nat}, Lo ts l → Lo ts (l.drop (skip l))
  | [], l, h => by
    have h' : skip l = l.length := h
    show skip (l.drop (skip l)) = (l.drop (skip l)).length
    rw [skip_drop, List.length_drop]
    omega
  | w :: ws, l, ⟨l', h1, h2⟩ => ⟨l', by rw [skip_drop, List.drop_zero]; exact h1, h2⟩
/-- what may stand behind a word of signs of al -/
def nx (al : List Nat) : List (List Nat) → Prop
  | [] => True
  | w :: _ => ∃ c w', w = c :: w' ∧ c ∉ al
theorem lo_head {al : List Nat} (h32 : 32 ∉ al) : ∀ {ws : List (List Nat)} {l : List Nat}, Lo ws l → nx al ws → ∀ c l', l = c :: l' → c ∉ al
  | [], l, h, _, c, l', e => by
    subst e
    have h' : skip (c :: l') = (c :: l').length := h
    simp only [skip] at h'
    by_cases hc : c = 32
    · rw [hc]
      exact h32
    · rw [if_neg hc] at h'
      simp at h'
  | w :: ws, l, ⟨l2, h1, _⟩, hn, c, l', e => by
    subst e
    by_cases hc : c = 32
    · rw [hc]
      exact h32
    · obtain ⟨d, w', rfl, hd⟩ := hn
      simp only [skip, if_neg hc, List.drop_zero, List.cons_append, List.cons.injEq] at h1
      rw [h1.1]
      exact hd
theorem runL_app {al : List Nat} : ∀ {w l : List Nat}, (∀ c ∈ w, c ∈ al) → (∀ c l', l = c :: l' → c ∉ al) → runL al (w ++ l) = w.length
  | [], l, _, h2 => by
    cases l with
    | nil => rfl
    | cons c l' =>
      show runL al (c :: l') = 0
      simp only [runL]
      rw [if_neg (h2 c l' rfl)]
  | a :: w, l, h1, h2 => by
    show runL al (a :: (w ++ l)) = w.length + 1
    simp only [runL]
    rw [if_pos (h1 a (by simp)), runL_app (fun c hc => h1 c (by simp [hc])) h2]
theorem lo_run {al : List Nat} {w : List Nat} {ws : List (List Nat)} {l : List Nat} (h : Lo (w :: ws) l) (hw : ∀ c ∈ w, c ∈ al) (h32 : 32 ∉ al) (hn : nx al ws) :
    (l.drop (skip l)).take (runL al (l.drop (skip l))) = w ∧ Lo ws ((l.drop (skip l)).drop w.length) := by
  obtain ⟨l', h1, h2⟩ := h
  rw [h1, runL_app hw (lo_head h32 h2 hn)]
  exact ⟨by simp, by simpa using h2⟩
theorem lo_run0 {al : List Nat} {ws : List (List Nat)} {l : List Nat} (h : Lo ws l) (h32 : 32 ∉ al) (hn : nx al ws) : runL al (l.drop (skip l)) = 0 := by
  have := runL_app (al := al) (w := []) (l := l.drop (skip l)) (by simp) (lo_head h32 (lo_skip h) hn)
  simpa using this
theorem lo_take {c : Nat} {w : List Nat} {ws : List (List Nat)} {l : List Nat} (h : Lo ((c :: w) :: ws) l) : (l.drop (skip l)).take 1 = [c] ∧ skip l < l.length := by
  obtain ⟨l', h1, _⟩ := h
  refine ⟨by rw [h1]; rfl, ?_⟩
  have h2 : (l.drop (skip l)).length = w.length + 1 + l'.length := by
    rw [h1]
    simp only [List.length_append, List.length_cons]
  rw [List.length_drop] at h2
  omega
def letters : List Nat := (List.range 26).map (97 + ·)
def digs : List Nat := (List.range 10).map (48 + ·)
theorem dg_digs (m : Nat) : ∀ c ∈ dg m, c ∈ digs := fun c hc => by
  unfold dg at hc
  obtain ⟨ch, hch, e⟩ := List.mem_map.mp hc
  have r := PyProof.Rows.digit_range (Nat.isDigit_of_mem_toDigits (by decide) (by decide) hch)
  rw [← e]
  unfold digs
  rw [List.mem_map]
  exact ⟨ch.toNat - 48, by rw [List.mem_range]; omega, by omega⟩
theorem dg_ne (m : Nat) : dg m ≠ [] := fun e => by
  have h := PySem.toDigits_len_ge 10 m
  unfold dg at e
  rw [List.map_eq_nil_iff.mp e] at h
  exact absurd h (by decide)
theorem dg_zero {m : Nat} {r : List Nat} (h : dg m = 48 :: r) : m = 0 := by
  induction m using Nat.strongRecOn generalizing r with
  | _ m ih =>
    by_cases h1 : m < 10
    · unfold dg at h
      rw [Nat.toDigits_of_lt_base h1] at h
      simp only [List.map_cons, List.map_nil, List.cons.injEq] at h
      have : ∀ d : Nat, d < 10 → (Nat.digitChar d).toNat = 48 → d = 0 := by decide
      exact this m h1 h.1
    · have hm : m % 10 < 10 := Nat.mod_lt m (by decide)
      have t : Nat.toDigits 10 (m / 10) ++ Nat.toDigits 10 (m % 10) = Nat.toDigits 10 (10 * (m / 10) + m % 10) := Nat.toDigits_append_toDigits (by decide) (by omega) hm
      rw [Nat.div_add_mod] at t
      have h2 : dg m = dg (m / 10) ++ dg (m % 10) := by
        unfold dg
        rw [← t, List.map_append]
      rw [h2] at h
      cases hq : dg (m / 10) with
      | nil => exact absurd hq (dg_ne _)
      | cons c q =>
        rw [hq] at h
        simp only [List.cons_append, List.cons.injEq] at h
        rw [h.1] at hq
        have := ih (m / 10) (by omega) hq
        omega
theorem dg_read {m : Nat} (h : m ≤ 10 ^ 30) : PySem.intText? (S (dg m)) = some (m : Int) := by
  have hl := dg_len h
  have e := PySem.intText_digits (x := S (dg m)) (by
    intro c hc
    have := dg_digs m c hc
    unfold digs at this
    obtain ⟨k, hk, rfl⟩ := List.mem_map.mp this
    rw [List.mem_range] at hk
    exact ⟨by omega, by omega⟩) (dg_ne m) (by rw [S_len]; omega)
  rw [e]
  show some (((PySem.NumText.digitsVal (dg m) : Nat) : Int)) = _
  unfold dg
  rw [KIN.val_back]
end RD

set_option Elab.async false
set_option linter.all false
set_option maxRecDepth 100000
set_option maxHeartbeats 4000000
namespace K03
open PySem PySem.Spec PyProof.Rows L2 DK DD TM
def topS (i : Nat) : Stmt := PySem.Challenge.pw_pricespin_k03_whole_texts.main.body.getD i (.Pass ⟨0, 0, 0, 0⟩)
abbrev s_is_int : Stmt := topS 10
theorem sc_is_int : FnScope ["value"] ["value"] (defScope s_is_int) := ⟨rfl, rfl, rfl, by decide +kernel, rfl, by decide +kernel, by decide +kernel⟩
abbrev s_is_int_from : Stmt := topS 11
theorem sc_is_int_from : FnScope ["value", "least", "greatest"] ["value", "least", "greatest"] (defScope s_is_int_from) := ⟨rfl, rfl, rfl, by decide +kernel, rfl, by decide +kernel, by decide +kernel⟩
abbrev s_is_number : Stmt := topS 12
theorem sc_is_number : FnScope ["value"] ["value"] (defScope s_is_number) := ⟨rfl, rfl, rfl, by decide +kernel, rfl, by decide +kernel, by decide +kernel⟩
abbrev s_is_leaf : Stmt := topS 13
theorem sc_is_leaf : FnScope ["term"] ["term"] (defScope s_is_leaf) := ⟨rfl, rfl, rfl, by decide +kernel, rfl, by decide +kernel, by decide +kernel⟩
abbrev s_parts_of : Stmt := topS 14
theorem sc_parts_of : FnScope ["term"] ["term"] (defScope s_parts_of) := ⟨rfl, rfl, rfl, by decide +kernel, rfl, by decide +kernel, by decide +kernel⟩
abbrev s_is_term : Stmt := topS 15
abbrev N_is_term : List Str := ["value", "waiting", "many", "part", "level", "inner"]
theorem sc_is_term : FnScope ["value", "waiting", "many", "part", "level", "inner"] ["value"] (defScope s_is_term) := ⟨rfl, rfl, rfl, by decide +kernel, rfl, by decide +kernel, by decide +kernel⟩
abbrev s_check_term : Stmt := topS 16
theorem sc_check_term : FnScope ["term"] ["term"] (defScope s_check_term) := ⟨rfl, rfl, rfl, by decide +kernel, rfl, by decide +kernel, by decide +kernel⟩
abbrev s__has_form : Stmt := topS 17
theorem sc__has_form : FnScope ["term", "word"] ["term"] (defScope s__has_form) := ⟨rfl, rfl, rfl, by decide +kernel, rfl, by decide +kernel, by decide +kernel⟩
abbrev s__are_parts : Stmt := topS 18
theorem sc__are_parts : FnScope ["value"] ["value"] (defScope s__are_parts) := ⟨rfl, rfl, rfl, by decide +kernel, rfl, by decide +kernel, by decide +kernel⟩
abbrev s__written : Stmt := topS 27
abbrev N__written : List Str := ["term", "word", "name", "parts", "part"]
theorem sc__written : FnScope ["term", "word", "name", "parts", "part"] ["term"] (defScope s__written) := ⟨rfl, rfl, rfl, by decide +kernel, rfl, by decide +kernel, by decide +kernel⟩
abbrev s__written_price : Stmt := topS 28
theorem sc__written_price : FnScope ["shop", "add", "sign"] ["shop", "add"] (defScope s__written_price) := ⟨rfl, rfl, rfl, by decide +kernel, rfl, by decide +kernel, by decide +kernel⟩
abbrev s_term_text : Stmt := topS 24
theorem sc_term_text : FnScope ["term"] ["term"] (defScope s_term_text) := ⟨rfl, rfl, rfl, by decide +kernel, rfl, by decide +kernel, by decide +kernel⟩
abbrev s_read_term : Stmt := topS 25
theorem sc_read_term : FnScope ["text", "reader", "term"] ["text"] (defScope s_read_term) := ⟨rfl, rfl, rfl, by decide +kernel, rfl, by decide +kernel, by decide +kernel⟩
abbrev s__read_whole : Stmt := topS 29
theorem sc__read_whole : FnScope ["reader", "unclosed", "term", "start"] ["reader"] (defScope s__read_whole) := ⟨rfl, rfl, rfl, by decide +kernel, rfl, by decide +kernel, by decide +kernel⟩
abbrev s__close : Stmt := topS 30
theorem sc__close : FnScope ["reader", "unclosed", "term", "start", "parts"] ["reader", "unclosed", "term"] (defScope s__close) := ⟨rfl, rfl, rfl, by decide +kernel, rfl, by decide +kernel, by decide +kernel⟩
abbrev s__read_start : Stmt := topS 31
theorem sc__read_start : FnScope ["reader", "word"] ["reader"] (defScope s__read_start) := ⟨rfl, rfl, rfl, by decide +kernel, rfl, by decide +kernel, by decide +kernel⟩
abbrev s__read_plain : Stmt := topS 32
theorem sc__read_plain : FnScope ["reader"] ["reader"] (defScope s__read_plain) := ⟨rfl, rfl, rfl, by decide +kernel, rfl, by decide +kernel, by decide +kernel⟩
abbrev s__read_add : Stmt := topS 33
theorem sc__read_add : FnScope ["reader", "sign", "number"] ["reader"] (defScope s__read_add) := ⟨rfl, rfl, rfl, by decide +kernel, rfl, by decide +kernel, by decide +kernel⟩
abbrev s__law_digits : Stmt := topS 41
theorem sc__law_digits : FnScope ["number", "digits", "left"] ["number"] (defScope s__law_digits) := ⟨rfl, rfl, rfl, by decide +kernel, rfl, by decide +kernel, by decide +kernel⟩
abbrev s__law_words : Stmt := topS 42
theorem sc__law_words : FnScope ["term", "name", "found", "at"] ["term"] (defScope s__law_words) := ⟨rfl, rfl, rfl, by decide +kernel, rfl, by decide +kernel, by decide +kernel⟩
abbrev s__law_loose : Stmt := topS 43
theorem sc__law_loose : FnScope ["source", "words", "found", "word"] ["source", "words"] (defScope s__law_loose) := ⟨rfl, rfl, rfl, by decide +kernel, rfl, by decide +kernel, by decide +kernel⟩
abbrev s_law : Stmt := topS 44
abbrev N_law : List Str := ["script", "source", "turn", "most", "term", "words", "text", "k", "word", "six", "parts", "shop"]
theorem sc_law : FnScope ["script", "source", "turn", "most", "term", "words", "text", "k", "word", "six", "parts", "shop"] ["script"] (defScope s_law) := ⟨rfl, rfl, rfl, by decide +kernel, rfl, by decide +kernel, by decide +kernel⟩
abbrev s_Reader_init : Stmt := inClass (topS 26) 0
theorem sc_Reader_init : FnScope ["self", "text"] ["self", "text"] (defScope s_Reader_init) := ⟨rfl, rfl, rfl, by decide +kernel, rfl, by decide +kernel, by decide +kernel⟩
abbrev s_Reader_peek : Stmt := inClass (topS 26) 1
theorem sc_Reader_peek : FnScope ["self"] ["self"] (defScope s_Reader_peek) := ⟨rfl, rfl, rfl, by decide +kernel, rfl, by decide +kernel, by decide +kernel⟩
abbrev s_Reader_sign : Stmt := inClass (topS 26) 2
theorem sc_Reader_sign : FnScope ["self", "allowed", "found"] ["self", "allowed"] (defScope s_Reader_sign) := ⟨rfl, rfl, rfl, by decide +kernel, rfl, by decide +kernel, by decide +kernel⟩
abbrev s_Reader_word : Stmt := inClass (topS 26) 3
theorem sc_Reader_word : FnScope ["self", "found"] ["self"] (defScope s_Reader_word) := ⟨rfl, rfl, rfl, by decide +kernel, rfl, by decide +kernel, by decide +kernel⟩
abbrev s_Reader_number : Stmt := inClass (topS 26) 4
theorem sc_Reader_number : FnScope ["self", "digits"] ["self"] (defScope s_Reader_number) := ⟨rfl, rfl, rfl, by decide +kernel, rfl, by decide +kernel, by decide +kernel⟩
abbrev s_Reader_run : Stmt := inClass (topS 26) 5
theorem sc_Reader_run : FnScope ["self", "allowed", "end"] ["self", "allowed"] (defScope s_Reader_run) := ⟨rfl, rfl, rfl, by decide +kernel, rfl, by decide +kernel, by decide +kernel⟩
abbrev s__law_source : Stmt := topS 35
theorem sc__law_source : FnScope ["script", "cells", "k"] ["script"] (defScope s__law_source) := ⟨rfl, rfl, rfl, by decide +kernel, rfl, by decide +kernel, by decide +kernel⟩
abbrev s__law_draw : Stmt := topS 36
theorem sc__law_draw : FnScope ["source", "limit", "cells", "turn", "place", "cell", "number"] ["source", "limit"] (defScope s__law_draw) := ⟨rfl, rfl, rfl, by decide +kernel, rfl, by decide +kernel, by decide +kernel⟩
abbrev s__law_pick : Stmt := topS 37
theorem sc__law_pick : FnScope ["source", "values"] ["source", "values"] (defScope s__law_pick) := ⟨rfl, rfl, rfl, by decide +kernel, rfl, by decide +kernel, by decide +kernel⟩
abbrev s__law_great : Stmt := topS 38
theorem sc__law_great : FnScope ["source", "digits", "number", "k"] ["source", "digits"] (defScope s__law_great) := ⟨rfl, rfl, rfl, by decide +kernel, rfl, by decide +kernel, by decide +kernel⟩
abbrev s__law_add : Stmt := topS 39
theorem sc__law_add : FnScope ["source", "most"] ["source", "most"] (defScope s__law_add) := ⟨rfl, rfl, rfl, by decide +kernel, rfl, by decide +kernel, by decide +kernel⟩
abbrev s__law_term : Stmt := topS 40
abbrev N__law_term : List Str := ["source", "shops", "most", "levels", "kind", "parts", "k"]
theorem sc__law_term : FnScope ["source", "shops", "most", "levels", "kind", "parts", "k"] ["source", "shops", "most", "levels"] (defScope s__law_term) := ⟨rfl, rfl, rfl, by decide +kernel, rfl, by decide +kernel, by decide +kernel⟩
abbrev v__GREATEST_NUMBER : Int := 10 ^ 30
abbrev v_MOST_SHOPS : Int := 6
abbrev v__MOST_PARTS : Int := 6
abbrev v__MOST_TERMS : Int := 40
abbrev v__MOST_LEVELS : Int := 6
/-- an error's class -/
structure XCls (K : PySem.W.Frag) (mg : Str → Option Value) (x : Str) where
  C : Addr
  g : mg x = some (.ref C)
  k : PySem.W.keepIn K (.ref C) = true
  q : PySem.W.excIn K C [.type "ValueError", .type "Exception", .type "BaseException", .type "object"] "ValueError.__new__" = true
  ex : PySem.W.subIn K (.ref C) (.type "BaseException") = some true
  ty : PySem.W.typeIn K (.ref C) = some (.type "type")
/-- a class of the program; a method of it -/
structure RdrC (K : PySem.W.Frag) (mg : Str → Option Value) where
  C : Addr
  g : mg "Reader" = some (.ref C)
  cl : Cls K C
  nT : NoAttr K C "text"
  nA : NoAttr K C "at"
structure Md (K : PySem.W.Frag) (C : Addr) (x qual : Str) (st : Stmt) (ps : List Str) where
  f : Addr
  fd : FuncData
  F : Fun K x qual st f fd
  m : Meth K C x f
  b : Binds K fd ps []
structure Top (K : PySem.W.Frag) (mg : Str → Option Value) where
  is_int : At K mg "is_int" s_is_int ["value"]
  is_int_from : At K mg "is_int_from" s_is_int_from ["value", "least", "greatest"]
  is_number : At K mg "is_number" s_is_number ["value"]
  is_leaf : At K mg "is_leaf" s_is_leaf ["term"]
  parts_of : At K mg "parts_of" s_parts_of ["term"]
  is_term : At K mg "is_term" s_is_term ["value"]
  check_term : At K mg "check_term" s_check_term ["term"]
  _has_form : At K mg "_has_form" s__has_form ["term"]
  _are_parts : At K mg "_are_parts" s__are_parts ["value"]
  _law_source : At K mg "_law_source" s__law_source ["script"]
  _law_draw : At K mg "_law_draw" s__law_draw ["source", "limit"]
  _law_pick : At K mg "_law_pick" s__law_pick ["source", "values"]
  _law_great : At K mg "_law_great" s__law_great ["source", "digits"]
  _law_add : At K mg "_law_add" s__law_add ["source", "most"]
  _law_term : At K mg "_law_term" s__law_term ["source", "shops", "most", "levels"]
  _written : At K mg "_written" s__written ["term"]
  _written_price : At K mg "_written_price" s__written_price ["shop", "add"]
  term_text : At K mg "term_text" s_term_text ["term"]
  read_term : At K mg "read_term" s_read_term ["text"]
  _read_whole : At K mg "_read_whole" s__read_whole ["reader"]
  _close : At K mg "_close" s__close ["reader", "unclosed", "term"]
  _read_start : At K mg "_read_start" s__read_start ["reader"]
  _read_plain : At K mg "_read_plain" s__read_plain ["reader"]
  _read_add : At K mg "_read_add" s__read_add ["reader"]
  _law_digits : At K mg "_law_digits" s__law_digits ["number"]
  _law_words : At K mg "_law_words" s__law_words ["term"]
  _law_loose : At K mg "_law_loose" s__law_loose ["source", "words"]
  law : At K mg "law" s_law ["script"]
  R : RdrC K mg
  R_init : Md K R.C "__init__" "Reader.__init__" s_Reader_init ["self", "text"]
  R_mk : Mk K R.C R_init.f
  R_peek : Md K R.C "peek" "Reader.peek" s_Reader_peek ["self"]
  R_sign : Md K R.C "sign" "Reader.sign" s_Reader_sign ["self", "allowed"]
  R_word : Md K R.C "word" "Reader.word" s_Reader_word ["self"]
  R_number : Md K R.C "number" "Reader.number" s_Reader_number ["self"]
  R_run : Md K R.C "run" "Reader.run" s_Reader_run ["self", "allowed"]
  g_SHOPS : ∃ t, mg "SHOPS" = some (.str "abcdef" t)
  g__LETTERS : ∃ t, mg "_LETTERS" = some (.str "abcdefghijklmnopqrstuvwxyz" t)
  g_DIGITS : ∃ t, mg "DIGITS" = some (.str "0123456789" t)
  g__MOST_DIGITS : ∃ t, mg "_MOST_DIGITS" = some (.int 31 t)
  n_str : mg "str" = none
  g__GREATEST_NUMBER : ∃ t, mg "_GREATEST_NUMBER" = some (.int v__GREATEST_NUMBER t)
  g_MOST_SHOPS : ∃ t, mg "MOST_SHOPS" = some (.int v_MOST_SHOPS t)
  g__MOST_PARTS : ∃ t, mg "_MOST_PARTS" = some (.int v__MOST_PARTS t)
  g__MOST_TERMS : ∃ t, mg "_MOST_TERMS" = some (.int v__MOST_TERMS t)
  g__MOST_LEVELS : ∃ t, mg "_MOST_LEVELS" = some (.int v__MOST_LEVELS t)
  InvalidTerm : XCls K mg "InvalidTerm"
  n_len : mg "len" = none
  n_isinstance : mg "isinstance" = none
  n_abs : mg "abs" = none
  n_range : mg "range" = none
  n_int : mg "int" = none
  n_bool : mg "bool" = none
  n_tuple : mg "tuple" = none
section
variable {P : Program} {w : World} {K : PySem.W.Frag} {mg : Str → Option Value} {base : Heap}
abbrev RIsInt : List PyData → PyData → Prop := fun ds r => ∃ d, ds = [d] ∧ r = .bool (isI d)
theorem ok_is_int (T : Top K mg) : FnOk P w K mg base CX0 1 T.is_int.f T.is_int.fd ["value"] (spR K RIsInt) := by
  refine T.is_int.F.ok sc_is_int (fun vs H Q E h => ?_) (fun cdv A outer s H vs Q E hr h => ?_)
  · obtain ⟨M, ds, r, _, hv, ⟨d, rfl, _⟩, _⟩ := h
    exact dpa_len hv
  obtain ⟨M, ds, r, hM, hv, ⟨d, rfl, rfl⟩, q⟩ := h
  obtain ⟨v, rfl, hd⟩ := dpa1 hv
  refine ⟨_, (pss_one (ps_ret (pe_and (pe_callB call_isi (by rfl) T.n_isinstance (by decide +kernel) (pa_cons (pv 0) (pa_cons (pe_bltn (v := .ty "int") rfl T.n_int (by decide +kernel) rfl) pa_nil))) (pe_one (pe_not (pe_callB call_isi (by rfl) T.n_isinstance (by decide +kernel) (pa_cons (pv 0) (pa_cons (pe_bltn (v := .ty "bool") rfl T.n_bool (by decide +kernel) rfl) pa_nil)))))))), ?_⟩
  exact Evl.s_ret (Evl.ev_is (Evl.ev_andV (ev_isi (de_v hd (by rfl)) (kit_int d)) (fun _ => Evl.ev_notV (ev_isi (de_v hd (by rfl)) (kit_bool d)))) (congrArg V.bl (isI_eq d))) fun H1 e => q _ H1 e (sc_dp rfl)
def inR (lo hi : Int) : PyData → Bool
  | .int i => decide (lo ≤ i) && decide (i ≤ hi)
  | _ => false
abbrev RFrom : List PyData → PyData → Prop := fun ds r => ∃ d lo hi, ds = [d, .int lo, .int hi] ∧ r = .bool (inR lo hi d)
theorem ok_is_int_from (T : Top K mg) : FnOk P w K mg base CX0 2 T.is_int_from.f T.is_int_from.fd ["value", "least", "greatest"] (spR K RFrom) := by
  refine T.is_int_from.F.ok sc_is_int_from (fun vs H Q E h => ?_) (fun cdv A outer s H vs Q E hr h => ?_)
  · obtain ⟨M, ds, r, _, hv, ⟨d, lo, hi, rfl, _⟩, _⟩ := h
    exact dpa_len hv
  obtain ⟨M, ds, r, hM, hv, ⟨d, lo, hi, rfl, rfl⟩, q⟩ := h
  obtain ⟨v, v1, v2, rfl, hd, h1, h2⟩ := dpa3 hv
  obtain rfl := dpInt h1
  obtain rfl := dpInt h2
  refine ⟨_, (pss_one (ps_ret (pe_and (pe_call (ok_is_int T) (hr.mono (by omega)) (by rfl) T.is_int.g T.is_int.F.kp T.is_int.b .nil pass0 (pa_cons (pv 0) pa_nil)) (pe_one (pe_chain op_le op_le (pv 1) (pv 0) (pv 2)))))), ?_⟩
  have h0 : Evl.Ev (tCall (spR K RIsInt) [] E0 (tCons (tVar 0) tNil)) [some v, some (.int lo), some (.int hi)] H (.bl (isI d)) := ev_sc (de_callR hM (da_cons (de_v hd (by rfl)) da_nil) (R := RIsInt) ⟨d, rfl, rfl⟩) rfl
  cases hI : isI d with
  | false =>
    rw [hI] at h0
    refine Evl.s_ret (Evl.ev_andV h0 (b := false) (fun z => nomatch z)) fun H1 e => q _ H1 e ?_
    have : inR lo hi d = false := by
      cases d <;> first | rfl | cases hI
    rw [this]
    exact .bl _
  | true =>
    rw [hI] at h0
    cases d with
    | int i =>
      obtain rfl := dpInt hd
      exact Evl.s_ret (Evl.ev_andV h0 (fun _ => ev_chain (Evl.ev_var rfl) (Evl.ev_var rfl) (fun _ => Evl.ev_var rfl))) fun H1 e => q _ H1 e (.bl _)
    | _ => cases hI
abbrev RNum : List PyData → PyData → Prop := fun ds r => ∃ n, ds = [.int n] ∧ r = .bool (num n)
theorem ok_is_number (T : Top K mg) : FnOk P w K mg base CX0 3 T.is_number.f T.is_number.fd ["value"] (spR K RNum) := by
  refine T.is_number.F.ok sc_is_number (fun vs H Q E h => ?_) (fun cdv A outer s H vs Q E hr h => ?_)
  · obtain ⟨M, ds, r, _, hv, ⟨n, rfl, _⟩, _⟩ := h
    exact dpa_len hv
  obtain ⟨M, ds, r, hM, hv, ⟨n, rfl, rfl⟩, q⟩ := h
  obtain ⟨v, rfl, hd⟩ := dpa1 hv
  obtain rfl := dpInt hd
  refine ⟨_, (pss_one (ps_ret (pe_call (ok_is_int_from T) (hr.mono (by omega)) (by rfl) T.is_int_from.g T.is_int_from.F.kp T.is_int_from.b .nil pass0 (pa_cons (pv 0) (pa_cons (pe_un un_neg (pe_globI rfl T.g__GREATEST_NUMBER)) (pa_cons (pe_globI rfl T.g__GREATEST_NUMBER) pa_nil)))))), ?_⟩
  exact Evl.s_ret (ev_sc (de_callR (E := E0) hM (da_cons (de_sc (Evl.ev_var rfl) rfl) (da_cons (de_sc (Evl.ev_un Evl.ev_c Evl.ru_neg) rfl) (da_cons (de_sc Evl.ev_c rfl) da_nil))) (R := RFrom) ⟨.int n, _, _, rfl, rfl⟩) rfl) fun H1 e => q _ H1 e (.bl _)
theorem ev_word {t : Trm} {σ : L2.St} {H : Hp} {M : List Addr} {v : V} {te : TE} (h : Evl.Ev te σ H v) (hv : Dm K M H v (enc t)) : Evl.Ev (tOp (rIxT K) te (tC (.int 0))) σ H (.str (word t)) := by
  have hd := de_ev (K := K) (M := M) h hv
  rw [enc_eq] at hd
  exact ev_sc (de_ixT hd Evl.ev_c (encL_word t)) rfl
abbrev RLeaf : List PyData → PyData → Prop := fun ds r => ∃ t, ds = [enc t] ∧ r = .bool (leaf t)
theorem ok_is_leaf (T : Top K mg) : FnOk P w K mg base CX0 1 T.is_leaf.f T.is_leaf.fd ["term"] (spR K RLeaf) := by
  refine T.is_leaf.F.ok sc_is_leaf (fun vs H Q E h => ?_) (fun cdv A outer s H vs Q E hr h => ?_)
  · obtain ⟨M, ds, r, _, hv, ⟨t, rfl, _⟩, _⟩ := h
    exact dpa_len hv
  obtain ⟨M, ds, r, hM, hv, ⟨t, rfl, rfl⟩, q⟩ := h
  obtain ⟨v, rfl, hd⟩ := dpa1 hv
  refine ⟨_, (pss_one (ps_ret (pe_or (pe_cmpR op_eq (pe_ix ix_tup (pv 0) pe_int (fun _ _ => rfl)) pe_str (nomark _)) (pe_one (pe_cmpR op_eq (pe_ix ix_tup (pv 0) pe_int (fun _ _ => rfl)) pe_str (nomark _)))))), ?_⟩
  exact Evl.s_ret (Evl.ev_is (Evl.ev_orV (Evl.ev_op (ev_word (Evl.ev_var (by rfl)) hd) Evl.ev_c (Evl.rv_eq rfl)) (fun _ => Evl.ev_op (ev_word (Evl.ev_var (by rfl)) hd) Evl.ev_c (Evl.rv_eq rfl))) (congrArg V.bl (leaf_word t).symm)) fun H1 e => q _ H1 e (.bl _)
abbrev RParts : List PyData → PyData → Prop := fun ds r => ∃ t, ds = [enc t] ∧ r = .tuple ((kids t).map enc)
theorem ok_parts_of (T : Top K mg) : FnOk P w K mg base CX0 2 T.parts_of.f T.parts_of.fd ["term"] (spR K RParts) := by
  refine T.parts_of.F.ok sc_parts_of (fun vs H Q E h => ?_) (fun cdv A outer s H vs Q E hr h => ?_)
  · obtain ⟨M, ds, r, _, hv, ⟨t, rfl, _⟩, _⟩ := h
    exact dpa_len hv
  obtain ⟨M, ds, r, hM, hv, ⟨t, rfl, rfl⟩, q⟩ := h
  obtain ⟨v, rfl, hd⟩ := dpa1 hv
  refine ⟨_, (pss_cons (ps_if (pt_val (pe_call (ok_is_leaf T) (hr.mono (by omega)) (by rfl) T.is_leaf.g T.is_leaf.F.kp T.is_leaf.b .nil pass0 (pa_cons (pv 0) pa_nil))) (pss_one (ps_ret (pe_tup pa_nil))) pss_nil)
      (pss_one (ps_ret (pe_ix ix_tup (pv 0) (pe_un un_neg pe_int) (fun _ _ => rfl))))), ?_⟩
  refine Evl.q_when (Evl.et_B (ev_sc (de_callR (E := E0) hM (da_cons (de_v hd (by rfl)) da_nil) (R := RLeaf) ⟨t, rfl, rfl⟩) rfl)) (fun hb H1 e1 => ?_) (fun hb H1 e1 => ?_)
  · rw [leaf_kids hb] at q
    exact s_retD (de_tup (hM.ex e1) da_nil (by simp)) fun v H2 e2 hv => q v H2 (e1.trans e2) hv
  · have hd2 := hd
    rw [enc_eq] at hd2
    exact s_retD (de_ixT (DE.mono e1 (de_v hd2 (by rfl))) (Evl.ev_un Evl.ev_c Evl.ru_neg) (encL_kids hb)) fun v H2 e2 hv => q v H2 (e1.trans e2) hv
abbrev RArePs : List PyData → PyData → Prop := fun ds r => ∃ xs, ds = [.tuple xs] ∧ r = .bool (decide ((1 : Int) ≤ (xs.length : Int)) && decide ((xs.length : Int) ≤ 6))
theorem ok__are_parts (T : Top K mg) : FnOk P w K mg base CX0 1 T._are_parts.f T._are_parts.fd ["value"] (spR K RArePs) := by
  refine T._are_parts.F.ok sc__are_parts (fun vs H Q E h => ?_) (fun cdv A outer s H vs Q E hr h => ?_)
  · obtain ⟨M, ds, r, _, hv, ⟨xs, rfl, _⟩, _⟩ := h
    exact dpa_len hv
  obtain ⟨M, ds, r, hM, hv, ⟨xs, rfl, rfl⟩, q⟩ := h
  obtain ⟨v, rfl, hd⟩ := dpa1 hv
  refine ⟨_, (pss_one (ps_ret (pe_and (pe_callB call_isi (by rfl) T.n_isinstance (by decide +kernel) (pa_cons (pv 0) (pa_cons (pe_bltn (v := .ty "tuple") rfl T.n_tuple (by decide +kernel) rfl) pa_nil))) (pe_one (pe_chain op_le op_le pe_int (pe_callB (r := Evl.rLenS K) call_len_seq (by rfl) T.n_len PySem.boot_len (pa_cons (pv 0) pa_nil)) (pe_globI rfl T.g__MOST_PARTS)))))), ?_⟩
  exact Evl.s_ret (Evl.ev_andV (ev_isi (de_v hd (by rfl)) (kit_tuple _)) (fun _ => ev_chain Evl.ev_c (ev_lenD (de_v hd (by rfl)) (.inl rfl)) (fun _ => Evl.ev_c))) fun H1 e => q _ H1 e (.bl _)
abbrev RForm : List PyData → PyData → Prop := fun ds r => ∃ t, ds = [enc t] ∧ r = .bool (form t)
theorem ok__has_form (T : Top K mg) : FnOk P w K mg base CX0 4 T._has_form.f T._has_form.fd ["term"] (spR K RForm) := by
  refine T._has_form.F.ok sc__has_form (fun vs H Q E h => ?_) (fun cdv A outer s H vs Q E hr h => ?_)
  · obtain ⟨M, ds, r, _, hv, ⟨t, rfl, _⟩, _⟩ := h
    exact dpa_len hv
  obtain ⟨M, ds, r, hM, hv, ⟨t, rfl, rfl⟩, q⟩ := h
  obtain ⟨v, rfl, hd⟩ := dpa1 hv
  refine ⟨_, (pss_cons (ps_if (PW.pt (pw_or (pt_not (pt_val (pe_callB call_isi (by rfl) T.n_isinstance (by decide +kernel) (pa_cons (pv 0) (pa_cons (pe_bltn (v := .ty "tuple") rfl T.n_tuple (by decide +kernel) rfl) pa_nil))))) (pw_or1 (pt_cmpR op_eq (pe_callB (r := Evl.rLenS K) call_len_seq (by rfl) T.n_len PySem.boot_len (pa_cons (pv 0) pa_nil)) pe_int (nomark _))))) (pss_one (ps_ret pe_bl)) pss_nil)
      (pss_cons (ps_set (i := 1) sc__has_form.nd rfl (Or.inl rfl) (pe_ix ix_tup (pv 0) pe_int (fun _ _ => rfl)))
      (pss_cons (ps_if (pt_cmpR op_eq (pv 1) pe_str (nomark _)) (pss_one (ps_ret (pe_and (pe_cmpR op_eq (pe_callB (r := Evl.rLenS K) call_len_seq (by rfl) T.n_len PySem.boot_len (pa_cons (pv 0) pa_nil)) pe_int (nomark _)) (pe_and (pe_call (ok_is_int_from T) (hr.mono (by omega)) (by rfl) T.is_int_from.g T.is_int_from.F.kp T.is_int_from.b .nil pass0 (pa_cons (pe_ix ix_tup (pv 0) pe_int (fun _ _ => rfl)) (pa_cons pe_int (pa_cons (pe_op op_sub (pe_globI rfl T.g_MOST_SHOPS) pe_int) pa_nil)))) (pe_one (pe_call (ok_is_number T) (hr.mono (by omega)) (by rfl) T.is_number.g T.is_number.F.kp T.is_number.b .nil pass0 (pa_cons (pe_ix ix_tup (pv 0) pe_int (fun _ _ => rfl)) pa_nil))))))) pss_nil)
      (pss_cons (ps_if (pt_cmpR op_eq (pv 1) pe_str (nomark _)) (pss_one (ps_ret (pe_and (pe_cmpR op_eq (pe_callB (r := Evl.rLenS K) call_len_seq (by rfl) T.n_len PySem.boot_len (pa_cons (pv 0) pa_nil)) pe_int (nomark _)) (pe_one (pe_call (ok_is_number T) (hr.mono (by omega)) (by rfl) T.is_number.g T.is_number.F.kp T.is_number.b .nil pass0 (pa_cons (pe_ix ix_tup (pv 0) pe_int (fun _ _ => rfl)) pa_nil)))))) pss_nil)
      (pss_cons (ps_if (pt_cmpR op_eq (pv 1) pe_str (nomark _)) (pss_one (ps_ret (pe_and (pe_cmpR op_eq (pe_callB (r := Evl.rLenS K) call_len_seq (by rfl) T.n_len PySem.boot_len (pa_cons (pv 0) pa_nil)) pe_int (nomark _)) (pe_and (pe_call (ok__are_parts T) (hr.mono (by omega)) (by rfl) T._are_parts.g T._are_parts.F.kp T._are_parts.b .nil pass0 (pa_cons (pe_ix ix_tup (pv 0) pe_int (fun _ _ => rfl)) pa_nil)) (pe_one (pe_call (ok_is_int_from T) (hr.mono (by omega)) (by rfl) T.is_int_from.g T.is_int_from.F.kp T.is_int_from.b .nil pass0 (pa_cons (pe_ix ix_tup (pv 0) pe_int (fun _ _ => rfl)) (pa_cons pe_int (pa_cons (pe_callB (r := Evl.rLenS K) call_len_seq (by rfl) T.n_len PySem.boot_len (pa_cons (pe_ix ix_tup (pv 0) pe_int (fun _ _ => rfl)) pa_nil)) pa_nil))))))))) pss_nil)
      (pss_one (ps_ret (pe_and (pe_or (pe_cmpR op_eq (pv 1) pe_str (nomark _)) (pe_one (pe_cmpR op_eq (pv 1) pe_str (nomark _)))) (pe_and (pe_cmpR op_eq (pe_callB (r := Evl.rLenS K) call_len_seq (by rfl) T.n_len PySem.boot_len (pa_cons (pv 0) pa_nil)) pe_int (nomark _)) (pe_one (pe_call (ok__are_parts T) (hr.mono (by omega)) (by rfl) T._are_parts.g T._are_parts.F.kp T._are_parts.b .nil pass0 (pa_cons (pe_ix ix_tup (pv 0) pe_int (fun _ _ => rfl)) pa_nil)))))))))))), ?_⟩
  have hd2 : Dm K M H v (.tuple (encL t)) := by
    rw [← enc_eq]
    exact hd
  have hlen := encL_len t
  refine Evl.q_when (b := false) (Evl.et_is (Evl.et_or (Evl.et_not (Evl.et_B (ev_isi (de_v hd2 (by rfl)) (kit_tuple _)))) (fun _ => Evl.et_test (Evl.ev_op (ev_lenD (de_v hd2 (by rfl)) (.inl rfl)) Evl.ev_c (Evl.rv_eq rfl))))
    (by
      have : ¬ V.int ((encL t).length : Int) = V.int 0 := fun z => by
        have := V.int.inj z
        omega
      simp [isTup, this])) (fun hb => nomatch hb) fun _ H1 e1 => ?_
  have hd3 := dm_ex e1 hd2
  refine Evl.q_asg (ev_word (Evl.ev_var (by rfl)) (dm_ex e1 hd)) fun H2 e2 => ?_
  have hd4 := dm_ex e2 hd3
  have e12 := e1.trans e2
  have hM2 := hM.ex e12
  clear hd hd2 hd3 hv
  match t, hd4, q with
  | .price a n, hd4, q =>
    refine Evl.q_when (b := true) (Evl.et_is (Evl.et_test (Evl.ev_op (Evl.ev_var rfl) Evl.ev_c (Evl.rv_eq rfl))) rfl) (fun _ H3 e3 => ?_) (fun hb => nomatch hb)
    have hd5 := dm_ex e3 hd4
    refine Evl.s_ret (Evl.ev_is (Evl.ev_andV (Evl.ev_op (ev_lenD (de_v hd5 (by rfl)) (.inl rfl)) Evl.ev_c (Evl.rv_eq rfl)) (fun _ => Evl.ev_andV
      (ev_sc (de_callR (E := E0) (hM2.ex e3) (da_cons (de_ixT (de_v hd5 (by rfl)) Evl.ev_c (d := .int a) rfl) (da_cons (de_sc Evl.ev_c rfl) (da_cons (de_sc (Evl.ev_op Evl.ev_c Evl.ev_c Evl.rv_I0) rfl) da_nil))) (R := RFrom) ⟨.int a, 0, 5, rfl, rfl⟩) rfl)
      (fun _ => ev_sc (de_callR (E := E0) (hM2.ex e3) (da_cons (de_ixT (de_v hd5 (by rfl)) Evl.ev_c (d := .int n) rfl) da_nil) (R := RNum) ⟨n, rfl, rfl⟩) rfl))) rfl) fun H4 e4 => q _ H4 (e12.trans (e3.trans e4)) (.bl _)
  | .plain n, hd4, q =>
    refine Evl.q_when (b := false) (Evl.et_is (Evl.et_test (Evl.ev_op (Evl.ev_var rfl) Evl.ev_c (Evl.rv_eq rfl))) rfl) (fun hb => nomatch hb) (fun _ H3 e3 => ?_)
    refine Evl.q_when (b := true) (Evl.et_is (Evl.et_test (Evl.ev_op (Evl.ev_var rfl) Evl.ev_c (Evl.rv_eq rfl))) rfl) (fun _ H4 e4 => ?_) (fun hb => nomatch hb)
    have hd5 := dm_ex (e3.trans e4) hd4
    refine Evl.s_ret (Evl.ev_is (Evl.ev_andV (Evl.ev_op (ev_lenD (de_v hd5 (by rfl)) (.inl rfl)) Evl.ev_c (Evl.rv_eq rfl))
      (fun _ => ev_sc (de_callR (E := E0) (hM2.ex (e3.trans e4)) (da_cons (de_ixT (de_v hd5 (by rfl)) Evl.ev_c (d := .int n) rfl) da_nil) (R := RNum) ⟨n, rfl, rfl⟩) rfl)) rfl) fun H5 e5 => q _ H5 (e12.trans ((e3.trans e4).trans e5)) (.bl _)
  | .node (.rank k) ps, hd4, q =>
    refine Evl.q_when (b := false) (Evl.et_is (Evl.et_test (Evl.ev_op (Evl.ev_var rfl) Evl.ev_c (Evl.rv_eq rfl))) rfl) (fun hb => nomatch hb) (fun _ H3 e3 => ?_)
    refine Evl.q_when (b := false) (Evl.et_is (Evl.et_test (Evl.ev_op (Evl.ev_var rfl) Evl.ev_c (Evl.rv_eq rfl))) rfl) (fun hb => nomatch hb) (fun _ H4 e4 => ?_)
    refine Evl.q_when (b := true) (Evl.et_is (Evl.et_test (Evl.ev_op (Evl.ev_var rfl) Evl.ev_c (Evl.rv_eq rfl))) rfl) (fun _ H5 e5 => ?_) (fun hb => nomatch hb)
    have e35 := (e3.trans e4).trans e5
    have hd5 := dm_ex e35 hd4
    have hl : (((ps.map enc).length : Nat) : Int) = (ps.length : Int) := by rw [List.length_map]
    refine Evl.s_ret (Evl.ev_is (Evl.ev_andV (Evl.ev_op (ev_lenD (de_v hd5 (by rfl)) (.inl rfl)) Evl.ev_c (Evl.rv_eq rfl)) (fun _ => Evl.ev_andV
      (ev_sc (de_callR (E := E0) (hM2.ex e35) (da_cons (de_ixT (de_v hd5 (by rfl)) Evl.ev_c (d := .tuple (ps.map enc)) rfl) da_nil) (R := RArePs) ⟨_, rfl, rfl⟩) rfl)
      (fun _ => ev_sc (de_callR (E := E0) (hM2.ex e35) (da_cons (de_ixT (de_v hd5 (by rfl)) Evl.ev_c (d := .int k) rfl) (da_cons (de_sc Evl.ev_c rfl) (da_cons (de_sc (ev_lenD (de_ixT (de_v hd5 (by rfl)) Evl.ev_c (d := .tuple (ps.map enc)) rfl) (.inl rfl)) rfl) da_nil))) (R := RFrom) ⟨.int k, 1, _, rfl, rfl⟩) rfl)))
      (by simp only [form, inR, hl]; rfl)) fun H6 e6 => q _ H6 (e12.trans (e35.trans e6)) (.bl _)
  | .node .least ps, hd4, q =>
    refine Evl.q_when (b := false) (Evl.et_is (Evl.et_test (Evl.ev_op (Evl.ev_var rfl) Evl.ev_c (Evl.rv_eq rfl))) rfl) (fun hb => nomatch hb) (fun _ H3 e3 => ?_)
    refine Evl.q_when (b := false) (Evl.et_is (Evl.et_test (Evl.ev_op (Evl.ev_var rfl) Evl.ev_c (Evl.rv_eq rfl))) rfl) (fun hb => nomatch hb) (fun _ H4 e4 => ?_)
    refine Evl.q_when (b := false) (Evl.et_is (Evl.et_test (Evl.ev_op (Evl.ev_var rfl) Evl.ev_c (Evl.rv_eq rfl))) rfl) (fun hb => nomatch hb) (fun _ H5 e5 => ?_)
    have e35 := (e3.trans e4).trans e5
    have hd5 := dm_ex e35 hd4
    have hl : (((ps.map enc).length : Nat) : Int) = (ps.length : Int) := by rw [List.length_map]
    refine Evl.s_ret (Evl.ev_is (Evl.ev_andV (a := true) (Evl.ev_is (Evl.ev_orV (Evl.ev_op (Evl.ev_var rfl) Evl.ev_c (Evl.rv_eq rfl)) (fun _ => Evl.ev_op (Evl.ev_var rfl) Evl.ev_c (Evl.rv_eq rfl))) rfl)
      (fun _ => Evl.ev_andV (Evl.ev_op (ev_lenD (de_v hd5 (by rfl)) (.inl rfl)) Evl.ev_c (Evl.rv_eq rfl))
      (fun _ => ev_sc (de_callR (E := E0) (hM2.ex e35) (da_cons (de_ixT (de_v hd5 (by rfl)) Evl.ev_c (d := .tuple (ps.map enc)) rfl) da_nil) (R := RArePs) ⟨_, rfl, rfl⟩) rfl)))
      (by simp only [form, hl]; rfl)) fun H6 e6 => q _ H6 (e12.trans (e35.trans e6)) (.bl _)
  | .node .most ps, hd4, q =>
    refine Evl.q_when (b := false) (Evl.et_is (Evl.et_test (Evl.ev_op (Evl.ev_var rfl) Evl.ev_c (Evl.rv_eq rfl))) rfl) (fun hb => nomatch hb) (fun _ H3 e3 => ?_)
    refine Evl.q_when (b := false) (Evl.et_is (Evl.et_test (Evl.ev_op (Evl.ev_var rfl) Evl.ev_c (Evl.rv_eq rfl))) rfl) (fun hb => nomatch hb) (fun _ H4 e4 => ?_)
    refine Evl.q_when (b := false) (Evl.et_is (Evl.et_test (Evl.ev_op (Evl.ev_var rfl) Evl.ev_c (Evl.rv_eq rfl))) rfl) (fun hb => nomatch hb) (fun _ H5 e5 => ?_)
    have e35 := (e3.trans e4).trans e5
    have hd5 := dm_ex e35 hd4
    have hl : (((ps.map enc).length : Nat) : Int) = (ps.length : Int) := by rw [List.length_map]
    refine Evl.s_ret (Evl.ev_is (Evl.ev_andV (a := true) (Evl.ev_is (Evl.ev_orV (Evl.ev_op (Evl.ev_var rfl) Evl.ev_c (Evl.rv_eq rfl)) (fun _ => Evl.ev_op (Evl.ev_var rfl) Evl.ev_c (Evl.rv_eq rfl))) rfl)
      (fun _ => Evl.ev_andV (Evl.ev_op (ev_lenD (de_v hd5 (by rfl)) (.inl rfl)) Evl.ev_c (Evl.rv_eq rfl))
      (fun _ => ev_sc (de_callR (E := E0) (hM2.ex e35) (da_cons (de_ixT (de_v hd5 (by rfl)) Evl.ev_c (d := .tuple (ps.map enc)) rfl) da_nil) (R := RArePs) ⟨_, rfl, rfl⟩) rfl)))
      (by simp only [form, hl]; rfl)) fun H6 e6 => q _ H6 (e12.trans (e35.trans e6)) (.bl _)
end
end K03

set_option Elab.async false
set_option linter.all false
set_option maxRecDepth 100000
set_option maxHeartbeats 4000000
namespace K03
open PySem PySem.Spec PyProof.Rows L2 DK DD TM
section
variable {P : Program} {w : World} {K : PySem.W.Frag} {mg : Str → Option Value} {base : Heap}
instance (t : Trm) : Decidable (okT t) := by
  unfold okT
  infer_instance
abbrev RTerm : List PyData → PyData → Prop := fun ds r => ∃ t, ds = [enc t] ∧ r = .bool (decide (okT t))
/-- check_term(term) -/
def spChk (K : PySem.W.Frag) (C : Addr) : Sp := fun vs H Q E => ∃ M t v, vs = [v] ∧ Dom M H ∧ Dm K M H v (enc t) ∧ (okT t → ∀ H', Evl.Ex H H' → Q .non H') ∧ (¬ okT t → ∀ H', Evl.Ex H H' → E (.ref C) none H')
def encE (e : Trm × Nat) : PyData := .tuple [enc e.1, .int (e.2 : Int)]
theorem ok_is_term (T : Top K mg) : FnOk P w K mg base CX0 5 T.is_term.f T.is_term.fd ["value"] (spR K RTerm) := by
  refine T.is_term.F.ok sc_is_term (fun vs H Q E h => ?_) (fun cdv A outer s H vs Q E hr h => ?_)
  · obtain ⟨M, ds, r, _, hv, ⟨d, rfl, _⟩, _⟩ := h
    exact dpa_len hv
  obtain ⟨M, ds, r, hM, hv, ⟨t, rfl, rfl⟩, q⟩ := h
  obtain ⟨v, rfl, hd⟩ := dpa1 hv
  have qO : okT t → ∀ H', Evl.Ex H H' → Q (.bl true) H' := fun h H' e => q _ H' e (by rw [decide_eq_true h]; exact .bl true)
  have qE : ¬ okT t → ∀ H', Evl.Ex H H' → Q (.bl false) H' := fun h H' e => q _ H' e (by rw [decide_eq_false h]; exact .bl false)
  refine ⟨_, (pss_cons (ps_set (i := 1) sc_is_term.nd rfl (Or.inl rfl) (pe_lst (pa_cons (pe_tup (pa_cons (pv 0) (pa_cons pe_int pa_nil))) pa_nil)))
      (pss_cons (ps_set (i := 2) sc_is_term.nd rfl (Or.inl rfl) pe_int)
      (pss_cons (ps_while PassesOwn.never (pt_truth (pv 1) (by intro _; rfl)) (pss_cons (ps_asg (pe_bm0 PySem.F.plainAttrs_list PySem.F.slot_list_pop PySem.F.type_list_pop mt_pop (pv 1)) (pg_tup rfl (pgs_cons (pg_name (i := 3) sc_is_term.nd rfl (Or.inl rfl)) (pgs_cons (pg_name (i := 4) sc_is_term.nd rfl (Or.inr rfl)) pgs_nil))))
      (pss_cons (ps_aug (i := 2) sc_is_term.nd rfl (Or.inl rfl) pe_int ip_add)
      (pss_cons (ps_if (PW.pt (pw_or (pt_cmpR op_gt (pv 2) (pe_globI rfl T.g__MOST_TERMS) (nomark _)) (pw_or (pt_cmpR op_gt (pv 4) (pe_globI rfl T.g__MOST_LEVELS) (nomark _)) (pw_or1 (pt_not (pt_val (pe_call (ok__has_form T) (hr.mono (by omega)) (by rfl) T._has_form.g T._has_form.F.kp T._has_form.b .nil pass0 (pa_cons (pv 3) pa_nil)))))))) (pss_one (ps_ret pe_bl)) pss_nil)
      (pss_one (ps_expr (pe_bm PySem.F.plainAttrs_list PySem.F.slot_list_extend PySem.F.type_list_extend mt_extend (pv 1) (pa_cons (pe_lc (own := [("inner", 5)]) (g := gName 5) (tt := tYes) rfl sc_is_term.nd (pi_tup (pe_call (ok_parts_of T) (hr.mono (by omega)) (by rfl) T.parts_of.g T.parts_of.F.kp T.parts_of.b .nil pass0 (pa_cons (pv 3) pa_nil))) (blkOk_by (N := N_is_term) (sc := defScope s_is_term) (by decide +kernel)) (fun _ _ _ _ _ => (pg_name (i := 5) sc_is_term.nd rfl (Or.inl rfl))) (fun _ _ _ _ _ => pts_nil) (fun _ _ _ _ _ => (pe_tup (pa_cons (pv 5) (pa_cons (pe_op op_add (pv 4) pe_int) pa_nil))))) pa_nil))))))))
      (pss_one (ps_ret pe_bl))))), ?_⟩
  refine q_asgDL (dl_lst (da_cons (de_tup hM (da_cons (de_v hd (by rfl)) (da_cons (de_sc Evl.ev_c (d := .int 1) rfl) da_nil)) (by simp)) da_nil) (by simp)) fun p vs H1 n1 e1 h1 d1 => ?_
  refine Evl.q_asg Evl.ev_c fun H2 e2 => ?_
  have e12 := e1.trans e2
  refine Evl.q_while (fun m σ' H' => ∃ (pile : List (Trm × Nat)) (many : Nat) (x3 x4 x5 : Option V) (us : List V), σ' = [some v, some (.ref p), some (.int (many : Int)), x3, x4, x5] ∧ Evl.Ex H H' ∧ H' p = some (.lst us) ∧
      Dms K (p :: M) H' us (pile.map encE) ∧ m = cnts (pile.map (·.1)) ∧ many ≤ 40 ∧ us.length ≤ 1 + 6 * many ∧ (okT t ↔ many + cnts (pile.map (·.1)) ≤ 40 ∧ ∀ e ∈ pile, good e)) (cnt t)
    ⟨[(t, 1)], 0, none, none, none, vs, rfl, e12, e2 _ _ h1, dms_ex e2 d1, by simp [cnts], by omega, by have := dpa_len d1; simp at this; omega, ?_⟩ (fun m σ' H' hW => ?_)
  · simp only [List.map_cons, List.map_nil, cnts, List.mem_singleton, forall_eq, good, okT]
    constructor
    · rintro ⟨a, b, c⟩
      exact ⟨by omega, by omega, c⟩
    · rintro ⟨a, b, c⟩
      exact ⟨by omega, by omega, c⟩
  · obtain ⟨pile, many, x3, x4, x5, us, rfl, eH, hp, hus, rfl, m40, u400, iff⟩ := hW
    refine ⟨_, et_truL (Evl.ev_var rfl) (Evl.sq_of hp), fun hb H3 e3 => ?_, fun hb H3 e3 => ?_⟩
    · -- a turn
      obtain ⟨pl, u, lv, rfl⟩ : ∃ pl u lv, pile = pl ++ [(u, lv)] := by
        cases hz : pile.getLast? with
        | none =>
          rw [List.getLast?_eq_none_iff] at hz
          subst hz
          cases hus
          cases hb
        | some e =>
          obtain ⟨ys, hys⟩ := List.getLast?_eq_some_iff.mp hz
          exact ⟨ys, e.1, e.2, hys⟩
      rw [List.map_append] at hus
      obtain ⟨vs', y, rfl, dvs, dy⟩ := dpa_snoc hus
      obtain ⟨a, z1, rfl, hsq, hz1⟩ : ∃ a z1, y = .ref a ∧ SqT K (mi H' (p :: M)) a [z1, .int (lv : Int)] ∧ Dm K (p :: M) H' z1 (enc u) := by
        have dy' : Dm K (p :: M) H' y (.tuple [enc u, .int (lv : Int)]) := dy
        cases dy' with
        | tup hs hv =>
          obtain ⟨v1, v2, rfl, h1', h2'⟩ := dpa2 hv
          obtain rfl := dpInt h2'
          exact ⟨_, v1, rfl, hs, h1'⟩
      refine ⟨fun σ2 H2 => ∃ m', m' < cnts ((pl ++ [(u, lv)]).map (·.1)) ∧ _, fun σ2 H2 z => z, ?_⟩
      have hp3 := e3 _ _ hp
      -- part, level = waiting.pop()
      refine ⟨.ref p, rfl, .inl ⟨rfl, _, Evl.sq_of hp3⟩, p, _, .ref a, rfl, rfl, hp3, by simp, ?_⟩
      have eM : ExM (p :: M) H3 (upd H3 p (.lst (vs' ++ [V.ref a]).dropLast)) := ExM.mut (by simp)
      have hp4 : upd H3 p (.lst (vs' ++ [V.ref a]).dropLast) p = some (.lst vs') := by
        rw [upd_same, List.dropLast_concat]
      have eH4 : Evl.Ex H (upd H3 p (.lst (vs' ++ [V.ref a]).dropLast)) := (eH.trans e3).mut n1
      generalize upd H3 p (.lst (vs' ++ [V.ref a]).dropLast) = H4 at eM hp4 eH4
      have hsq4 : SqT K H4 a [z1, .int (lv : Int)] := Evl.ex_t (ex_full _ _) (Evl.ex_t (exM_mi eM) (Evl.ex_t (ex_mi e3) hsq))
      have hz4 := dm_exM eM (dm_ex e3 hz1)
      have dv4 := dms_exM eM (dms_ex e3 dvs)
      refine ⟨a, _, rfl, hsq4, rfl, z1, [.int (lv : Int)], rfl, .int (lv : Int), [], rfl, rfl, ?_⟩
      -- many += 1
      refine Evl.q_aug rfl Evl.ev_c fun H5 e5 => ?_
      have hM5 : Dom (p :: M) H5 := (hM.ex (eH4.trans e5)).cons (by rw [e5 _ _ hp4]; exact fun z => nomatch z)
      have cu := cnt_pos u
      have gi := good_iff u lv
      have ec : cnts ((pl ++ [(u, lv)]).map (·.1)) = cnts (pl.map (·.1)) + cnt u := by
        rw [List.map_append, cnts_app]
        simp [cnts]
      -- the test
      refine Evl.q_when (Evl.et_or (Evl.et_test (Evl.ev_op (Evl.ev_var rfl) Evl.ev_c Evl.rv_I0)) (fun _ => Evl.et_or (Evl.et_test (Evl.ev_op (Evl.ev_var rfl) Evl.ev_c Evl.rv_I0))
        (fun _ => Evl.et_not (Evl.et_B (ev_sc (de_callR (E := E0) hM5 (da_cons (de_v (dm_ex e5 hz4) (by rfl)) da_nil) (R := RForm) ⟨u, rfl, rfl⟩) rfl))))) (fun hb H6 e6 => ?_) (fun hb H6 e6 => ?_)
      · -- no term
        refine Evl.s_ret Evl.ev_c fun H7 e7 => qE (fun hok => ?_) H7 (eH4.trans (e5.trans (e6.trans e7)))
        obtain ⟨k1, k2⟩ := iff.mp hok
        obtain ⟨g1, g2, _⟩ := gi.mp (k2 (u, lv) (by simp))
        rw [ec] at k1
        simp only [Bool.or_eq_true, decide_eq_true_eq, Bool.not_eq_true', v__MOST_TERMS, v__MOST_LEVELS] at hb
        rcases hb with hb | hb | hb
        · omega
        · omega
        · rw [hb] at g2
          cases g2
      · simp only [Bool.or_eq_false_iff, decide_eq_false_iff_not, Bool.not_eq_false', v__MOST_TERMS, v__MOST_LEVELS] at hb
        obtain ⟨b1, b2, b3⟩ := hb
        have e56 := e5.trans e6
        have hM6 := hM5.ex e6
        have hz6 := dm_ex e56 hz4
        have kl := form_kids b3
        -- waiting.extend(..)
        refine ⟨.ref p, rfl, .inl ⟨rfl, _, Evl.sq_of (e56 _ _ hp4)⟩, ?_⟩
        refine dl_lcT (M := p :: M) (l := kids u) (enc := enc) (f := fun w => .tuple [enc w, .int ((lv : Int) + 1)]) hM6 (de_callR (E := E0) hM6 (da_cons (de_v hz6 (by rfl)) da_nil) (R := RParts) ⟨u, rfl, rfl⟩) (by omega) (fun _ => rfl)
          (fun w hw x H7 D _ _ hM7 hx => de_tup hM7 (da_cons (de_v hx (by rfl)) (da_cons (de_sc (Evl.ev_op (Evl.ev_var rfl) Evl.ev_c Evl.rv_I0) rfl) da_nil)) (by simp)) H6 (Evl.Ex.refl _) _ fun r vs2 H7 n7 e7 hr d7 => ?_
        have hp7 := (e56.trans e7) _ _ hp4
        have l2 : vs2.length = (kids u).length := by rw [dpa_len d7, List.length_map]
        have l1 : vs'.length = pl.length := by rw [dpa_len dvs, List.length_map]
        refine ⟨p, r, vs', vs2, rfl, rfl, hp7, hr, Evl.sz_of (by rw [List.length_append] at u400; simp at u400; omega), ?_⟩
        have eM7 : ExM (p :: M) H7 (upd H7 p (.lst (vs' ++ vs2))) := ExM.mut (by simp)
        have kc := cnt_kids u
        refine ⟨cnts ((pl ++ (kids u).map fun w => (w, lv + 1)).map (·.1)), ?_, pl ++ (kids u).map fun w => (w, lv + 1), many + 1, _, _, _, vs' ++ vs2, rfl, (eH4.trans (e56.trans e7)).mut n1, upd_same, ?_, rfl, by omega, ?_, ?_⟩
        · rw [ec, List.map_append, cnts_app, List.map_map]
          have : (kids u).map ((fun x => x.1) ∘ fun w => (w, lv + 1)) = kids u := by simp [Function.comp_def]
          rw [this]
          omega
        · rw [List.map_append]
          refine dms_exM eM7 (dpa_app (dms_ex (e56.trans e7) dv4) ?_)
          have : ((kids u).map fun w => (w, lv + 1)).map encE = (kids u).map fun w => PyData.tuple [enc w, .int ((lv : Int) + 1)] := by
            rw [List.map_map]
            rfl
          rw [this]
          exact dms_less d7
        · rw [List.length_append] at u400 ⊢
          simp at u400
          omega
        · rw [iff, ec, List.map_append, cnts_app, List.map_map]
          have : (kids u).map ((fun x => x.1) ∘ fun w => (w, lv + 1)) = kids u := by simp [Function.comp_def]
          rw [this]
          constructor
          · rintro ⟨k1, k2⟩
            refine ⟨by omega, fun e he => ?_⟩
            rcases List.mem_append.mp he with he | he
            · exact k2 e (by simp [he])
            · obtain ⟨w, hw, rfl⟩ := List.mem_map.mp he
              exact (gi.mp (k2 (u, lv) (by simp))).2.2 w hw
          · rintro ⟨k1, k2⟩
            refine ⟨by omega, fun e he => ?_⟩
            rcases List.mem_append.mp he with he | he
            · exact k2 e (by simp [he])
            · rw [List.mem_singleton] at he
              subst he
              exact gi.mpr ⟨by omega, b3, fun w hw => k2 (w, lv + 1) (by simp [hw])⟩
    · -- the end
      have hnil : pile = [] := by
        cases pile with
        | nil => rfl
        | cons e pl =>
          cases hus
          cases hb
      subst hnil
      exact Evl.s_ret Evl.ev_c fun H4 e4 => qO (iff.mpr ⟨by simpa [cnts] using m40, by simp⟩) H4 (eH.trans (e3.trans e4))
theorem ok_check_term (T : Top K mg) : FnOk P w K mg base (CX P w) 6 T.check_term.f T.check_term.fd ["term"] (spChk K T.InvalidTerm.C) := by
  refine T.check_term.F.okX sc_check_term (fun vs H Q E h => ?_) (fun cdv A outer s H vs Q E hr h => ?_)
  · obtain ⟨M, t, v, rfl, _⟩ := h
    rfl
  obtain ⟨M, t, v, rfl, hM, hd, qO, qE⟩ := h
  refine ⟨_, (pss_one (ps_if (pt_not (pt_val (pe_call (ok_is_term T) (hr.mono (by omega)) (by rfl) T.is_term.g T.is_term.F.kp T.is_term.b .nil pass0 (pa_cons (pv 0) pa_nil)))) (pss_one (ps_raise rfl (takes_of rfl rfl rfl rfl) (pmk_own F.excBase_ValueError T.InvalidTerm.q T.InvalidTerm.g T.InvalidTerm.k (raises_own T.InvalidTerm.ex T.InvalidTerm.ty) rfl))) pss_nil)), ?_⟩
  refine Evl.s_when (Evl.et_not (Evl.et_B (ev_sc (de_callR (E := E0) hM (da_cons (de_v hd (by rfl)) da_nil) (R := RTerm) ⟨t, rfl, rfl⟩) rfl))) (fun hb H1 e1 => ?_) (fun hb H1 e1 => ?_)
  · exact qE (fun h => by simp [h] at hb) H1 e1
  · exact qO (by simpa using hb) H1 e1
end
end K03

set_option Elab.async false
set_option linter.all false
set_option maxRecDepth 100000
set_option maxHeartbeats 4000000
namespace K03
open PySem PySem.Spec PyProof.Rows L2 DK DD TM
section
variable {P : Program} {w : World} {K : PySem.W.Frag} {mg : Str → Option Value} {base : Heap}
theorem ok__law_draw (T : Top K mg) : FnOk P w K mg base CX0 1 T._law_draw.f T._law_draw.fd ["source", "limit"] spDraw := by
  refine T._law_draw.F.ok sc__law_draw (fun vs H Q E h => ?_) (fun cdv A outer s H vs Q E hr h => ?_)
  · obtain ⟨_, _, _, _, rfl, _⟩ := h
    rfl
  obtain ⟨s, c, n, l, rfl, ⟨ne, ks, t, e1, e2, k1, k63, tn⟩, n60, l0, l30, q⟩ := h
  refine ⟨_, (pss_cons (ps_asg (pv 0) (pg_unl rfl (pgs_cons (pg_name (i := 2) sc__law_draw.nd rfl (Or.inl rfl)) (pgs_cons (pg_name (i := 3) sc__law_draw.nd rfl (Or.inl rfl)) pgs_nil))))
      (pss_cons (ps_set (i := 4) sc__law_draw.nd rfl (Or.inl rfl) (pe_op op_mod (pe_callTy call_int1 (by rfl) T.n_int (by decide +kernel) (pa_cons (pv 3) pa_nil)) (pe_callB (r := Evl.rLenS K) call_len_seq (by rfl) T.n_len PySem.boot_len (pa_cons (pv 2) pa_nil))))
      (pss_cons (ps_set (i := 5) sc__law_draw.nd rfl (Or.inl rfl) (pe_ix ix_list (pv 2) (pv 4) (fun _ _ => rfl)))
      (pss_cons (ps_asg (pe_op op_add (pv 3) pe_int) (pg_sub (pv 0) pe_int set_list))
      (pss_cons (ps_if (pt_cmpR op_ge (pv 5) (pe_op op_powW pe_int pe_int) (nomark _)) (pss_cons (ps_asg (pe_op op_fdiv (pv 5) (pv 1)) (pg_sub (pv 2) (pv 4) set_list))
      (pss_one (ps_ret (pe_op op_mod (pe_callTy call_int1 (by rfl) T.n_int (by decide +kernel) (pa_cons (pv 5) pa_nil)) (pv 1))))) pss_nil)
      (pss_cons (ps_set (i := 6) sc__law_draw.nd rfl (Or.inl rfl) (pe_op op_mod (pe_callTy call_int1 (by rfl) T.n_int (by decide +kernel) (pa_cons (pe_op op_add (pe_op op_add (pe_op op_mul (pe_op op_mod (pe_callTy call_int1 (by rfl) T.n_int (by decide +kernel) (pa_cons (pv 5) pa_nil)) pe_int) pe_int) (pe_op op_mul (pe_op op_mul (pv 3) (pv 3)) pe_int)) pe_int) pa_nil)) pe_int))
      (pss_cons (ps_set (i := 6) sc__law_draw.nd rfl (Or.inl rfl) (pe_op op_mod (pe_callTy call_int1 (by rfl) T.n_int (by decide +kernel) (pa_cons (pe_op op_mul (pv 6) (pv 6)) pa_nil)) pe_int))
      (pss_cons (ps_set (i := 6) sc__law_draw.nd rfl (Or.inl rfl) (pe_op op_mod (pe_callTy call_int1 (by rfl) T.n_int (by decide +kernel) (pa_cons (pe_op op_mul (pv 6) (pv 6)) pa_nil)) pe_int))
      (pss_one (ps_ret (pe_op op_mod (pe_callTy call_int1 (by rfl) T.n_int (by decide +kernel) (pa_cons (pv 6) pa_nil)) (pv 1)))))))))))), ?_⟩
  have hk : 0 < ((ks.map V.int).length : Int) := by
    rw [List.length_map]
    omega
  -- cells, turn = source
  refine ⟨_, rfl, s, _, rfl, .inl (.inl e1), rfl, _, _, rfl, _, _, rfl, rfl, ?_⟩
  -- place = int(turn) % len(cells)
  refine ⟨_, rfl, .inl ⟨_, rfl, _, rfl, c, _, rfl, .inl (.inl (.inl e2)), _, _, rfl, rfl, hk, ?_⟩⟩
  have hp1 : 0 ≤ (t : Int) % ((ks.map V.int).length : Int) := Int.emod_nonneg _ (by omega)
  have hp2 : (t : Int) % ((ks.map V.int).length : Int) < ((ks.map V.int).length : Int) := Int.emod_lt_of_pos _ hk
  obtain ⟨j, hj⟩ : ∃ j : Nat, (t : Int) % ((ks.map V.int).length : Int) = (j : Int) := ⟨_, (Int.toNat_of_nonneg hp1).symm⟩
  have hj2 : j < ks.length := by
    rw [hj, List.length_map] at hp2
    omega
  have hat : atI (ks.map V.int) ((t : Int) % ((ks.map V.int).length : Int)) = some (.int ks[j]) := by
    rw [hj]
    exact atI_nat (by rw [List.getElem?_map, List.getElem?_eq_getElem hj2] <;> rfl)
  have hix : ixN (ks.map V.int).length ((t : Int) % ((ks.map V.int).length : Int)) = some j := by
    rw [hj]
    exact Evl.ixN_nat (by rw [List.length_map]; exact hj2)
  -- cell = cells[place]
  refine ⟨_, rfl, _, rfl, c, _, _, _, rfl, rfl, .inl (.inl e2), hat, ?_⟩
  -- source[1] = turn + 1
  refine ⟨_, rfl, _, _, rfl, rfl, _, rfl, s, _, 1, 1, rfl, rfl, e1, rfl, ?_⟩
  have f1 : upd H s (.lst ([V.ref c, .int (t : Int)].set 1 (.int ((t : Int) + 1)))) s = some (.lst [.ref c, .int (((t + 1 : Nat) : Int))]) := by
    rw [upd_same]
    rfl
  have f2 : upd H s (.lst ([V.ref c, .int (t : Int)].set 1 (.int ((t : Int) + 1)))) c = some (.lst (ks.map V.int)) := by
    rw [upd_ne ne]
    exact e2
  have fM : ExM [s, c] H (upd H s (.lst ([V.ref c, .int (t : Int)].set 1 (.int ((t : Int) + 1))))) := ExM.mut (by simp)
  generalize upd H s (.lst ([V.ref c, .int (t : Int)].set 1 (.int ((t : Int) + 1)))) = H1 at f1 f2 fM ⊢
  -- if cell >= 10 ** 18
  refine ⟨_, rfl, 10, 18, rfl, rfl, ⟨by decide, by decide +kernel⟩, _, _, rfl, rfl, _, rfl, ite2 (fun b => ?_) (fun b => ?_)⟩
  · -- cells[place] = cell // limit
    refine ⟨_, rfl, _, rfl, _, _, rfl, rfl, ⟨l0, l30⟩, _, rfl, _, rfl, c, _, _, j, rfl, rfl, f2, hix, ?_⟩
    refine ⟨_, rfl, .inl ⟨_, rfl, _, rfl, _, _, rfl, rfl, l0, ?_⟩⟩
    refine q _ _ (Int.emod_nonneg _ (by omega)) (Int.emod_lt_of_pos _ l0) (fM.trans (ExM.mut (by simp))) ⟨ne, ks.set j (ks[j] / l), t + 1, ?_, ?_, ?_, ?_, by omega⟩
    · rw [upd_ne (Ne.symm ne)]
      exact f1
    · rw [upd_same, List.map_set]
    · rw [List.length_set]
      exact k1
    · rw [List.length_set]
      exact k63
  · have m1 : ∀ (a b : Int), 0 < b → b < 2 ^ 33 → -(2 ^ 64) < a % b ∧ a % b < 2 ^ 64 := fun a b h1 h2 => by
      have := Int.emod_nonneg a (show b ≠ 0 by omega)
      have := Int.emod_lt_of_pos a h1
      omega
    refine ⟨_, rfl, .inl ⟨_, rfl, _, _, rfl, rfl, (show (0 : Int) < 2147483629 by decide), _, _, rfl, rfl, .inr ⟨by decide, by decide⟩, ?_⟩⟩
    refine ⟨_, rfl, _, rfl, _, _, rfl, rfl, .inl ⟨by omega, by omega⟩, _, _, rfl, rfl, .inr ⟨by decide, by decide⟩, _, _, rfl, rfl, _, _, rfl, rfl, .inl ⟨_, rfl, _, _, rfl, rfl, (show (0 : Int) < 2147483647 by decide), ?_⟩⟩
    refine ⟨_, rfl, _, rfl, _, _, rfl, rfl, .inl (m1 _ _ (by decide) (by decide)), .inl ⟨_, rfl, _, _, rfl, rfl, (show (0 : Int) < 2147483629 by decide), ?_⟩⟩
    refine ⟨_, rfl, _, rfl, _, _, rfl, rfl, .inl (m1 _ _ (by decide) (by decide)), .inl ⟨_, rfl, _, _, rfl, rfl, (show (0 : Int) < 2147483587 by decide), ?_⟩⟩
    refine ⟨_, rfl, .inl ⟨_, rfl, _, rfl, _, _, rfl, rfl, l0, ?_⟩⟩
    exact q _ _ (Int.emod_nonneg _ (by omega)) (Int.emod_lt_of_pos _ l0) fM ⟨ne, ks, t + 1, f1, f2, k1, k63, by omega⟩
theorem ok__law_source (T : Top K mg) : FnOk P w K mg base CX0 1 T._law_source.f T._law_source.fd ["script"] (spSource K) := by
  refine T._law_source.F.ok sc__law_source (fun vs H Q E h => ?_) (fun cdv A outer s H vs Q E hr h => ?_)
  · obtain ⟨_, _, rfl, _⟩ := h
    rfl
  obtain ⟨a, ns, rfl, hS, h63, q⟩ := h
  refine ⟨_, (pss_cons (ps_set (i := 1) sc__law_source.nd rfl (Or.inl rfl) (pe_slice sl_list (pv 0) po_none (po_some pe_int)))
      (pss_cons (ps_for PassesOwn.never rfl (pi_range1 (by rfl) T.n_range (pa_cons (pe_callB (r := Evl.rLenS K) call_len_seq (by rfl) T.n_len PySem.boot_len (pa_cons (pv 1) pa_nil)) pa_nil)) (pg_name (i := 2) sc__law_source.nd rfl (Or.inl rfl)) (pss_one (ps_if (pt_cmpR op_ge (pe_callB call_abs (by rfl) T.n_abs (by decide +kernel) (pa_cons (pe_ix ix_list (pv 1) (pv 2) (fun _ _ => rfl)) pa_nil)) (pe_op op_powW pe_int pe_int) (nomark _)) (pss_one (ps_asg (pe_op op_mod (pe_callTy call_int1 (by rfl) T.n_int (by decide +kernel) (pa_cons (pe_ix ix_list (pv 1) (pv 2) (fun _ _ => rfl)) pa_nil)) (pe_op op_powW (pe_op op_powW pe_int pe_int) pe_int)) (pg_sub (pv 1) (pv 2) set_list))) pss_nil)))
      (pss_cons (ps_if (pt_cmpR (op_eqD (hu64 hr)) (pv 1) (pe_lst pa_nil) (nomark _)) (pss_one (ps_set (i := 1) sc__law_source.nd rfl (Or.inl rfl) (pe_lst (pa_cons pe_int pa_nil)))) pss_nil)
      (pss_one (ps_ret (pe_lst (pa_cons (pv 1) (pa_cons pe_int pa_nil)))))))), ?_⟩
  -- cells = script[:63]
  refine ⟨_, rfl, 63, rfl, a, _, rfl, hS, fun p hp => ?_⟩
  have hcut : cutV (ns.map V.int) none (some 63) = (ns.take 63).map V.int := by
    unfold cutV
    rw [HT.sIx_none, show HT.sIx (ns.map V.int).length (ns.map V.int).length (some 63) = min 63 (ns.map V.int).length from HT.sIx_nat _ _ 63, List.length_map, Nat.min_eq_right h63, List.drop_zero, Nat.sub_zero, List.take_of_length_le (by rw [List.length_map]; omega), List.take_of_length_le h63]
  rw [hcut]
  have e0 : Evl.Ex H (upd H p (.lst ((ns.take 63).map V.int))) := Evl.Ex.new hp
  have hl0 : (ns.take 63).length ≤ 63 := List.length_take_le _ _
  have at0 : upd H p (.lst ((ns.take 63).map V.int)) p = some (.lst ((ns.take 63).map V.int)) := upd_same
  generalize upd H p (.lst ((ns.take 63).map V.int)) = H0 at e0 at0
  generalize ns.take 63 = ms at hl0 at0
  -- for k in range(len(cells))
  refine ⟨.ref p, rfl, p, _, rfl, .inl (.inl (.inl at0)), _, rfl, by rw [List.length_map]; omega, by rw [List.length_map]; omega, for_range (lo := 0) (n := ((((ms.map V.int).length : Nat) : Int)).toNat) (fun _ σ H' => ∃ (y2 : Option V) (ks : List Int), σ = [some (.ref a), some (.ref p), y2] ∧ ks.length = ms.length ∧ Evl.Ex H H' ∧ H' p = some (.lst (ks.map V.int))) ⟨none, ms, rfl, rfl, e0, at0⟩ (fun i σ H' hi hW => ?_) (fun σ H' hW => ?_)⟩
  · obtain ⟨y2, ks, rfl, hk, hE, hP⟩ := hW
    rw [Int.toNat_natCast, List.length_map, ← hk] at hi
    have hat : atI (ks.map V.int) ((0 : Int) + (i : Int)) = some (.int ks[i]) := by
      rw [Int.zero_add]
      exact atI_nat (by rw [List.getElem?_map, List.getElem?_eq_getElem hi] <;> rfl)
    have hix : ixN (ks.map V.int).length ((0 : Int) + (i : Int)) = some i := by
      rw [Int.zero_add]
      exact Evl.ixN_nat (by rw [List.length_map]; exact hi)
    refine ⟨.ref p, rfl, _, rfl, p, _, _, _, rfl, rfl, .inl (.inl hP), hat, _, rfl, 10, 18, rfl, rfl, ⟨by decide, by decide +kernel⟩, _, _, rfl, rfl, _, rfl, ite2 (fun _ => ?_) (fun _ => ?_)⟩
    · refine ⟨.ref p, rfl, _, rfl, p, _, _, _, rfl, rfl, .inl (.inl hP), hat, .inl ⟨_, rfl, 10, 60, rfl, rfl, ⟨by decide, by decide +kernel⟩, _, 20, rfl, rfl, ⟨by decide, by decide +kernel⟩, _, _, rfl, rfl, (show (0 : Int) < (10 ^ (60 : Int).toNat) ^ (20 : Int).toNat by decide +kernel), .ref p, rfl, _, rfl, p, _, _, i, rfl, rfl, hP, hix, ?_⟩⟩
      refine ⟨_, ks.set i (ks[i] % ((10 ^ (60 : Int).toNat) ^ (20 : Int).toNat)), rfl, by rw [List.length_set]; exact hk, hE.mut hp, ?_⟩
      rw [upd_same, List.map_set]
    · exact ⟨_, ks, rfl, hk, hE, hP⟩
  · obtain ⟨y2, ks, rfl, hk, hE, hP⟩ := hW
    -- if cells == []
    refine ⟨.ref p, rfl, by decide, fun r hr0 => ?_⟩
    have hP1 : upd H' r (.lst []) p = some (.lst (ks.map V.int)) := by
      rw [upd_ne (ne_of_none hP hr0)]
      exact hP
    have hE1 : Evl.Ex H (upd H' r (.lst [])) := hE.trans (Evl.Ex.new hr0)
    have hlen : ks.length ≤ 63 := by omega
    generalize hH1 : upd H' r (.lst []) = H1 at hP1 hE1
    have hR1 : H1 r = some (.lst []) := by
      rw [← hH1]
      exact upd_same
    have dpI : ∀ l : List Int, DpAll K H1 (l.map V.int) (l.map PyData.int) := fun l => by
      induction l with
      | nil => exact .nil
      | cons x l ih => exact .cons (.int x) ih
    refine ⟨_, _, .lst (.inl (.inl hP1)) (dpI ks), .lst (.inl (.inl hR1)) .nil, ?_, by decide, _, rfl, ite2 (fun b => ?_) (fun b => ?_)⟩
    · exact PySem.W.ke_shaped_ints ks
    · -- cells = [0]
      refine ⟨by decide, fun p2 hp2 => ?_⟩
      refine ⟨_, rfl, (show 2 ≤ sizeLine by decide), fun s hs => ?_⟩
      have n1 : p2 ≠ s := ne_of_none upd_same hs
      refine q s p2 _ ((hE1.trans (Evl.Ex.new hp2)).trans (Evl.Ex.new hs)) (Evl.fresh_back (hE1.trans (Evl.Ex.new hp2)) hs) (Evl.fresh_back hE1 hp2) ⟨n1, [0], 0, upd_same, ?_, by decide, by decide, Nat.le_refl _⟩
      rw [upd_ne n1, upd_same]
      rfl
    · refine ⟨_, rfl, (show 2 ≤ sizeLine by decide), fun s hs => ?_⟩
      have n1 : p ≠ s := ne_of_none hP1 hs
      have hks : 1 ≤ ks.length := by
        cases ks with
        | nil => exact absurd rfl b
        | cons x l => exact Nat.succ_le_succ (Nat.zero_le _)
      refine q s p _ (hE1.trans (Evl.Ex.new hs)) (Evl.fresh_back hE1 hs) hp ⟨n1, ks, 0, upd_same, ?_, hks, hlen, Nat.le_refl _⟩
      rw [upd_ne n1]
      exact hP1
theorem ok__law_pick (T : Top K mg) : FnOk P w K mg base CX0 2 T._law_pick.f T._law_pick.fd ["source", "values"] (spPick K) := by
  refine T._law_pick.F.ok sc__law_pick (fun vs H Q E h => ?_) (fun cdv A outer s H vs Q E hr h => ?_)
  · obtain ⟨_, _, _, _, _, rfl, _⟩ := h
    rfl
  obtain ⟨s, c, p, n, xs, rfl, S, n60, hX, n1, n2, x1, x2, q⟩ := h
  refine ⟨_, (pss_one (ps_ret (pe_ix ix_list (pv 1) (pe_call (ok__law_draw T) (hr.mono (by omega)) (by rfl) T._law_draw.g T._law_draw.F.kp T._law_draw.b .nil pass0 (pa_cons (pv 0) (pa_cons (pe_callB (r := Evl.rLenS K) call_len_seq (by rfl) T.n_len PySem.boot_len (pa_cons (pv 1) pa_nil)) pa_nil))) (fun _ _ => rfl)))), ?_⟩
  refine ⟨_, rfl, _, rfl, _, rfl, p, _, rfl, .inl hX, s, c, n, _, rfl, S, n60, by omega, by omega, fun d H' d0 d1 e S' => ?_⟩
  obtain ⟨j, rfl⟩ : ∃ j : Nat, d = (j : Int) := ⟨_, (Int.toNat_of_nonneg d0).symm⟩
  have hj : j < xs.length := by omega
  refine ⟨p, xs, _, xs[j], rfl, rfl, sqm e (by simp [n1, n2]) hX, atI_nat (List.getElem?_eq_getElem hj), q _ H' (List.getElem_mem hj) e S'⟩
/-- _law_great(source, digits) -/
def spGreat : Sp := fun vs H Q _ => ∃ (s c : Addr) (n k : Nat), vs = [.ref s, .int (k : Int)] ∧ Src H s c n ∧ n + k < 2 ^ 60 ∧ k ≤ 1000 ∧
  ∀ (g : Int) H', 0 ≤ g → ExM [s, c] H H' → Src H' s c (n + k) → Q (.int g) H'
theorem ok__law_great (T : Top K mg) : FnOk P w K mg base CX0 2 T._law_great.f T._law_great.fd ["source", "digits"] spGreat := by
  refine T._law_great.F.ok sc__law_great (fun vs H Q E h => ?_) (fun cdv A outer s H vs Q E hr h => ?_)
  · obtain ⟨_, _, _, _, rfl, _⟩ := h
    rfl
  obtain ⟨s, c, n, k, rfl, S, n60, k1000, q⟩ := h
  refine ⟨_, (pss_cons (ps_set (i := 2) sc__law_great.nd rfl (Or.inl rfl) pe_int)
      (pss_cons (ps_for PassesOwn.never rfl (pi_range1 (by rfl) T.n_range (pa_cons (pv 1) pa_nil)) (pg_name (i := 3) sc__law_great.nd rfl (Or.inl rfl)) (pss_one (ps_set (i := 2) sc__law_great.nd rfl (Or.inl rfl) (pe_op op_add (pe_op op_mul (pv 2) pe_int) (pe_call (ok__law_draw T) (hr.mono (by omega)) (by rfl) T._law_draw.g T._law_draw.F.kp T._law_draw.b .nil pass0 (pa_cons (pv 0) (pa_cons pe_int pa_nil)))))))
      (pss_one (ps_ret (pv 2))))), ?_⟩
  refine ⟨_, rfl, _, rfl, by omega, by omega, for_range (lo := 0) (n := ((k : Int)).toNat) (fun i σ H' => ∃ (g : Int) (x : Option V), σ = [some (.ref s), some (.int (k : Int)), some (.int g), x] ∧ 0 ≤ g ∧ ExM [s, c] H H' ∧ Src H' s c (n + i)) ⟨0, none, rfl, by decide, ExM.refl _ _, S⟩ (fun i σ H' hi hP => ?_) (fun σ H' hP => ?_)⟩
  · obtain ⟨g, x, rfl, g0, eM, S'⟩ := hP
    refine ⟨_, rfl, _, _, rfl, rfl, .inr ⟨by decide, by decide⟩, _, rfl, s, c, n + i, 10, rfl, S', by omega, by decide, by decide, fun d H2 d0 d1 e2 S2 => ⟨_, _, rfl, rfl, ?_⟩⟩
    exact ⟨g * 10 + d, _, rfl, by omega, eM.trans e2, S2⟩
  · obtain ⟨g, x, rfl, g0, eM, S'⟩ := hP
    rw [Int.toNat_natCast] at S'
    exact ⟨_, rfl, q g H' g0 eM S'⟩
/-- _law_add(source, most) -/
def spAdd : Sp := fun vs H Q _ => ∃ (s c : Addr) (n : Nat) (mo : Int), vs = [.ref s, .int mo] ∧ Src H s c n ∧ n + 31 < 2 ^ 60 ∧ 1 ≤ mo ∧
  ∀ (a : Int) H', -mo ≤ a → a ≤ mo → ExM [s, c] H H' → Src H' s c (n + 31) → Q (.int a) H'
theorem ok__law_add (T : Top K mg) : FnOk P w K mg base CX0 3 T._law_add.f T._law_add.fd ["source", "most"] spAdd := by
  refine T._law_add.F.ok sc__law_add (fun vs H Q E h => ?_) (fun cdv A outer s H vs Q E hr h => ?_)
  · obtain ⟨_, _, _, _, rfl, _⟩ := h
    rfl
  obtain ⟨s, c, n, mo, rfl, S, n60, m1, q⟩ := h
  refine ⟨_, (pss_cons (ps_if (pt_cmpR op_lt (pv 1) (pe_op op_powW pe_int pe_int) (nomark _)) (pss_one (ps_ret (pe_op op_sub (pe_call (ok__law_draw T) (hr.mono (by omega)) (by rfl) T._law_draw.g T._law_draw.F.kp T._law_draw.b .nil pass0 (pa_cons (pv 0) (pa_cons (pe_op op_add (pe_op op_mul pe_int (pv 1)) pe_int) pa_nil))) (pv 1)))) pss_nil)
      (pss_one (ps_ret (pe_op op_sub (pe_op op_mod (pe_call (ok__law_great T) (hr.mono (by omega)) (by rfl) T._law_great.g T._law_great.F.kp T._law_great.b .nil pass0 (pa_cons (pv 0) (pa_cons pe_int pa_nil))) (pe_op op_add (pe_op op_mul pe_int (pv 1)) pe_int)) (pv 1))))), ?_⟩
  refine ⟨_, rfl, 10, 6, rfl, rfl, ⟨by decide, by decide +kernel⟩, _, _, rfl, rfl, _, rfl, ite2 (fun b => ?_) (fun b => ?_)⟩
  · have b' : mo < 10 ^ 6 := of_decide_eq_true b
    refine ⟨_, rfl, _, rfl, _, _, rfl, rfl, .inl ⟨by decide, by decide⟩, _, _, rfl, rfl, s, c, n, _, rfl, S, by omega, by omega, by omega, fun d H' d0 d1 e S' => ⟨_, rfl, _, _, rfl, rfl, ?_⟩⟩
    exact q _ H' (by omega) (by omega) e (S'.mono (by omega))
  · refine ⟨_, rfl, s, c, n, 31, rfl, S, n60, by decide, fun g H' g0 e S' => ⟨_, rfl, _, _, rfl, rfl, .inl ⟨by decide, by decide⟩, _, _, rfl, rfl, _, _, rfl, rfl, (show 0 < 2 * mo + 1 by omega), _, rfl, _, _, rfl, rfl, ?_⟩⟩
    have h1 := Int.emod_nonneg g (show 2 * mo + 1 ≠ 0 by omega)
    have h2 := Int.emod_lt_of_pos g (show 0 < 2 * mo + 1 by omega)
    exact q _ H' (by omega) (by omega) e S'
/-- how many draws a term takes at most -/
def cost : Nat → Nat
  | 0 => 0
  | l + 1 => 40 + 3 * cost l
/-- _law_term(source, shops, most, levels), levels at most L -/
def spTerm (K : PySem.W.Frag) (L : Nat) : Sp := fun vs H Q _ => ∃ (s c : Addr) (n : Nat) (M : List Addr) (sh mo : Int) (l : Nat), vs = [.ref s, .int sh, .int mo, .int (l : Int)] ∧ Src H s c n ∧ s ∈ M ∧ c ∈ M ∧ Dom M H ∧
  1 ≤ l ∧ l ≤ L ∧ n + cost l < 2 ^ 60 ∧ 1 ≤ sh ∧ sh ≤ 6 ∧ 1 ≤ mo ∧ mo ≤ 10 ^ 30 ∧
  ∀ (v : V) (t : Trm) H', ExM [s, c] H H' → Src H' s c (n + cost l) → Dm K M H' v (enc t) → Gen sh mo l t → Q v H'
theorem ok__law_term (T : Top K mg) : ∀ L : Nat, FnOk P w K mg base CX0 (L + 4) T._law_term.f T._law_term.fd ["source", "shops", "most", "levels"] (spTerm K L)
  | 0 => by
    have no : ∀ vs H Q E, ¬ spTerm K 0 vs H Q E := fun vs H Q E h => by
      obtain ⟨_, _, _, _, _, _, _, _, _, _, _, _, h1, h2, _⟩ := h
      omega
    exact ⟨fun vs H Q E h => absurd h (no vs H Q E), fun A outer s H args us vs Q E _ _ _ _ h => absurd h (no vs H Q E)⟩
  | L + 1 => by
    have IH := ok__law_term T L
    refine T._law_term.F.ok sc__law_term (fun vs H Q E h => ?_) (fun cdv A outer s H vs Q E hr h => ?_)
    · obtain ⟨_, _, _, _, _, _, _, rfl, _⟩ := h
      rfl
    obtain ⟨s, c, n, M, sh, mo, l, rfl, S, sM, cM, hM, l1, lL, n60, s1, s6, m1, m30, q⟩ := h
    obtain ⟨l, rfl⟩ : ∃ k, l = k + 1 := ⟨l - 1, by omega⟩
    have ec : cost (l + 1) = 40 + 3 * cost l := rfl
    refine ⟨_, (pss_cons (ps_set (i := 4) sc__law_term.nd rfl (Or.inl rfl) (pe_call (ok__law_draw T) (hr.mono (by omega)) (by rfl) T._law_draw.g T._law_draw.F.kp T._law_draw.b .nil pass0 (pa_cons (pv 0) (pa_cons pe_int pa_nil))))
      (pss_cons (ps_if (PW.pt (pw_or (pt_cmpR op_lt (pv 3) pe_int (nomark _)) (pw_or1 (pt_cmpR op_lt (pv 4) pe_int (nomark _))))) (pss_cons (ps_if (pt_cmpR op_eq (pe_call (ok__law_draw T) (hr.mono (by omega)) (by rfl) T._law_draw.g T._law_draw.F.kp T._law_draw.b .nil pass0 (pa_cons (pv 0) (pa_cons pe_int pa_nil))) pe_int (nomark _)) (pss_one (ps_ret (pe_tup (pa_cons pe_str (pa_cons (pe_call (ok__law_add T) (hr.mono (by omega)) (by rfl) T._law_add.g T._law_add.F.kp T._law_add.b .nil pass0 (pa_cons (pv 0) (pa_cons (pv 2) pa_nil))) pa_nil))))) pss_nil)
      (pss_one (ps_ret (pe_tup (pa_cons pe_str (pa_cons (pe_call (ok__law_draw T) (hr.mono (by omega)) (by rfl) T._law_draw.g T._law_draw.F.kp T._law_draw.b .nil pass0 (pa_cons (pv 0) (pa_cons (pv 1) pa_nil))) (pa_cons (pe_call (ok__law_add T) (hr.mono (by omega)) (by rfl) T._law_add.g T._law_add.F.kp T._law_add.b .nil pass0 (pa_cons (pv 0) (pa_cons (pv 2) pa_nil))) pa_nil))))))) pss_nil)
      (pss_cons (ps_set (i := 5) sc__law_term.nd rfl (Or.inl rfl) (pe_callTy call_tuple_of (by rfl) T.n_tuple (by decide +kernel) (pa_cons (pe_lc (own := [("k", 6)]) (g := gName 6) (tt := tYes) rfl sc__law_term.nd (pi_range1 (by rfl) T.n_range (pa_cons (pe_op op_add pe_int (pe_call (ok__law_draw T) (hr.mono (by omega)) (by rfl) T._law_draw.g T._law_draw.F.kp T._law_draw.b .nil pass0 (pa_cons (pv 0) (pa_cons pe_int pa_nil)))) pa_nil)) (blkOk_by (N := N__law_term) (sc := defScope s__law_term) (by decide +kernel)) (fun _ _ _ _ _ => (pg_name (i := 6) sc__law_term.nd rfl (Or.inl rfl))) (fun _ _ _ _ _ => pts_nil) (fun _ _ _ _ _ => (pe_call (IH) (hr.mono (by omega)) (by rfl) T._law_term.g T._law_term.F.kp T._law_term.b .nil pass0 (pa_cons (pv 0) (pa_cons (pv 1) (pa_cons (pv 2) (pa_cons (pe_op op_sub (pv 3) pe_int) pa_nil))))))) pa_nil)))
      (pss_cons (ps_if (pt_cmpR op_lt (pv 4) pe_int (nomark _)) (pss_one (ps_ret (pe_tup (pa_cons pe_str (pa_cons (pv 5) pa_nil))))) pss_nil)
      (pss_cons (ps_if (pt_cmpR op_lt (pv 4) pe_int (nomark _)) (pss_one (ps_ret (pe_tup (pa_cons pe_str (pa_cons (pv 5) pa_nil))))) pss_nil)
      (pss_one (ps_ret (pe_tup (pa_cons pe_str (pa_cons (pe_op op_add pe_int (pe_call (ok__law_draw T) (hr.mono (by omega)) (by rfl) T._law_draw.g T._law_draw.F.kp T._law_draw.b .nil pass0 (pa_cons (pv 0) (pa_cons (pe_callB (r := Evl.rLenS K) call_len_seq (by rfl) T.n_len PySem.boot_len (pa_cons (pv 5) pa_nil)) pa_nil)))) (pa_cons (pv 5) pa_nil))))))))))), ?_⟩
    -- kind
    refine ⟨_, rfl, s, c, n, 9, rfl, S, by omega, by decide, by decide, fun kind H1 k0 k9 e1 S1 => ?_⟩
    have hM1 := hM.exM e1 S1
    -- if levels < 2 or kind < 2
    have leaf : ∀ H2, ExM [s, c] H H2 → Src H2 s c (n + 1) → ∀ D : Ends, D.rt = Q → (tSeq (tIfS (tTest (tOp rEq (tCall spDraw [] E0 (tCons (tVar 0) (tCons (tC (.int 4)) tNil))) (tC (.int 0)))) (tRet (tTup (tCons (tC (.str "plain")) (tCons (tCall spAdd [] E0 (tCons (tVar 0) (tCons (tVar 2) tNil))) tNil)))) tNext)
        (tRet (tTup (tCons (tC (.str "price")) (tCons (tCall spDraw [] E0 (tCons (tVar 0) (tCons (tVar 1) tNil))) (tCons (tCall spAdd [] E0 (tCons (tVar 0) (tCons (tVar 2) tNil))) tNil)))))) D
        [some (.ref s), some (.int sh), some (.int mo), some (.int ((l + 1 : Nat) : Int)), some (.int kind), none, none] H2 := fun H2 e2 S2 D hD => by
      refine ⟨_, rfl, s, c, n + 1, 4, rfl, S2, by omega, by decide, by decide, fun d H3 d0 d1 e3 S3 => ⟨rfl, _, rfl, ite2 (fun _ => ?_) (fun _ => ?_)⟩⟩
      · refine ⟨_, rfl, _, rfl, s, c, n + 1 + 1, mo, rfl, S3, by omega, m1, fun a H4 a1 a2 e4 S4 => ⟨(show 2 ≤ sizeLine by decide), fun p hp => ?_⟩⟩
        have e := (e2.trans e3).trans e4
        have hM4 := hM.exM e S4
        rw [hD]
        refine q (.ref p) (.plain a) _ (e.trans (ExM.new hp)) ((S4.new hp).mono (by omega)) ?_ (Gen.plain a1 a2 m30)
        rw [enc_eq]
        exact .tup (Evl.st_of (mi_of (hM4.nin hp) upd_same)) (.cons (.str _) (.cons (.int _) .nil))
      · refine ⟨_, rfl, _, rfl, s, c, n + 1 + 1, sh, rfl, S3, by omega, by omega, by omega, fun d2 H4 d20 d21 e4 S4 => ?_⟩
        obtain ⟨j, rfl⟩ : ∃ j : Nat, d2 = (j : Int) := ⟨_, (Int.toNat_of_nonneg d20).symm⟩
        refine ⟨_, rfl, _, rfl, s, c, n + 1 + 1 + 1, mo, rfl, S4, by omega, m1, fun a H5 a1 a2 e5 S5 => ⟨(show 3 ≤ sizeLine by decide), fun p hp => ?_⟩⟩
        have e := ((e2.trans e3).trans e4).trans e5
        have hM5 := hM.exM e S5
        rw [hD]
        refine q (.ref p) (.price j a) _ (e.trans (ExM.new hp)) ((S5.new hp).mono (by omega)) ?_ (Gen.price d21 s6 a1 a2 m30)
        rw [enc_eq]
        exact .tup (Evl.st_of (mi_of (hM5.nin hp) upd_same)) (.cons (.str _) (.cons (.int _) (.cons (.int _) .nil)))
    refine Evl.q_when (Evl.et_or (Evl.et_test (Evl.ev_op (Evl.ev_var rfl) Evl.ev_c Evl.rv_I0)) (fun _ => Evl.et_test (Evl.ev_op (Evl.ev_var rfl) Evl.ev_c Evl.rv_I0))) (fun hb H2 e2 => leaf H2 (e1.trans (ExM.of e2)) (S1.ex1 e2) _ rfl) (fun hb H2 e2 => ?_)
    simp only [Bool.or_eq_false_iff, decide_eq_false_iff_not] at hb
    obtain ⟨b1, b2⟩ := hb
    have hl : 1 ≤ l := by omega
    have S2 := S1.ex1 e2
    have e12 : ExM [s, c] H H2 := e1.trans (ExM.of e2)
    -- parts
    refine ⟨_, rfl, s, c, n + 1, 3, rfl, S2, by omega, by decide, by decide, fun d H3 d0 d3 e3 S3 => ⟨_, _, rfl, rfl, _, rfl, by omega, by omega, fun D hD => ?_⟩⟩
    have nD := S3.nes' hD
    have hM3 := hM.exM (e12.trans e3) S3
    refine lc_range (lo := 0) (n := (1 + d).toNat) (fun i H' => ∃ (vs : List V) (ts : List Trm), H' D = some (.lst vs) ∧ ts.length = i ∧ vs.length = i ∧ Dms K (D :: M) H' vs (ts.map enc) ∧ (∀ t ∈ ts, Gen sh mo l t) ∧ ExM [s, c] H3 H' ∧ Src H' s c (n + 2 + i * cost l))
      ⟨[], [], upd_same, rfl, rfl, .nil, (by simp), ExM.new hD, (S3.new hD).mono (by omega)⟩ (fun i H' hi hP => ⟨rfl, ?_⟩) (fun H' hP => ?_)
    · obtain ⟨vs, ts, hp, lt, lv, dv, gt, eM, S'⟩ := hP
      have hi3 : i * cost l ≤ 2 * cost l := Nat.mul_le_mul_right _ (by omega)
      have hdom : Dom (D :: M) H' := (hM3.exM eM S').cons (by rw [hp]; exact fun z => nomatch z)
      refine ⟨_, rfl, _, rfl, _, rfl, _, rfl, _, _, rfl, rfl, s, c, _, D :: M, sh, mo, l, ?_, S', List.mem_cons_of_mem _ sM, List.mem_cons_of_mem _ cM, hdom, hl, by omega, by omega, s1, s6, m1, m30, fun v t H5 e5 S5 d5 g5 => ?_⟩
      · show [V.ref s, V.int sh, V.int mo, V.int (((l + 1 : Nat) : Int) - 1)] = [V.ref s, V.int sh, V.int mo, V.int (l : Int)]
        rw [show (((l + 1 : Nat) : Int) - 1) = (l : Int) by omega]
      · have hp5 : H5 D = some (.lst vs) := e5 D _ (by simp [nD.1, nD.2]) hp
        have eU : ExM (D :: M) H5 (upd H5 D (.lst (vs ++ [v]))) := ExM.mut (by simp)
        have sub : ∀ m, m ∈ [s, c] → m ∈ D :: M := fun m hm => by
          simp only [List.mem_cons, List.not_mem_nil, or_false] at hm
          rcases hm with rfl | rfl
          · exact List.mem_cons_of_mem _ sM
          · exact List.mem_cons_of_mem _ cM
        refine ⟨vs, hp5, small1000 (by omega), vs ++ [v], ts ++ [t], upd_same, by simp [lt], by simp [lv], ?_, ?_, (eM.trans e5).mut0 hD, (S5.upd nD.1 nD.2).mono (by rw [Nat.succ_mul]; omega)⟩
        · rw [List.map_append]
          exact dpa_app (dms_exM eU (dms_exM (e5.sub sub) dv)) (.cons (dm_exM eU d5) .nil)
        · intro u hu
          rcases List.mem_append.mp hu with hu | hu
          · exact gt u hu
          · rw [List.mem_singleton] at hu
            rw [hu]
            exact g5
    · obtain ⟨vs, ts, hp, lt, lv, dv, gt, eM, S'⟩ := hP
      have t1 : 1 ≤ ts.length := by omega
      have t3 : ts.length ≤ 3 := by omega
      have hi3 : (1 + d).toNat * cost l ≤ 3 * cost l := Nat.mul_le_mul_right _ (by omega)
      refine ⟨D, vs, rfl, .inl ⟨Evl.sq_of hp, fun p hpn => ?_⟩⟩
      have hM4 : Dom M H' := hM3.exM eM S'
      have np : p ∉ M := hM4.nin hpn
      have dp : Dm K M (upd H' p (.tup vs)) (.ref p) (.tuple (ts.map enc)) := .tup (Evl.st_of (mi_of np upd_same)) (dms_ex (Evl.Ex.new hpn) (dms_less dv))
      have hpt : upd H' p (.tup vs) p = some (.tup vs) := upd_same
      have eA : ExM [s, c] H (upd H' p (.tup vs)) := (e12.trans (e3.trans eM)).trans (ExM.new hpn)
      have SA := S'.new (o := .tup vs) hpn
      generalize upd H' p (.tup vs) = H6 at dp eA SA hpt
      have hM6 := hM.exM eA SA
      -- the word
      refine Evl.q_when (Evl.et_test (Evl.ev_op (Evl.ev_var rfl) Evl.ev_c Evl.rv_I0)) (fun hb H7 e7 => ?_) (fun hb H7 e7 => ?_)
      · refine s_retD (de_tup (hM6.ex e7) (da_cons (de_sc Evl.ev_c (d := .str "least") rfl) (da_cons (de_v (dm_ex e7 dp) (by rfl)) da_nil)) (by simp)) fun v H8 e8 hv => ?_
        refine q v (.node .least ts) H8 (eA.trans (ExM.of (e7.trans e8))) ((SA.ex1 (e7.trans e8)).mono (by omega)) ?_ (Gen.node t1 t3 True.intro gt)
        rw [enc_eq]
        exact hv
      · refine Evl.q_when (Evl.et_test (Evl.ev_op (Evl.ev_var rfl) Evl.ev_c Evl.rv_I0)) (fun hb H8 e8 => ?_) (fun hb H8 e8 => ?_)
        · have e78 := e7.trans e8
          refine s_retD (de_tup (hM6.ex e78) (da_cons (de_sc Evl.ev_c (d := .str "most") rfl) (da_cons (de_v (dm_ex e78 dp) (by rfl)) da_nil)) (by simp)) fun v H9 e9 hv => ?_
          refine q v (.node .most ts) H9 (eA.trans (ExM.of (e78.trans e9))) ((SA.ex1 (e78.trans e9)).mono (by omega)) ?_ (Gen.node t1 t3 True.intro gt)
          rw [enc_eq]
          exact hv
        · have e78 := e7.trans e8
          have S8 := SA.ex1 e78
          refine ⟨_, rfl, _, rfl, p, vs, rfl, .inr (Evl.st_of (e78 _ _ hpt)), s, c, _, (vs.length : Int), rfl, S8, by omega, by omega, by omega, fun k H9 k0 k1 e9 S9 => ⟨_, _, rfl, rfl, _, rfl, (show 3 ≤ sizeLine by decide), fun p2 hp2 => ?_⟩⟩
          obtain ⟨j, rfl⟩ : ∃ j : Nat, k = (j : Int) := ⟨_, (Int.toNat_of_nonneg k0).symm⟩
          have eB := (eA.trans (ExM.of e78)).trans e9
          have hM9 := hM.exM eB S9
          have sub : ∀ m, m ∈ [s, c] → m ∈ M := fun m hm => by
            simp only [List.mem_cons, List.not_mem_nil, or_false] at hm
            rcases hm with rfl | rfl
            · exact sM
            · exact cM
          refine q (.ref p2) (.node (.rank (j + 1)) ts) _ (eB.trans (ExM.new hp2)) ((S9.new hp2).mono (by omega)) ?_ (Gen.node t1 t3 ⟨by omega, by omega⟩ gt)
          rw [enc_eq]
          refine .tup (Evl.st_of (mi_of (hM9.nin hp2) upd_same)) (.cons (.str _) (.cons ?_ (.cons (dm_ex (Evl.Ex.new hp2) (dm_exM (e9.sub sub) (dm_ex e78 dp))) .nil)))
          show Dp K _ (.int (1 + (j : Int))) (.int ((j + 1 : Nat) : Int))
          rw [show (1 + (j : Int)) = ((j + 1 : Nat) : Int) by omega]
          exact .int _
end
end K03

set_option Elab.async false
set_option linter.all false
set_option maxRecDepth 100000
set_option maxHeartbeats 4000000
namespace K03
open PySem PySem.Spec PyProof.Rows L2 DK DD TM TX SX
section
variable {P : Program} {w : World} {K : PySem.W.Frag} {mg : Str → Option Value} {base : Heap}
theorem _root_.L2.FnOk.cx0 {k : Nat} {f : Addr} {fd : FuncData} {ps : List Str} {sp sp' : Sp} (F : FnOk P w K mg base (CX P w) k f fd ps sp) (h : ∀ vs H Q E, sp' vs H Q E → sp vs H Q (fun _ _ _ => False)) : FnOk P w K mg base CX0 k f fd ps sp' :=
  ⟨fun vs H Q E q => F.len _ _ _ _ (h _ _ _ _ q), fun A outer s H args us vs Q E hr he hb hv hs => codeAny_mono (F.run A outer s H args us vs Q _ hr he hb hv (h _ _ _ _ hs)) fun r s' z => by
    cases r with
    | error e =>
      obtain ⟨_, _, _, _, _, _, _, _, _, _, _, _, z⟩ := z
      exact z.elim
    | ok fl => cases fl <;> exact z⟩
/-- check_term of a term -/
def spChk0 (K : PySem.W.Frag) : Sp := fun vs H Q _ => ∃ M t v, vs = [v] ∧ Dom M H ∧ Dm K M H v (enc t) ∧ okT t ∧ ∀ H', Evl.Ex H H' → Q .non H'
theorem ok_check_term0 (T : Top K mg) : FnOk P w K mg base CX0 6 T.check_term.f T.check_term.fd ["term"] (spChk0 K) :=
  (ok_check_term T).cx0 fun vs H Q E ⟨M, t, v, hv, hM, hd, ok, q⟩ => ⟨M, t, v, hv, hM, hd, fun _ => q, fun n => absurd ok n⟩
/-- a def that gives a text -/
def spPrice : Sp := fun vs H Q _ => ∃ (s : Nat) (a : Int), vs = [.int (s : Int), .int a] ∧ s ≤ 5 ∧ num a = true ∧ ∀ H', Evl.Ex H H' → Q (.str (S ((97 + s) :: addc a))) H'
theorem log30 {i : Int} (h : i.natAbs ≤ 10 ^ 30) : i.natAbs.log2 < 1920 := by
  by_cases h0 : i.natAbs = 0
  · rw [h0]
    decide
  · exact (Nat.log2_lt h0).mpr (Nat.lt_of_le_of_lt h (by decide +kernel))
theorem shopAt {s : Nat} (h : s ≤ 5) : atI [97, 98, 99, 100, 101, 102] (s : Int) = some (97 + s) := by
  match s, h with
  | 0, _ => rfl
  | 1, _ => rfl
  | 2, _ => rfl
  | 3, _ => rfl
  | 4, _ => rfl
  | 5, _ => rfl
theorem ok__written_price (T : Top K mg) : FnOk P w K mg base CX0 1 T._written_price.f T._written_price.fd ["shop", "add"] spPrice := by
  refine T._written_price.F.ok sc__written_price (fun vs H Q E h => ?_) (fun cdv A outer s H vs Q E hr h => ?_)
  · obtain ⟨_, _, rfl, _⟩ := h
    rfl
  obtain ⟨n, a, rfl, h5, ha, q⟩ := h
  refine ⟨_, (pss_cons (ps_if (pt_cmpR op_eq (pv 1) pe_int (nomark _)) (pss_one (ps_ret (pe_ix ix_str (pe_globS rfl T.g_SHOPS) (pv 0) (fun _ _ => rfl)))) pss_nil)
      (pss_cons (ps_set (i := 2) sc__written_price.nd rfl (Or.inl rfl) (pe_ifExp (pt_cmpR op_lt (pv 1) pe_int (nomark _)) pe_str pe_str))
      (pss_one (ps_ret (pe_joined (PJ.cons (pe_fmt (pe_ix ix_str (pe_globS rfl T.g_SHOPS) (pv 0) (fun _ _ => rfl))) (PJ.cons pe_str (PJ.cons (pe_fmt (pv 2)) (PJ.cons pe_str (PJ.cons (pe_fmt (pe_callB call_abs (by rfl) T.n_abs (by decide +kernel) (pa_cons (pv 1) pa_nil))) PJ.nil)))))))))), ?_⟩
  have hS : (Str.ofString "abcdef") = S [97, 98, 99, 100, 101, 102] := by decide +kernel
  have hna := num_abs ha
  refine Evl.q_when (Evl.et_test (Evl.ev_op (Evl.ev_var rfl) Evl.ev_c (Evl.rv_eq rfl))) (fun hb H1 e1 => ?_) (fun hb H1 e1 => ?_)
  · have h0 : a = 0 := V.int.inj (of_decide_eq_true hb)
    refine Evl.s_ret (ev_ixS (z := [97, 98, 99, 100, 101, 102]) (by rw [← hS]; exact Evl.ev_c) (Evl.ev_var rfl) (by decide) (shopAt h5)) fun H2 e2 => ?_
    have := q H2 (e1.trans e2)
    rw [h0] at this
    exact this
  · have h0 : ¬ a = 0 := fun z => of_decide_eq_false hb (congrArg V.int z)
    refine Evl.q_asg (v := .str (S [if a < 0 then 45 else 43])) (Evl.ev_if (Evl.et_test (Evl.ev_op (Evl.ev_var rfl) Evl.ev_c Evl.rv_I0)) (fun hb => ?_) (fun hb => ?_)) fun H2 e2 => ?_
    · rw [if_pos (of_decide_eq_true hb)]
      exact Evl.ev_is Evl.ev_c (by decide +kernel)
    · rw [if_neg (of_decide_eq_false hb)]
      exact Evl.ev_is Evl.ev_c (by decide +kernel)
    have hab : (if a < 0 then -a else a) = ((a.natAbs : Nat) : Int) := by split <;> omega
    have hl := dg_len hna
    refine Evl.s_ret (ev_joined (ys := [[97 + n], [32], [if a < 0 then 45 else 43], [32], dg a.natAbs])
      (.cons (ev_fmtS (ev_ixS (z := [97, 98, 99, 100, 101, 102]) (by rw [← hS]; exact Evl.ev_c) (Evl.ev_var rfl) (by decide) (shopAt h5)) (by rw [S_len]; simp))
      (.cons (Evl.ev_is Evl.ev_c (by decide +kernel))
      (.cons (ev_fmtS (Evl.ev_var rfl) (by rw [S_len]; simp))
      (.cons (Evl.ev_is Evl.ev_c (by decide +kernel))
      (.cons (Evl.ev_is (ev_fmtI (i := ((a.natAbs : Nat) : Int)) (Evl.ev_is (Evl.ev_cb (Evl.ea_cons (Evl.ev_var rfl) Evl.ea_nil) (fun H1 _ Q q => ⟨a, rfl, q H1 (Evl.Ex.refl _)⟩)) (congrArg V.int hab)) (log30 (by simpa using hna))) (congrArg V.str (str_nat a.natAbs)))
      .nil))))) (by simp; omega)) fun H3 e3 => ?_
    have := q H3 ((e1.trans e2).trans e3)
    unfold addc at this
    rw [if_neg h0] at this
    simpa using this
/-- _written(term), of at most L levels -/
def spWr (K : PySem.W.Frag) (L : Nat) : Sp := fun vs H Q _ => ∃ M t v, vs = [v] ∧ Dom M H ∧ Dm K M H v (enc t) ∧ fr t = true ∧ cnt t ≤ 40 ∧ dep t ≤ L ∧ ∀ H', Evl.Ex H H' → Q (.str (S (wrc t))) H'
/-- a new list of texts, by a comprehension over a tuple of data -/
theorem el_texts {M : List Addr} {σ : L2.St} {H : Hp} {tl te : TE} {j : Nat} {ws : List Nat} {l : List Trm} {f : Trm → List Nat} (hM : Dom M H) (h : DE K M tl σ H (.tuple (l.map enc))) (hl : l.length ≤ 1000) (hw : ∀ x, wipe ((wipe σ ws).set j (some x)) ws = wipe σ ws)
    (he : ∀ t ∈ l, ∀ x H1 D, H D = none → Evl.Ex H H1 → Dom (D :: M) H1 → Dm K (D :: M) H1 x (enc t) → Evl.Ev te ((wipe σ ws).set j (some x)) H1 (.str (S (f t)))) : Evl.EvL (tLc (iTup K tl) (gName j) tYes te ws) σ H ((l.map f).map fun y => V.str (S y)) := fun H1 e Q q =>
  dl_lcT (f := fun t => .str (S (f t))) hM h hl hw (fun t ht x H2 D n e2 hD hx => de_sc (he t ht x H2 D n e2 hD hx) rfl) H1 e Q fun p vs H2 n e2 hp d => by
    rw [dpa_strs (g := fun t => S (f t)) (dms_less d)] at hp
    exact q p H2 n e2 (by rw [hp, List.map_map]; rfl)
theorem ok__written (T : Top K mg) : ∀ L : Nat, FnOk P w K mg base CX0 (L + 1) T._written.f T._written.fd ["term"] (spWr K L)
  | 0 => by
    have no : ∀ vs H Q E, ¬ spWr K 0 vs H Q E := fun vs H Q E h => by
      obtain ⟨_, t, _, _, _, _, _, _, h, _⟩ := h
      have := dep_pos t
      omega
    exact ⟨fun vs H Q E h => absurd h (no vs H Q E), fun A outer s H args us vs Q E _ _ _ _ h => absurd h (no vs H Q E)⟩
  | L + 1 => by
    have IH := ok__written T L
    refine T._written.F.ok sc__written (fun vs H Q E h => ?_) (fun cdv A outer s H vs Q E hr h => ?_)
    · obtain ⟨_, _, _, rfl, _⟩ := h
      rfl
    obtain ⟨M, t, v, rfl, hM, hd, hf, hc, hdp, q⟩ := h
    refine ⟨_, (pss_cons (ps_set (i := 1) sc__written.nd rfl (Or.inl rfl) (pe_ix ix_tup (pv 0) pe_int (fun _ _ => rfl)))
      (pss_cons (ps_if (pt_cmpR op_eq (pv 1) pe_str (nomark _)) (pss_one (ps_ret (pe_call (ok__written_price T) (hr.mono (by omega)) (by rfl) T._written_price.g T._written_price.F.kp T._written_price.b .nil pass0 (pa_cons (pe_ix ix_tup (pv 0) pe_int (fun _ _ => rfl)) (pa_cons (pe_ix ix_tup (pv 0) pe_int (fun _ _ => rfl)) pa_nil))))) pss_nil)
      (pss_cons (ps_if (pt_cmpR op_eq (pv 1) pe_str (nomark _)) (pss_one (ps_ret (pe_callTy call_str_int (by rfl) T.n_str (by decide +kernel) (pa_cons (pe_ix ix_tup (pv 0) pe_int (fun _ _ => rfl)) pa_nil)))) pss_nil)
      (pss_cons (ps_set (i := 2) sc__written.nd rfl (Or.inl rfl) (pe_ifExp (pt_cmpR op_eq (pv 1) pe_str (nomark _)) (pe_joined (PJ.cons pe_str (PJ.cons (pe_fmt (pe_ix ix_tup (pv 0) pe_int (fun _ _ => rfl))) PJ.nil))) (pv 1)))
      (pss_cons (ps_set (i := 3) sc__written.nd rfl (Or.inl rfl) (pe_join pe_str (pe_lc (own := [("part", 4)]) (g := gName 4) (tt := tYes) rfl sc__written.nd (pi_tup (pe_ix ix_tup (pv 0) (pe_un un_neg pe_int) (fun _ _ => rfl))) (blkOk_by (N := N__written) (sc := defScope s__written) (by decide +kernel)) (fun _ _ _ _ _ => (pg_name (i := 4) sc__written.nd rfl (Or.inl rfl))) (fun _ _ _ _ _ => pts_nil) (fun _ _ _ _ _ => (pe_call (IH) (hr.mono (by omega)) (by rfl) T._written.g T._written.F.kp T._written.b .nil pass0 (pa_cons (pv 4) pa_nil))))))
      (pss_one (ps_ret (pe_joined (PJ.cons (pe_fmt (pv 2)) (PJ.cons pe_str (PJ.cons (pe_fmt (pv 3)) (PJ.cons pe_str PJ.nil)))))))))))), ?_⟩
    refine Evl.q_asg (ev_word (Evl.ev_var (by rfl)) hd) fun H1 e1 => ?_
    have hd1 : Dm K M H1 v (.tuple (encL t)) := by
      rw [← enc_eq]
      exact dm_ex e1 hd
    have wl := wrc_len t hf
    match t, hd1, q, hf, hc, hdp, wl with
    | .price n a, hd1, q, hf, hc, hdp, wl =>
      simp only [TM.fr, form, Bool.and_eq_true, decide_eq_true_eq] at hf
      refine Evl.q_when (b := true) (Evl.et_is (Evl.et_test (Evl.ev_op (Evl.ev_var rfl) Evl.ev_c (Evl.rv_eq rfl))) rfl) (fun _ H3 e3 => ?_) (fun hb => nomatch hb)
      have hd3 := dm_ex e3 hd1
      refine Evl.s_ret (Evl.ev_call (Evl.ea_cons (ev_sc (de_ixT (de_v hd3 (by rfl)) Evl.ev_c (d := .int n) rfl) rfl) (Evl.ea_cons (ev_sc (de_ixT (de_v hd3 (by rfl)) Evl.ev_c (d := .int a) rfl) rfl) Evl.ea_nil))
        (fun H4 e4 Q4 q4 _ => ⟨n, a, rfl, by omega, hf.2, q4⟩)) fun H4 e4 => ?_
      have := q H4 ((e1.trans e3).trans e4)
      simp only [wrc] at this
      exact this
    | .plain n, hd1, q, hf, hc, hdp, wl =>
      simp only [TM.fr, form] at hf
      refine Evl.q_when (b := false) (Evl.et_is (Evl.et_test (Evl.ev_op (Evl.ev_var rfl) Evl.ev_c (Evl.rv_eq rfl))) rfl) (fun hb => nomatch hb) (fun _ H3 e3 => ?_)
      refine Evl.q_when (b := true) (Evl.et_is (Evl.et_test (Evl.ev_op (Evl.ev_var rfl) Evl.ev_c (Evl.rv_eq rfl))) rfl) (fun _ H4 e4 => ?_) (fun hb => nomatch hb)
      have hd4 := dm_ex (e3.trans e4) hd1
      refine Evl.s_ret (Evl.ev_is (v := .str (toString n)) (Evl.ev_cb (Evl.ea_cons (ev_sc (de_ixT (de_v hd4 (by rfl)) Evl.ev_c (d := .int n) rfl) rfl) Evl.ea_nil) (fun H5 _ Q5 q5 => ⟨n, rfl, log30 (num_abs hf), q5 H5 (Evl.Ex.refl _)⟩)) (congrArg V.str (str_int n))) fun H5 e5 => ?_
      have := q H5 ((e1.trans (e3.trans e4)).trans e5)
      simp only [wrc] at this
      exact this
    | .node hd' ps, hd1, q, hf, hc, hdp, wl =>
      have hff := (fr_iff (.node hd' ps)).mp hf
      have kl := form_kids hff.1
      simp only [kids] at kl
      have hcn : cnts ps ≤ 40 := by simp only [TM.cnt] at hc; omega
      have hwn : word (.node hd' ps) ≠ "price" ∧ word (.node hd' ps) ≠ "plain" := by cases hd' <;> (simp only [word]; decide +kernel)
      refine Evl.q_when (b := false) (Evl.et_is (Evl.et_test (Evl.ev_op (Evl.ev_var rfl) Evl.ev_c (Evl.rv_eq rfl))) (decide_eq_false fun z => hwn.1 (V.str.inj z))) (fun hb => nomatch hb) (fun _ H3 e3 => ?_)
      refine Evl.q_when (b := false) (Evl.et_is (Evl.et_test (Evl.ev_op (Evl.ev_var rfl) Evl.ev_c (Evl.rv_eq rfl))) (decide_eq_false fun z => hwn.2 (V.str.inj z))) (fun hb => nomatch hb) (fun _ H4 e4 => ?_)
      have e34 := e3.trans e4
      have hd4 := dm_ex e34 hd1
      -- name
      have hname : Evl.Ev (tIf (tTest (tOp rEq (tVar 1) (tC (.str "rank")))) (fun σ H Q => tJs [tC (.str "rank "), tFmt (tOp (rIxT K) (tVar 0) (tC (.int 1)))] Str.empty σ H fun out H1 => Q (.str out) H1) (tVar 1))
          [some v, some (.str (word (.node hd' ps))), none, none, none] H4 (.str (S (hdc hd'))) := by
        refine Evl.ev_if (Evl.et_test (Evl.ev_op (Evl.ev_var rfl) Evl.ev_c (Evl.rv_eq rfl))) (fun hb => ?_) (fun hb => ?_)
        · cases hd' with
          | least => exact absurd (V.str.inj (of_decide_eq_true hb)) (by simp only [word]; decide +kernel)
          | most => exact absurd (V.str.inj (of_decide_eq_true hb)) (by simp only [word]; decide +kernel)
          | rank k =>
            have hk : k ≤ 6 := by
              have := hff.1
              simp only [form, Bool.and_eq_true, decide_eq_true_eq] at this
              omega
            have hdl := dg_len (n := k) (by omega)
            refine Evl.ev_is (ev_joined (ys := [[114, 97, 110, 107, 32], dg k]) (.cons (Evl.ev_is Evl.ev_c (by decide +kernel)) (.cons (Evl.ev_is (ev_fmtI (i := (k : Int)) (ev_sc (de_ixT (de_v hd4 (by rfl)) Evl.ev_c (d := .int k) rfl) rfl) (log30 (by simp; omega))) (congrArg V.str (str_nat k))) .nil)) (by simp; omega)) ?_
            simp [hdc]
        · cases hd' with
          | least => exact Evl.ev_is (Evl.ev_var rfl) (by simp only [word, hdc]; decide +kernel)
          | most => exact Evl.ev_is (Evl.ev_var rfl) (by simp only [word, hdc]; decide +kernel)
          | rank k => exact absurd rfl (of_decide_eq_false hb)
      refine Evl.q_asg hname fun H5 e5 => ?_
      -- parts
      have hd5 := dm_ex e5 hd4
      have hM5 := hM.ex ((e1.trans e34).trans e5)
      have hkids : atI (encL (.node hd' ps)) (-1) = some (.tuple (ps.map enc)) := encL_kids rfl
      have wls := wrcs_len ps (TM.frs_iff.mpr hff.2)
      rw [wrcs_map] at wls
      refine Evl.q_asg (ev_join (sep := [44, 32]) (cs := ps.map wrc) (Evl.ev_is Evl.ev_c (by decide +kernel)) (el_texts hM5 (de_ixT (de_v hd5 (by rfl)) (Evl.ev_un Evl.ev_c Evl.ru_neg) hkids) (by omega) (fun _ => rfl) (fun t ht x H6 D n6 e6 hM6 hx =>
        Evl.ev_call (Evl.ea_cons (Evl.ev_var rfl) Evl.ea_nil) (fun H7 e7 Q7 q7 _ => ⟨D :: M, t, x, rfl, hM6.ex e7, dm_ex e7 hx, hff.2 t ht, by have := cnts_mem ht; omega, by have := dep_kids (t := .node hd' ps) ht; omega, q7⟩)))
        (by rw [List.length_map]; show _ + ps.length * 2 ≤ _; omega)) fun H6 e6 => ?_
      have hwl : (wrc (.node hd' ps)).length ≤ 2400 := by omega
      simp only [wrc, List.length_append, List.length_cons, List.length_nil, wrcs_map] at hwl
      refine Evl.s_ret (ev_joined (ys := [hdc hd', [40], TL.joinL [44, 32] (ps.map wrc), [41]]) (.cons (ev_fmtS (Evl.ev_var rfl) (by rw [S_len]; omega)) (.cons (Evl.ev_is Evl.ev_c (by decide +kernel)) (.cons (ev_fmtS (Evl.ev_var rfl) (by rw [S_len]; omega)) (.cons (Evl.ev_is Evl.ev_c (by decide +kernel)) .nil))))
        (by simp; omega)) fun H7 e7 => ?_
      have := q H7 ((((e1.trans e34).trans e5).trans e6).trans e7)
      simp only [wrc, wrcs_map] at this
      simpa using this
/-- term_text(term) -/
def spText (K : PySem.W.Frag) : Sp := fun vs H Q _ => ∃ M t v, vs = [v] ∧ Dom M H ∧ Dm K M H v (enc t) ∧ okT t ∧ ∀ H', Evl.Ex H H' → Q (.str (S (wrc t))) H'
theorem ok_term_text (T : Top K mg) : FnOk P w K mg base CX0 8 T.term_text.f T.term_text.fd ["term"] (spText K) := by
  refine T.term_text.F.ok sc_term_text (fun vs H Q E h => ?_) (fun cdv A outer s H vs Q E hr h => ?_)
  · obtain ⟨_, _, _, rfl, _⟩ := h
    rfl
  obtain ⟨M, t, v, rfl, hM, hd, ok, q⟩ := h
  refine ⟨_, (pss_cons (ps_expr (pe_call (ok_check_term0 T) (hr.mono (by omega)) (by rfl) T.check_term.g T.check_term.F.kp T.check_term.b .nil pass0 (pa_cons (pv 0) pa_nil)))
      (pss_one (ps_ret (pe_call (ok__written T 6) (hr.mono (by omega)) (by rfl) T._written.g T._written.F.kp T._written.b .nil pass0 (pa_cons (pv 0) pa_nil))))), ?_⟩
  refine ⟨_, rfl, M, t, v, rfl, hM, hd, ok, fun H1 e1 => ?_⟩
  exact ⟨_, rfl, M, t, v, rfl, hM.ex e1, dm_ex e1 hd, ok.2.2, ok.1, ok.2.1, fun H2 e2 => q H2 (e1.trans e2)⟩
end
end K03

set_option Elab.async false
set_option linter.all false
set_option maxRecDepth 100000
set_option maxHeartbeats 4000000
namespace K03
open PySem PySem.Spec PyProof.Rows L2 DK DD TM TX SX RD
section
variable {P : Program} {w : World} {K : PySem.W.Frag} {mg : Str → Option Value} {base : Heap}
/-- self.peek() -/
def spPeek (C : Addr) : Sp := fun vs H Q _ => ∃ (r dx : Addr) (cs : List Nat) (n : Nat), vs = [.ref r] ∧ H r = some (rdr C dx cs n) ∧ n ≤ cs.length ∧ cs.length ≤ 90000 ∧
  ∀ H', ExM [r] H H' → H' r = some (rdr C dx cs (n + skip (cs.drop n))) → Q (.str (S ((cs.drop (n + skip (cs.drop n))).take 1))) H'
theorem ok_Reader_peek (T : Top K mg) : FnOk P w K mg base CX0 1 T.R_peek.f T.R_peek.fd ["self"] (spPeek T.R.C) := by
  refine T.R_peek.F.ok sc_Reader_peek (fun vs H Q E h => ?_) (fun cdv A outer s H vs Q E hr h => ?_)
  · obtain ⟨_, _, _, _, rfl, _⟩ := h
    rfl
  obtain ⟨r, dx, cs, n, rfl, ho, hn, h9, q⟩ := h
  refine ⟨_, (pss_cons (ps_while PassesOwn.never (pt_cmpR op_eq (pe_slice sl_str (pe_fld (pv 0) rfl) (po_some (pe_fld (pv 0) rfl)) (po_some (pe_op op_add (pe_fld (pv 0) rfl) pe_int))) pe_str (nomark _)) (pss_one (ps_fldaug (pv 0) pe_int in_add)))
      (pss_one (ps_ret (pe_slice sl_str (pe_fld (pv 0) rfl) (po_some (pe_fld (pv 0) rfl)) (po_some (pe_op op_add (pe_fld (pv 0) rfl) pe_int)))))), ?_⟩
  have hs := skip_le (cs.drop n)
  rw [List.length_drop] at hs
  have piece : ∀ (H1 : Hp) (k : Nat), k ≤ skip (cs.drop n) → H1 r = some (rdr T.R.C dx cs (n + k)) → Evl.Ev (tSl rSlS (tFld K (tVar 0) "text") (tPart (tFld K (tVar 0) "at")) (tPart (tOp (rI0 fun i j => .int (i + j)) (tFld K (tVar 0) "at") (tC (.int 1))))) [some (.ref r)] H1 (.str (S ((cs.drop (n + k)).take 1))) := fun H1 k hk h1 =>
    ev_slS (ev_fld (Evl.ev_var rfl) h1 T.R.cl T.R.nT (lk_text _ _)) (Evl.eo_some (ev_fld (Evl.ev_var rfl) h1 T.R.cl T.R.nA (lk_at _ _))) (Evl.eo_some (Evl.ev_op (ev_fld (Evl.ev_var rfl) h1 T.R.cl T.R.nA (lk_at _ _)) Evl.ev_c Evl.rv_I0)) (by omega) (cut1 (by omega))
  refine Evl.q_while (fun m σ' H' => ∃ k, σ' = [some (.ref r)] ∧ k ≤ skip (cs.drop n) ∧ H' r = some (rdr T.R.C dx cs (n + k)) ∧ ExM [r] H H' ∧ m = skip (cs.drop n) - k) (skip (cs.drop n)) ⟨0, rfl, by omega, ho, ExM.refl _ _, rfl⟩ (fun m σ' H' hW => ?_)
  obtain ⟨k, rfl, hk, h1, hB, rfl⟩ := hW
  refine ⟨_, Evl.et_test (Evl.ev_op (piece H' k hk h1) Evl.ev_c (Evl.rv_eq rfl)), fun hb H2 e2 => ?_, fun hb H2 e2 => ?_⟩
  · have hlt : k < skip (cs.drop n) := by
      have := of_decide_eq_true hb
      refine (skip_take (cs.drop n) k hk).mp ?_
      rw [List.drop_drop]
      exact S_inj ((V.str.inj this).trans (by decide +kernel))
    refine ⟨fun σ2 H3 => ∃ m', m' < skip (cs.drop n) - k ∧ _, fun σ2 H3 z => z, ?_⟩
    have h2 := e2 _ _ h1
    refine ⟨_, rfl, r, T.R.C, dx, _, _, rfl, h2, T.R.cl, T.R.nA, lk_at _ _, _, _, rfl, rfl, dx, _, h2, by simp [flds], ?_⟩
    rw [put_at cs (n + k) ((n + k : Nat) + 1) (n + (k + 1)) (by omega)]
    exact ⟨skip (cs.drop n) - (k + 1), by omega, k + 1, rfl, by omega, upd_same, (hB.trans (ExM.of e2)).trans (ExM.mut (by simp)), rfl⟩
  · have hge : k = skip (cs.drop n) := by
      have := of_decide_eq_false hb
      by_cases hlt : k < skip (cs.drop n)
      · refine absurd ?_ this
        have h2 := (skip_take (cs.drop n) k hk).mpr hlt
        rw [List.drop_drop] at h2
        rw [h2]
        exact congrArg V.str (by decide +kernel)
      · omega
    subst hge
    exact Evl.s_ret (piece H2 _ (Nat.le_refl _) (e2 _ _ h1)) fun H3 e3 => q H3 ((hB.trans (ExM.of e2)).trans (ExM.of e3)) (e3 _ _ (e2 _ _ h1))
/-- self.run(allowed) -/
def spRun (C : Addr) : Sp := fun vs H Q _ => ∃ (r dx : Addr) (cs al : List Nat) (n : Nat), vs = [.ref r, .str (S al)] ∧ H r = some (rdr C dx cs n) ∧ n ≤ cs.length ∧ cs.length ≤ 90000 ∧
  ∀ H', Evl.Ex H H' → Q (.str (S ((cs.drop n).take (runL al (cs.drop n))))) H'
theorem ok_Reader_run (T : Top K mg) : FnOk P w K mg base CX0 1 T.R_run.f T.R_run.fd ["self", "allowed"] (spRun T.R.C) := by
  refine T.R_run.F.ok sc_Reader_run (fun vs H Q E h => ?_) (fun cdv A outer s H vs Q E hr h => ?_)
  · obtain ⟨_, _, _, _, _, rfl, _⟩ := h
    rfl
  obtain ⟨r, dx, cs, al, n, rfl, ho, hn, h9, q⟩ := h
  refine ⟨_, (pss_cons (ps_set (i := 2) sc_Reader_run.nd rfl (Or.inl rfl) (pe_fld (pv 0) rfl))
      (pss_cons (ps_while PassesOwn.never (PW.pt (pw_and (pt_cmpR op_lt (pv 2) (pe_callB call_len_str (by rfl) T.n_len PySem.boot_len (pa_cons (pe_fld (pv 0) rfl) pa_nil)) (nomark _)) (pw_and1 (pt_cmpR op_in_sign (pe_ix ix_str (pe_fld (pv 0) rfl) (pv 2) (fun _ _ => rfl)) (pv 1) (by with_unfolding_all rfl))))) (pss_one (ps_aug (i := 2) sc_Reader_run.nd rfl (Or.inl rfl) pe_int ip_add)))
      (pss_one (ps_ret (pe_slice sl_str (pe_fld (pv 0) rfl) (po_some (pe_fld (pv 0) rfl)) (po_some (pv 2))))))), ?_⟩
  have hs := runL_le al (cs.drop n)
  rw [List.length_drop] at hs
  refine Evl.q_asg (ev_fld (Evl.ev_var rfl) ho T.R.cl T.R.nA (lk_at _ _)) fun H1 e1 => ?_
  refine Evl.q_while (fun m σ' H' => ∃ k, σ' = [some (.ref r), some (.str (S al)), some (.int ((n + k : Nat) : Int))] ∧ k ≤ runL al (cs.drop n) ∧ Evl.Ex H H' ∧ m = runL al (cs.drop n) - k) (runL al (cs.drop n)) ⟨0, rfl, by omega, e1, rfl⟩ (fun m σ' H' hW => ?_)
  obtain ⟨k, rfl, hk, hE, rfl⟩ := hW
  have h1 := hE _ _ ho
  have lenE : Evl.Ev (tCB (fun xs H Q => ∃ z, xs = [.str z] ∧ z.length ≤ sizeLine ∧ Q (.int z.length) H) (tCons (tFld K (tVar 0) "text") tNil)) [some (.ref r), some (.str (S al)), some (.int ((n + k : Nat) : Int))] H' (.int (cs.length : Int)) :=
    ev_lenS (ev_fld (Evl.ev_var rfl) h1 T.R.cl T.R.nT (lk_text _ _)) (by omega)
  by_cases hend : n + k < cs.length
  · obtain ⟨c, hc⟩ : ∃ c, cs[n + k]? = some c := ⟨_, List.getElem?_eq_getElem hend⟩
    have hin := runL_at al (cs.drop n) k c hk (by rw [List.getElem?_drop]; exact hc)
    refine ⟨_, Evl.et_and (Evl.et_test (Evl.ev_op (Evl.ev_var rfl) lenE Evl.rv_I0)) (fun _ => Evl.et_test (ev_inS (ev_ixS (ev_fld (Evl.ev_var rfl) h1 T.R.cl T.R.nT (lk_text _ _)) (Evl.ev_var rfl) (by omega) (atI_nat hc)) (Evl.ev_var rfl))), fun hb H2 e2 => ?_, fun hb H2 e2 => ?_⟩
    · simp only [Bool.and_eq_true, decide_eq_true_eq] at hb
      have hlt := hin.mp hb.2
      refine ⟨fun σ2 H3 => ∃ m', m' < runL al (cs.drop n) - k ∧ _, fun σ2 H3 z => z, ?_⟩
      refine Evl.s_aug rfl Evl.ev_c fun H3 e3 => ?_
      refine ⟨runL al (cs.drop n) - (k + 1), by omega, k + 1, ?_, by omega, (hE.trans e2).trans e3, rfl⟩
      show [some (V.ref r), some (V.str (S al)), some (V.int (((n + k : Nat) : Int) + 1))] = _
      rw [show (((n + k : Nat) : Int) + 1) = ((n + (k + 1) : Nat) : Int) by omega]
    · have hge : k = runL al (cs.drop n) := by
        by_cases hlt : k < runL al (cs.drop n)
        · have := hin.mpr hlt
          simp only [Bool.and_eq_false_iff, decide_eq_false_iff_not] at hb
          rcases hb with hb | hb
          · omega
          · exact absurd this hb
        · omega
      subst hge
      exact Evl.s_ret (ev_slS (ev_fld (Evl.ev_var rfl) (e2 _ _ h1) T.R.cl T.R.nT (lk_text _ _)) (Evl.eo_some (ev_fld (Evl.ev_var rfl) (e2 _ _ h1) T.R.cl T.R.nA (lk_at _ _))) (Evl.eo_some (Evl.ev_var rfl)) (by omega) (cutN (by omega))) fun H3 e3 => q H3 ((hE.trans e2).trans e3)
  · refine ⟨false, Evl.et_is (Evl.et_and (b := false) (Evl.et_test (Evl.ev_op (Evl.ev_var rfl) lenE Evl.rv_I0)) (fun hb => ?_)) (by simp), fun hb H2 e2 => (nomatch hb), fun hb H2 e2 => ?_⟩
    · have := of_decide_eq_true hb
      omega
    · have hge : k = runL al (cs.drop n) := by omega
      subst hge
      exact Evl.s_ret (ev_slS (ev_fld (Evl.ev_var rfl) (e2 _ _ h1) T.R.cl T.R.nT (lk_text _ _)) (Evl.eo_some (ev_fld (Evl.ev_var rfl) (e2 _ _ h1) T.R.cl T.R.nA (lk_at _ _))) (Evl.eo_some (Evl.ev_var rfl)) (by omega) (cutN (by omega))) fun H3 e3 => q H3 ((hE.trans e2).trans e3)
theorem hLET : (Str.ofString "abcdefghijklmnopqrstuvwxyz") = S letters := by decide +kernel
theorem hDIG : (Str.ofString "0123456789") = S digs := by decide +kernel
/-- self.sign(allowed), the sign there -/
def spSign (C : Addr) : Sp := fun vs H Q _ => ∃ (r dx : Addr) (cs al : List Nat) (n c : Nat) (ws : List (List Nat)), vs = [.ref r, .str (S al)] ∧ H r = some (rdr C dx cs n) ∧ n ≤ cs.length ∧ cs.length ≤ 90000 ∧ Lo ([c] :: ws) (cs.drop n) ∧ c ∈ al ∧
  ∀ H' n', n < n' → n' ≤ cs.length → ExM [r] H H' → H' r = some (rdr C dx cs n') → Lo ws (cs.drop n') → Q (.str (S [c])) H'
theorem ok_Reader_sign (T : Top K mg) : FnOk P w K mg base CX0 2 T.R_sign.f T.R_sign.fd ["self", "allowed"] (spSign T.R.C) := by
  refine T.R_sign.F.ok sc_Reader_sign (fun vs H Q E h => ?_) (fun cdv A outer s H vs Q E hr h => ?_)
  · obtain ⟨_, _, _, _, _, _, _, rfl, _⟩ := h
    rfl
  obtain ⟨r, dx, cs, al, n, c, ws, rfl, ho, hn, h9, hL, hc, q⟩ := h
  refine ⟨_, (pss_cons (ps_set (i := 2) sc_Reader_sign.nd rfl (Or.inl rfl) (pe_meth0 (pv 0) T.R.cl T.R_peek.m (ok_Reader_peek T) (hr.mono (by omega)) T.R_peek.b .nil pass0))
      (pss_cons (ps_if (PW.pt (pw_or (pt_cmpR op_eq (pv 2) pe_str (nomark _)) (pw_or1 (pt_cmpR op_notIn_sign (pv 2) (pv 1) (by with_unfolding_all rfl))))) (pss_one DD.ps_never) pss_nil)
      (pss_cons (ps_fldaug (pv 0) pe_int in_add)
      (pss_one (ps_ret (pv 2)))))), ?_⟩
  refine ⟨_, rfl, r, dx, _, rfl, ho, lk_no cs n (by decide +kernel) (by decide +kernel), r, dx, cs, n, rfl, ho, hn, h9, fun H1 e1 h1 => ?_⟩
  obtain ⟨t1, lt⟩ := lo_take hL
  rw [List.length_drop] at lt
  have hp : (cs.drop (n + skip (cs.drop n))).take 1 = [c] := by
    rw [← List.drop_drop]
    exact t1
  rw [hp]
  have n1 : ¬ V.str (S [c]) = V.str (Str.ofString "") := fun z => by
    have := S_inj ((V.str.inj z).trans (show Str.ofString "" = S [] by decide +kernel))
    cases this
  have e9 : (decide (V.str (S [c]) = V.str (Str.ofString "")) || !decide (c ∈ al)) = false := by simp [n1, hc]
  dsimp only [L2.gName]
  refine Evl.q_when (b := false) ?_ (fun hb => nomatch hb) fun _ H2 e2 => ?_
  · refine Evl.et_is ?_ e9
    refine Evl.et_or ?_ fun _ => ?_
    · exact Evl.et_test (Evl.ev_op (Evl.ev_var (by rfl)) Evl.ev_c (Evl.rv_eq rfl))
    · exact Evl.et_test (ev_ninS (Evl.ev_var (by rfl)) (Evl.ev_var (by rfl)))
  have h2 := e2 _ _ h1
  refine ⟨_, rfl, r, T.R.C, dx, _, _, rfl, h2, T.R.cl, T.R.nA, lk_at _ _, _, _, rfl, rfl, dx, _, h2, by simp [flds], ?_⟩
  rw [put_at cs (n + skip (cs.drop n)) ((n + skip (cs.drop n) : Nat) + 1) (n + skip (cs.drop n) + 1) (by omega)]
  refine ⟨_, rfl, q _ (n + skip (cs.drop n) + 1) (by omega) (by omega) ((e1.trans (ExM.of e2)).trans (ExM.mut (by simp))) upd_same ?_⟩
  obtain ⟨l', h3, h4⟩ := hL
  rw [← List.drop_drop, ← List.drop_drop, h3]
  exact h4
/-- self.word(): the letters that stand there -/
def spWord (C : Addr) : Sp := fun vs H Q _ => ∃ (r dx : Addr) (cs : List Nat) (n : Nat), vs = [.ref r] ∧ H r = some (rdr C dx cs n) ∧ n ≤ cs.length ∧ cs.length ≤ 90000 ∧
  ∀ H' w, w = ((cs.drop n).drop (skip (cs.drop n))).take (runL letters ((cs.drop n).drop (skip (cs.drop n)))) → ExM [r] H H' → H' r = some (rdr C dx cs (n + skip (cs.drop n) + w.length)) → n + skip (cs.drop n) + w.length ≤ cs.length → Q (.str (S w)) H'
theorem ok_Reader_word (T : Top K mg) : FnOk P w K mg base CX0 2 T.R_word.f T.R_word.fd ["self"] (spWord T.R.C) := by
  refine T.R_word.F.ok sc_Reader_word (fun vs H Q E h => ?_) (fun cdv A outer s H vs Q E hr h => ?_)
  · obtain ⟨_, _, _, _, rfl, _⟩ := h
    rfl
  obtain ⟨r, dx, cs, n, rfl, ho, hn, h9, q⟩ := h
  refine ⟨_, (pss_cons (ps_expr (pe_meth0 (pv 0) T.R.cl T.R_peek.m (ok_Reader_peek T) (hr.mono (by omega)) T.R_peek.b .nil pass0))
      (pss_cons (ps_set (i := 1) sc_Reader_word.nd rfl (Or.inl rfl) (pe_meth (pv 0) T.R.cl T.R_run.m (ok_Reader_run T) (hr.mono (by omega)) T.R_run.b .nil pass0 (pa_cons (pe_globS rfl T.g__LETTERS) pa_nil)))
      (pss_cons (ps_fldaug (pv 0) (pe_callB call_len_str (by rfl) T.n_len PySem.boot_len (pa_cons (pv 1) pa_nil)) in_add)
      (pss_one (ps_ret (pv 1)))))), ?_⟩
  refine ⟨_, rfl, r, dx, _, rfl, ho, lk_no cs n (by decide +kernel) (by decide +kernel), r, dx, cs, n, rfl, ho, hn, h9, fun H1 e1 h1 => ?_⟩
  have hs := skip_le (cs.drop n)
  rw [List.length_drop] at hs
  refine ⟨_, rfl, r, dx, _, rfl, h1, lk_no cs _ (by decide +kernel) (by decide +kernel), r, dx, cs, letters, _, ?_, h1, by omega, h9, fun H2 e2 => ?_⟩
  · show [V.ref r, V.str (Str.ofString "abcdefghijklmnopqrstuvwxyz")] = _
    rw [hLET]
  rw [← List.drop_drop]
  have hrl := runL_le letters ((cs.drop n).drop (skip (cs.drop n)))
  rw [List.length_drop, List.length_drop] at hrl
  have h2 := e2 _ _ h1
  have hwl : (((cs.drop n).drop (skip (cs.drop n))).take (runL letters ((cs.drop n).drop (skip (cs.drop n))))).length ≤ cs.length - n - skip (cs.drop n) := by
    rw [List.length_take, List.length_drop, List.length_drop]
    omega
  generalize hw : ((cs.drop n).drop (skip (cs.drop n))).take (runL letters ((cs.drop n).drop (skip (cs.drop n)))) = wd at hwl
  refine ⟨_, rfl, r, T.R.C, dx, _, _, rfl, h2, T.R.cl, T.R.nA, lk_at _ _, _, rfl, S wd, rfl, Evl.sz_of (by rw [S_len]; omega), _, _, rfl, rfl, dx, _, h2, by simp [flds], ?_⟩
  rw [put_at cs (n + skip (cs.drop n)) ((n + skip (cs.drop n) : Nat) + ((S wd).length : Int)) (n + skip (cs.drop n) + wd.length) (by rw [S_len]; omega)]
  exact ⟨_, rfl, q _ wd hw.symm ((e1.trans (ExM.of e2)).trans (ExM.mut (by simp))) upd_same (by omega)⟩
/-- self.number(), a number there -/
def spNumber (C : Addr) : Sp := fun vs H Q _ => ∃ (r dx : Addr) (cs : List Nat) (n m : Nat) (ws : List (List Nat)), vs = [.ref r] ∧ H r = some (rdr C dx cs n) ∧ n ≤ cs.length ∧ cs.length ≤ 90000 ∧ Lo (dg m :: ws) (cs.drop n) ∧ nx digs ws ∧ m ≤ 10 ^ 30 ∧
  ∀ H' n', n < n' → n' ≤ cs.length → ExM [r] H H' → H' r = some (rdr C dx cs n') → Lo ws (cs.drop n') → Q (.int (m : Int)) H'
theorem ok_Reader_number (T : Top K mg) : FnOk P w K mg base CX0 2 T.R_number.f T.R_number.fd ["self"] (spNumber T.R.C) := by
  refine T.R_number.F.ok sc_Reader_number (fun vs H Q E h => ?_) (fun cdv A outer s H vs Q E hr h => ?_)
  · obtain ⟨_, _, _, _, _, _, rfl, _⟩ := h
    rfl
  obtain ⟨r, dx, cs, n, m, ws, rfl, ho, hn, h9, hL, hx, hm, q⟩ := h
  refine ⟨_, (pss_cons (ps_expr (pe_meth0 (pv 0) T.R.cl T.R_peek.m (ok_Reader_peek T) (hr.mono (by omega)) T.R_peek.b .nil pass0))
      (pss_cons (ps_set (i := 1) sc_Reader_number.nd rfl (Or.inl rfl) (pe_meth (pv 0) T.R.cl T.R_run.m (ok_Reader_run T) (hr.mono (by omega)) T.R_run.b .nil pass0 (pa_cons (pe_globS rfl T.g_DIGITS) pa_nil)))
      (pss_cons (ps_if (pt_cmpR op_eq (pv 1) pe_str (nomark _)) (pss_one DD.ps_never) pss_nil)
      (pss_cons (ps_if (pt_cmpR op_eq (pe_ix ix_str (pv 1) pe_int (fun _ _ => rfl)) pe_str (nomark _)) (pss_one (ps_set (i := 1) sc_Reader_number.nd rfl (Or.inl rfl) pe_str)) pss_nil)
      (pss_cons (ps_set (i := 1) sc_Reader_number.nd rfl (Or.inl rfl) (pe_slice sl_str (pv 1) po_none (po_some (pe_globI rfl T.g__MOST_DIGITS))))
      (pss_cons (ps_fldaug (pv 0) (pe_callB call_len_str (by rfl) T.n_len PySem.boot_len (pa_cons (pv 1) pa_nil)) in_add)
      (pss_one (ps_ret (pe_callTy call_int_str (by rfl) T.n_int (by decide +kernel) (pa_cons (pv 1) pa_nil)))))))))), ?_⟩
  refine ⟨_, rfl, r, dx, _, rfl, ho, lk_no cs n (by decide +kernel) (by decide +kernel), r, dx, cs, n, rfl, ho, hn, h9, fun H1 e1 h1 => ?_⟩
  have hs := skip_le (cs.drop n)
  rw [List.length_drop] at hs
  refine ⟨_, rfl, r, dx, _, rfl, h1, lk_no cs _ (by decide +kernel) (by decide +kernel), r, dx, cs, digs, _, ?_, h1, by omega, h9, fun H2 e2 => ?_⟩
  · show [V.ref r, V.str (Str.ofString "0123456789")] = _
    rw [hDIG]
  rw [← List.drop_drop]
  obtain ⟨hw, hL2⟩ := lo_run hL (dg_digs m) (by decide) hx
  have hrl : (dg m).length ≤ cs.length - n - skip (cs.drop n) := by
    rw [← hw, List.length_take, List.length_drop, List.length_drop]
    omega
  rw [hw]
  have h2 := e2 _ _ h1
  have hne := dg_ne m
  have hl31 := dg_len hm
  obtain ⟨c, dr, hdg⟩ : ∃ c dr, dg m = c :: dr := by
    cases hq : dg m with
    | nil => exact absurd hq hne
    | cons c dr => exact ⟨c, dr, rfl⟩
  dsimp only [L2.gName]
  refine Evl.q_when (b := false) (Evl.et_is (Evl.et_test (Evl.ev_op (Evl.ev_var rfl) Evl.ev_c (Evl.rv_eq rfl))) (decide_eq_false fun z => hne (S_inj ((V.str.inj z).trans (show Str.ofString "" = S [] by decide +kernel))))) (fun hb => nomatch hb) fun _ H3 e3 => ?_
  refine Evl.q_ifAsg (v := .str (S (dg m))) (b := decide (V.str (S [c]) = V.str (Str.ofString "0"))) ?_ (fun hb => ?_) (fun _ => rfl) fun H4 e4 => ?_
  · exact Evl.et_test (Evl.ev_op (ev_ixS (z := dg m) (Evl.ev_var (by rfl)) Evl.ev_c (by omega) (c := c) (by show atI (dg m) ((0 : Nat) : Int) = _; exact atI_nat (by rw [hdg]; rfl))) Evl.ev_c (Evl.rv_eq rfl))
  · have hc : c = 48 := by
      have := S_inj ((V.str.inj (of_decide_eq_true hb)).trans (show Str.ofString "0" = S [48] by decide +kernel))
      simpa using this
    have h0 := dg_zero (r := dr) (by rw [hdg, hc])
    subst h0
    exact Evl.ev_is Evl.ev_c (by decide +kernel)
  refine Evl.q_asg (v := .str (S (dg m))) (ev_slS (Evl.ev_var rfl) Evl.eo_none (Evl.eo_some Evl.ev_c) (by omega) (by
    show cutS (S (dg m)) none (some ((31 : Nat) : Int)) = _
    rw [cut0, List.take_of_length_le hl31])) fun H5 e5 => ?_
  have h5 := (e3.trans (e4.trans e5)) _ _ h2
  refine ⟨_, rfl, r, T.R.C, dx, _, _, rfl, h5, T.R.cl, T.R.nA, lk_at _ _, _, rfl, S (dg m), rfl, Evl.sz_of (by rw [S_len]; omega), _, _, rfl, rfl, dx, _, h5, by simp [flds], ?_⟩
  rw [put_at cs (n + skip (cs.drop n)) ((n + skip (cs.drop n) : Nat) + ((S (dg m)).length : Int)) (n + skip (cs.drop n) + (dg m).length) (by rw [S_len]; omega)]
  refine ⟨_, rfl, S (dg m), (m : Int), rfl, dg_read hm, by rw [S_len]; omega, q _ (n + skip (cs.drop n) + (dg m).length) (by rw [hdg]; simp only [List.length_cons]; omega) (by omega) ((e1.trans (ExM.of (e2.trans (e3.trans (e4.trans e5))))).trans (ExM.mut (by simp))) upd_same ?_⟩
  rw [← List.drop_drop, ← List.drop_drop]
  exact hL2
end
end K03

set_option Elab.async false
set_option linter.all false
set_option maxRecDepth 100000
set_option maxHeartbeats 4000000
namespace K03
open PySem PySem.Spec PyProof.Rows L2 DK DD TM TX SX RD
/-- what may follow a leaf -/
def stop (W : List (List Nat)) : Prop := W = [] ∨ ∃ W', W = [44] :: W' ∨ W = [41] :: W'
theorem stop_digs {W : List (List Nat)} (h : stop W) : nx digs W := by
  rcases h with rfl | ⟨W', rfl | rfl⟩
  · trivial
  · exact ⟨44, [], rfl, by decide⟩
  · exact ⟨41, [], rfl, by decide⟩
theorem stop_let {W : List (List Nat)} (h : stop W) : nx letters W := by
  rcases h with rfl | ⟨W', rfl | rfl⟩
  · trivial
  · exact ⟨44, [], rfl, by decide⟩
  · exact ⟨41, [], rfl, by decide⟩
/-- the number of what stands ahead, with a sign or not -/
inductive Sgn : Int → List (List Nat) → List (List Nat) → Prop
  | pos (m : Nat) (W : List (List Nat)) : m ≤ 10 ^ 30 → stop W → Sgn (m : Int) (dg m :: W) W
  | neg (m : Nat) (W : List (List Nat)) : m ≤ 10 ^ 30 → stop W → Sgn (-(m : Int)) ([45] :: dg m :: W) W
/-- the add of what stands ahead -/
inductive Adn : Int → List (List Nat) → List (List Nat) → Prop
  | zero (W : List (List Nat)) : stop W → Adn 0 W W
  | pos (m : Nat) (W : List (List Nat)) : m ≤ 10 ^ 30 → stop W → Adn (m : Int) ([43] :: dg m :: W) W
  | neg (m : Nat) (W : List (List Nat)) : m ≤ 10 ^ 30 → stop W → Adn (-(m : Int)) ([45] :: dg m :: W) W
theorem dg_head (m : Nat) : ∃ c d, dg m = c :: d ∧ c ∈ digs := by
  cases h : dg m with
  | nil => exact absurd h (dg_ne m)
  | cons c d => exact ⟨c, d, rfl, dg_digs m c (by rw [h]; simp)⟩
/-- the first character behind blanks -/
theorem lo_take0 {l : List Nat} (h : Lo [] l) : (l.drop (skip l)).take 1 = [] := by
  have h' : skip l = l.length := h
  rw [h', List.drop_length]
  rfl
/-- a read of the text from n to a later place -/
def spN (C : Addr) (R : Int → List (List Nat) → List (List Nat) → Prop) : Sp := fun vs H Q _ => ∃ (r dx : Addr) (cs : List Nat) (n : Nat) (i : Int) (W0 W : List (List Nat)), vs = [.ref r] ∧ H r = some (rdr C dx cs n) ∧ n ≤ cs.length ∧ cs.length ≤ 90000 ∧ Lo W0 (cs.drop n) ∧ (∀ w ∈ W0, w ≠ []) ∧ R i W0 W ∧
  ∀ H' n', n ≤ n' → n' ≤ cs.length → ExM [r] H H' → H' r = some (rdr C dx cs n') → Lo W (cs.drop n') → Q (.int i) H'
/-- the sign that peek finds -/
def hdw : List (List Nat) → List Nat
  | [] => []
  | w :: _ => w.take 1
theorem lo_peek : ∀ {W0 : List (List Nat)} {cs : List Nat} {n : Nat}, Lo W0 (cs.drop n) → (∀ w ∈ W0, w ≠ []) → n ≤ cs.length →
    (cs.drop (n + skip (cs.drop n))).take 1 = hdw W0 ∧ Lo W0 (cs.drop (n + skip (cs.drop n))) ∧ n + skip (cs.drop n) ≤ cs.length
  | W0, cs, n, h, ne, hn => by
    have hs := skip_le (cs.drop n)
    rw [List.length_drop] at hs
    refine ⟨?_, by rw [← List.drop_drop]; exact lo_skip h, by omega⟩
    rw [← List.drop_drop]
    cases W0 with
    | nil => exact lo_take0 h
    | cons w ws =>
      cases w with
      | nil => exact absurd rfl (ne [] (by simp))
      | cons c w => exact (lo_take h).1
theorem Sgn.ne {i : Int} {W0 W : List (List Nat)} (h : Sgn i W0 W) : hdw W0 = [45] ∧ (∃ m : Nat, i = -(m : Int) ∧ m ≤ 10 ^ 30 ∧ stop W ∧ W0 = [45] :: dg m :: W) ∨ (∃ c, c ∈ digs ∧ hdw W0 = [c]) ∧ (∃ m : Nat, i = (m : Int) ∧ m ≤ 10 ^ 30 ∧ stop W ∧ W0 = dg m :: W) := by
  cases h with
  | neg m W h1 h2 => exact .inl ⟨rfl, m, rfl, h1, h2, rfl⟩
  | pos m W h1 h2 =>
    obtain ⟨c, d, e, hc⟩ := dg_head m
    exact .inr ⟨⟨c, hc, by simp [hdw, e]⟩, m, rfl, h1, h2, rfl⟩
theorem Adn.ne {i : Int} {W0 W : List (List Nat)} (h : Adn i W0 W) : (∃ sg m : Nat, (sg = 43 ∨ sg = 45) ∧ W0 = [sg] :: dg m :: W ∧ m ≤ 10 ^ 30 ∧ stop W ∧ i = (if sg = 45 then -(m : Int) else (m : Int))) ∨ (i = 0 ∧ stop W ∧ W0 = W) := by
  cases h with
  | zero W h => exact .inr ⟨rfl, h, rfl⟩
  | pos m W h1 h2 => exact .inl ⟨43, m, .inl rfl, rfl, h1, h2, rfl⟩
  | neg m W h1 h2 => exact .inl ⟨45, m, .inr rfl, rfl, h1, h2, rfl⟩
theorem stop_in {W : List (List Nat)} (h : stop W) : inV (V.str (S (hdw W))) [V.str "+", V.str "-"] = false := by
  rcases h with rfl | ⟨W', rfl | rfl⟩
  · show inV (V.str (S [])) _ = _
    decide +kernel
  · show inV (V.str (S [44])) _ = _
    decide +kernel
  · show inV (V.str (S [41])) _ = _
    decide +kernel
/-- no empty words -/
def full (W : List (List Nat)) : Prop := ∀ w ∈ W, w ≠ []
section
variable {P : Program} {w : World} {K : PySem.W.Frag} {mg : Str → Option Value} {base : Heap}
theorem ok__read_plain (T : Top K mg) : FnOk P w K mg base CX0 3 T._read_plain.f T._read_plain.fd ["reader"] (spN T.R.C Sgn) := by
  refine T._read_plain.F.ok sc__read_plain (fun vs H Q E h => ?_) (fun cdv A outer s H vs Q E hr h => ?_)
  · obtain ⟨_, _, _, _, _, _, _, rfl, _⟩ := h
    rfl
  obtain ⟨r, dx, cs, n, i, W0, W, rfl, ho, hn, h9, hL, hne, hR, q⟩ := h
  refine ⟨_, (pss_cons (ps_if (pt_cmpR op_eq (pe_meth0 (pv 0) T.R.cl T.R_peek.m (ok_Reader_peek T) (hr.mono (by omega)) T.R_peek.b .nil pass0) pe_str (nomark _)) (pss_cons (ps_expr (pe_meth (pv 0) T.R.cl T.R_sign.m (ok_Reader_sign T) (hr.mono (by omega)) T.R_sign.b .nil pass0 (pa_cons pe_str pa_nil)))
      (pss_one (ps_ret (pe_un un_neg (pe_meth0 (pv 0) T.R.cl T.R_number.m (ok_Reader_number T) (hr.mono (by omega)) T.R_number.b .nil pass0))))) pss_nil)
      (pss_one (ps_ret (pe_meth0 (pv 0) T.R.cl T.R_number.m (ok_Reader_number T) (hr.mono (by omega)) T.R_number.b .nil pass0)))), ?_⟩
  refine ⟨_, rfl, r, dx, _, rfl, ho, lk_no cs n (by decide +kernel) (by decide +kernel), r, dx, cs, n, rfl, ho, hn, h9, fun H1 e1 h1 => ?_⟩
  obtain ⟨hp, hL1, hn1⟩ := lo_peek hL hne hn
  rw [hp]
  have hle : n ≤ n + skip (cs.drop n) := by omega
  generalize n + skip (cs.drop n) = n1 at h1 hL1 hn1 hle
  refine ⟨rfl, _, rfl, ?_⟩
  rcases hR.ne with ⟨hd, m, rfl, hm, hst, rfl⟩ | ⟨⟨c, hc, hd⟩, m, rfl, hm, hst, rfl⟩
  · rw [hd, if_pos (by decide +kernel)]
    refine ⟨_, rfl, r, dx, _, rfl, h1, lk_no cs n1 (by decide +kernel) (by decide +kernel), r, dx, cs, [45], n1, 45, dg m :: W, by rw [show (Str.ofString "-") = S [45] by decide +kernel]; rfl, h1, hn1, h9, hL1, by simp, fun H2 n2 l2 hn2 e2 h2 hL2 => ?_⟩
    refine ⟨_, rfl, r, dx, _, rfl, h2, lk_no cs n2 (by decide +kernel) (by decide +kernel), r, dx, cs, n2, m, W, rfl, h2, hn2, h9, hL2, stop_digs hst, hm, fun H3 n3 l3 hn3 e3 h3 hL3 => ?_⟩
    exact ⟨_, rfl, q H3 n3 (by omega) hn3 ((e1.trans e2).trans e3) h3 hL3⟩
  · rw [hd, if_neg (by
      have : c ≠ 45 := fun z => by
        subst z
        revert hc
        decide
      simp only [decide_eq_true_eq]
      intro z
      have := S_inj ((V.str.inj z).trans (show Str.ofString "-" = S [45] by decide +kernel))
      simp at this
      contradiction)]
    refine ⟨_, rfl, r, dx, _, rfl, h1, lk_no cs n1 (by decide +kernel) (by decide +kernel), r, dx, cs, n1, m, W, rfl, h1, hn1, h9, hL1, stop_digs hst, hm, fun H3 n3 l3 hn3 e3 h3 hL3 => ?_⟩
    exact q H3 n3 (by omega) hn3 (e1.trans e3) h3 hL3
theorem ok__read_add (T : Top K mg) : FnOk P w K mg base CX0 3 T._read_add.f T._read_add.fd ["reader"] (spN T.R.C Adn) := by
  refine T._read_add.F.ok sc__read_add (fun vs H Q E h => ?_) (fun cdv A outer s H vs Q E hr h => ?_)
  · obtain ⟨_, _, _, _, _, _, _, rfl, _⟩ := h
    rfl
  obtain ⟨r, dx, cs, n, i, W0, W, rfl, ho, hn, h9, hL, hne, hR, q⟩ := h
  refine ⟨_, (pss_cons (ps_if (pt_cmpR op_notIn_seq (pe_meth0 (pv 0) T.R.cl T.R_peek.m (ok_Reader_peek T) (hr.mono (by omega)) T.R_peek.b .nil pass0) (pe_tup (pa_cons pe_str (pa_cons pe_str pa_nil))) (by with_unfolding_all rfl)) (pss_one (ps_ret pe_int)) pss_nil)
      (pss_cons (ps_set (i := 1) sc__read_add.nd rfl (Or.inl rfl) (pe_meth (pv 0) T.R.cl T.R_sign.m (ok_Reader_sign T) (hr.mono (by omega)) T.R_sign.b .nil pass0 (pa_cons pe_str pa_nil)))
      (pss_cons (ps_set (i := 2) sc__read_add.nd rfl (Or.inl rfl) (pe_meth0 (pv 0) T.R.cl T.R_number.m (ok_Reader_number T) (hr.mono (by omega)) T.R_number.b .nil pass0))
      (pss_one (ps_ret (pe_ifExp (pt_cmpR op_eq (pv 1) pe_str (nomark _)) (pe_un un_neg (pv 2)) (pv 2))))))), ?_⟩
  refine ⟨_, rfl, r, dx, _, rfl, ho, lk_no cs n (by decide +kernel) (by decide +kernel), r, dx, cs, n, rfl, ho, hn, h9, fun H1 e1 h1 => ?_⟩
  obtain ⟨hp, hL1, hn1⟩ := lo_peek hL hne hn
  rw [hp]
  have hle : n ≤ n + skip (cs.drop n) := by omega
  generalize n + skip (cs.drop n) = n1 at h1 hL1 hn1 hle
  refine ⟨Evl.sz_of (by simp), fun p hp => ?_⟩
  have eX : Evl.Ex H1 (upd H1 p (.tup [V.str "+", V.str "-"])) := Evl.Ex.new hp
  refine ⟨p, _, rfl, .inr (Evl.st_of upd_same), rfl, rfl, _, rfl, ?_⟩
  generalize upd H1 p (.tup [V.str "+", V.str "-"]) = H2 at eX
  have h2 := eX _ _ h1
  rcases hR.ne with ⟨sg, m, hsg, rfl, hm, hst, rfl⟩ | ⟨rfl, hst, rfl⟩
  · have hin : inV (V.str (S (hdw ([sg] :: dg m :: W)))) [V.str "+", V.str "-"] = true := by
      show inV (V.str (S [sg])) _ = _
      rcases hsg with rfl | rfl <;> decide +kernel
    have hsI : sg ∈ [43, 45] := by
      rcases hsg with rfl | rfl <;> simp
    rw [hin, if_neg (by decide)]
    refine ⟨_, rfl, r, dx, _, rfl, h2, lk_no cs n1 (by decide +kernel) (by decide +kernel), r, dx, cs, [43, 45], n1, sg, dg m :: W, by rw [show (Str.ofString "+-") = S [43, 45] by decide +kernel]; rfl, h2, hn1, h9, hL1, hsI, fun H3 n3 l3 hn3 e3 h3 hL3 => ?_⟩
    refine ⟨_, rfl, r, dx, _, rfl, h3, lk_no cs n3 (by decide +kernel) (by decide +kernel), r, dx, cs, n3, m, W, rfl, h3, hn3, h9, hL3, stop_digs hst, hm, fun H4 n4 l4 hn4 e4 h4 hL4 => ?_⟩
    have eA := ((e1.trans (ExM.of eX)).trans e3).trans e4
    refine ⟨_, rfl, rfl, _, rfl, ?_⟩
    rcases hsg with rfl | rfl
    · rw [if_neg (by decide +kernel)]
      exact ⟨_, rfl, q H4 n4 (by omega) hn4 eA h4 hL4⟩
    · rw [if_pos (by decide +kernel)]
      exact ⟨_, rfl, _, rfl, q H4 n4 (by omega) hn4 eA h4 hL4⟩
  · rw [stop_in hst, if_pos (by decide)]
    exact q H2 n1 hle hn1 (e1.trans (ExM.of eX)) h2 hL1
end
end K03

set_option Elab.async false
set_option linter.all false
set_option maxRecDepth 100000
set_option maxHeartbeats 4000000
namespace K03
open PySem PySem.Spec PyProof.Rows L2 DK DD TM TX SX RD
abbrev leastc : List Nat := [108, 101, 97, 115, 116]
abbrev mostc : List Nat := [109, 111, 115, 116]
abbrev rankc : List Nat := [114, 97, 110, 107]
/-- what _read_start reads ahead -/
inductive Start : List PyData → List (List Nat) → List (List Nat) → Prop
  | plain {i : Int} {W0 W : List (List Nat)} : Sgn i W0 W → Start [.str "plain", .int i] W0 W
  | price {s : Nat} {i : Int} {W0 W : List (List Nat)} : s ≤ 5 → Adn i W0 W → Start [.str "price", .int s, .int i] ([97 + s] :: W0) W
  | least (W : List (List Nat)) : Start [.str "least"] (leastc :: [40] :: W) ([40] :: W)
  | most (W : List (List Nat)) : Start [.str "most"] (mostc :: [40] :: W) ([40] :: W)
  | rank {k : Nat} (W : List (List Nat)) : k ≤ 10 ^ 30 → Start [.str "rank", .int k] (rankc :: dg k :: [40] :: W) ([40] :: W)
theorem Sgn.sub {i : Int} {W0 W : List (List Nat)} (h : Sgn i W0 W) : ∀ w ∈ W, w ∈ W0 := by
  cases h <;> (intro w hw; simp [hw])
theorem Adn.sub {i : Int} {W0 W : List (List Nat)} (h : Adn i W0 W) : ∀ w ∈ W, w ∈ W0 := by
  cases h <;> (intro w hw; simp [hw])
theorem Start.sub {d : List PyData} {W0 W : List (List Nat)} (h : Start d W0 W) : ∀ w ∈ W, w ∈ W0 := by
  cases h with
  | plain h => exact h.sub
  | price _ h => exact fun w hw => List.mem_cons_of_mem _ (h.sub w hw)
  | least W => exact fun w hw => List.mem_cons_of_mem _ hw
  | most W => exact fun w hw => List.mem_cons_of_mem _ hw
  | rank W _ => exact fun w hw => List.mem_cons_of_mem _ (List.mem_cons_of_mem _ hw)
theorem dg_let (m : Nat) (W : List (List Nat)) : nx letters (dg m :: W) := by
  obtain ⟨c, d, e, hc⟩ := dg_head m
  refine ⟨c, d, e, fun hl => ?_⟩
  have : ∀ c ∈ digs, c ∉ letters := by decide
  exact this c hc hl
theorem Sgn.let {i : Int} {W0 W : List (List Nat)} (h : Sgn i W0 W) : nx letters W0 := by
  cases h with
  | pos m W _ _ => exact dg_let m W
  | neg m W _ _ => exact ⟨45, [], rfl, by decide⟩
theorem Adn.let {i : Int} {W0 W : List (List Nat)} (h : Adn i W0 W) : nx letters W0 := by
  cases h with
  | zero W h => exact stop_let h
  | pos m W _ _ => exact ⟨43, [], rfl, by decide⟩
  | neg m W _ _ => exact ⟨45, [], rfl, by decide⟩
def spStart (K : PySem.W.Frag) (C : Addr) : Sp := fun vs H Q _ => ∃ (M : List Addr) (r dx : Addr) (cs : List Nat) (n : Nat) (d : List PyData) (W0 W : List (List Nat)), vs = [.ref r] ∧ H r = some (rdr C dx cs n) ∧ n ≤ cs.length ∧ cs.length ≤ 90000 ∧ Lo W0 (cs.drop n) ∧ (∀ w ∈ W0, w ≠ []) ∧ Dom M H ∧ r ∈ M ∧ Start d W0 W ∧
  ∀ v H' n', n' ≤ cs.length → ExM [r] H H' → H' r = some (rdr C dx cs n') → Lo W (cs.drop n') → Dm K M H' v (.tuple d) → Q v H'
theorem find_shop {s : Nat} (h : s ≤ 5) : PySem.Txt.find (Str.ofString "abcdef") (S [97 + s]) = (s : Int) := by
  have : ∀ s : Nat, s < 6 → PySem.Txt.find (Str.ofString "abcdef") (S [97 + s]) = (s : Int) := by decide +kernel
  exact this s (by omega)
theorem S_ne {a b : List Nat} (h : a ≠ b) {x : Str} (hx : x = S b) : decide (V.str (S a) = V.str x) = false := decide_eq_false fun z => h (S_inj ((V.str.inj z).trans hx))
theorem S_eq {a : List Nat} {x : Str} (hx : x = S a) : decide (V.str (S a) = V.str x) = true := decide_eq_true (by rw [hx])
section
variable {P : Program} {w : World} {K : PySem.W.Frag} {mg : Str → Option Value} {base : Heap}
theorem ok__read_start (T : Top K mg) : FnOk P w K mg base CX0 4 T._read_start.f T._read_start.fd ["reader"] (spStart K T.R.C) := by
  refine T._read_start.F.ok sc__read_start (fun vs H Q E h => ?_) (fun cdv A outer s H vs Q E hr h => ?_)
  · obtain ⟨_, _, _, _, _, _, _, _, rfl, _⟩ := h
    rfl
  obtain ⟨M, r, dx, cs, n, d, W0, W, rfl, ho, hn, h9, hL, hne, hM, hrM, hS, q⟩ := h
  refine ⟨_, (pss_cons (ps_set (i := 1) sc__read_start.nd rfl (Or.inl rfl) (pe_meth0 (pv 0) T.R.cl T.R_word.m (ok_Reader_word T) (hr.mono (by omega)) T.R_word.b .nil pass0))
      (pss_cons (ps_if (pt_cmpR op_eq (pv 1) pe_str (nomark _)) (pss_one (ps_ret (pe_tup (pa_cons pe_str (pa_cons (pe_call (ok__read_plain T) (hr.mono (by omega)) (by rfl) T._read_plain.g T._read_plain.F.kp T._read_plain.b .nil pass0 (pa_cons (pv 0) pa_nil)) pa_nil))))) pss_nil)
      (pss_cons (ps_if (PW.pt (pw_or (pt_cmpR op_eq (pv 1) pe_str (nomark _)) (pw_or1 (pt_cmpR op_eq (pv 1) pe_str (nomark _))))) (pss_one (ps_ret (pe_tup (pa_cons (pv 1) pa_nil)))) pss_nil)
      (pss_cons (ps_if (pt_cmpR op_eq (pv 1) pe_str (nomark _)) (pss_one (ps_ret (pe_tup (pa_cons (pv 1) (pa_cons (pe_meth0 (pv 0) T.R.cl T.R_number.m (ok_Reader_number T) (hr.mono (by omega)) T.R_number.b .nil pass0) pa_nil))))) pss_nil)
      (pss_cons (ps_if (PW.pt (pw_or (pt_cmpR op_gt (pe_callB call_len_str (by rfl) T.n_len PySem.boot_len (pa_cons (pv 1) pa_nil)) pe_int (nomark _)) (pw_or1 (pt_cmpR op_notIn_sign (pv 1) (pe_globS rfl T.g_SHOPS) (by with_unfolding_all rfl))))) (pss_one DD.ps_never) pss_nil)
      (pss_one (ps_ret (pe_tup (pa_cons pe_str (pa_cons (pe_bm PySem.F.plainAttrs_str PySem.F.slot_str_find PySem.F.type_str_find mt_find (pe_globS rfl T.g_SHOPS) (pa_cons (pv 1) pa_nil)) (pa_cons (pe_call (ok__read_add T) (hr.mono (by omega)) (by rfl) T._read_add.g T._read_add.F.kp T._read_add.b .nil pass0 (pa_cons (pv 0) pa_nil)) pa_nil))))))))))), ?_⟩
  refine ⟨_, rfl, r, dx, _, rfl, ho, lk_no cs n (by decide +kernel) (by decide +kernel), r, dx, cs, n, rfl, ho, hn, h9, fun H1 wd hw e1 h1 hn1 => ?_⟩
  dsimp only [L2.gName]
  have fin : ∀ (H3 : Hp) (n3 : Nat) (vs : List V), n3 ≤ cs.length → ExM [r] H H3 → H3 r = some (rdr T.R.C dx cs n3) → Lo W (cs.drop n3) → Dms K M H3 vs d → (vs.length ≤ PySem.sizeLine ∧ ∀ p, H3 p = none → Q (.ref p) (upd H3 p (.tup vs))) := fun H3 n3 vs hn3 e3 h3 hL3 hd3 => by
    refine ⟨?_, fun p hp => ?_⟩
    · have := dpa_len hd3
      cases hS <;> (simp only [List.length_cons, List.length_nil] at this; rw [this]; decide)
    · have pM : p ∉ M := fun hpM => by
        by_cases hpr : p = r
        · rw [hpr, h3] at hp
          cases hp
        · cases qq : H p with
          | none => exact hM p hpM qq
          | some o =>
            rw [e3 p o (by simp [hpr]) qq] at hp
            cases hp
      have eX : Evl.Ex H3 (upd H3 p (.tup vs)) := Evl.Ex.new hp
      exact q _ _ n3 hn3 (e3.trans (ExM.of eX)) (eX _ _ h3) hL3 (.tup (Evl.st_of (mi_of pM upd_same)) (dms_ex eX hd3))
  have hs := skip_le (cs.drop n)
  rw [List.length_drop] at hs
  cases hS with
  | @plain i W0 W hR =>
    have h0 := lo_run0 hL (by decide) hR.let
    rw [h0, List.take_zero] at hw
    subst hw
    refine Evl.q_when (b := true) (Evl.et_is (Evl.et_test (Evl.ev_op (Evl.ev_var (by rfl)) Evl.ev_c (Evl.rv_eq rfl))) (S_eq (by decide +kernel))) (fun _ H2 e2 => ?_) (fun hb => nomatch hb)
    have h2 := e2 _ _ h1
    obtain ⟨_, hL1, hn2⟩ := lo_peek hL hne hn
    exact ⟨_, rfl, r, dx, cs, _, i, W0, W, rfl, h2, hn1, h9, hL1, hne, hR, fun H3 n3 l3 hn3 e3 h3 hL3 => fin H3 n3 _ hn3 ((e1.trans (ExM.of e2)).trans e3) h3 hL3 (.cons (.str _) (.cons (.int _) .nil))⟩
  | @price sh i W0 W hs5 hR =>
    have hlt : ∀ c ∈ [97 + sh], c ∈ letters := fun c hc => by
      have : ∀ s : Nat, s < 6 → 97 + s ∈ letters := by decide
      rw [List.mem_singleton] at hc
      rw [hc]
      exact this sh (by omega)
    obtain ⟨hw2, hL2⟩ := lo_run hL hlt (by decide) hR.let
    rw [hw2] at hw
    subst hw
    rw [List.drop_drop, List.drop_drop] at hL2
    have hsh : 97 + sh ∈ [97, 98, 99, 100, 101, 102] := by
      have : ∀ s : Nat, s < 6 → 97 + s ∈ [97, 98, 99, 100, 101, 102] := by decide
      exact this sh (by omega)
    refine Evl.q_when (b := false) (Evl.et_is (Evl.et_test (Evl.ev_op (Evl.ev_var (by rfl)) Evl.ev_c (Evl.rv_eq rfl))) (S_ne (b := []) (by simp) (by decide +kernel))) (fun hb => nomatch hb) (fun _ H2 e2 => ?_)
    refine Evl.q_when (b := false) (Evl.et_is (Evl.et_or (Evl.et_test (Evl.ev_op (Evl.ev_var (by rfl)) Evl.ev_c (Evl.rv_eq rfl))) (fun _ => Evl.et_test (Evl.ev_op (Evl.ev_var (by rfl)) Evl.ev_c (Evl.rv_eq rfl)))) (by rw [S_ne (b := leastc) (by simp) (by decide +kernel), S_ne (b := mostc) (by simp) (by decide +kernel)] <;> rfl)) (fun hb => nomatch hb) (fun _ H3 e3 => ?_)
    refine Evl.q_when (b := false) (Evl.et_is (Evl.et_test (Evl.ev_op (Evl.ev_var (by rfl)) Evl.ev_c (Evl.rv_eq rfl))) (S_ne (b := rankc) (by simp) (by decide +kernel))) (fun hb => nomatch hb) (fun _ H4 e4 => ?_)
    refine Evl.q_when (b := false) ?_ (fun hb => nomatch hb) (fun _ H5 e5 => ?_)
    · have hb8 : (decide ((1 : Int) < ((([97 + sh] : List Nat).length : Nat) : Int)) || !decide (97 + sh ∈ [97, 98, 99, 100, 101, 102])) = false := by
        rw [decide_eq_true hsh]
        rfl
      refine Evl.et_is ?_ hb8
      refine Evl.et_or ?_ fun _ => ?_
      · exact Evl.et_test (Evl.ev_op (ev_lenS (y := [97 + sh]) (Evl.ev_var (by rfl)) (by simp)) Evl.ev_c Evl.rv_I0)
      · exact Evl.et_test (ev_ninS (c := 97 + sh) (z := [97, 98, 99, 100, 101, 102]) (Evl.ev_var (by rfl)) (Evl.ev_is Evl.ev_c (by decide +kernel)))
    have e25 := ((e2.trans e3).trans e4).trans e5
    have h5 := e25 _ _ h1
    refine ⟨rfl, _, rfl, _, _, rfl, rfl, _, rfl, r, dx, cs, _, i, W0, W, rfl, h5, hn1, h9, hL2, fun w hw => hne w (List.mem_cons_of_mem _ hw), hR, fun H6 n6 l6 hn6 e6 h6 hL6 => ?_⟩
    rw [find_shop hs5]
    exact fin H6 n6 _ hn6 ((e1.trans (ExM.of e25)).trans e6) h6 hL6 (.cons (.str _) (.cons (.int _) (.cons (.int _) .nil)))
  | least W =>
    obtain ⟨hw2, hL2⟩ := lo_run (al := letters) hL (by decide) (by decide) ⟨40, [], rfl, by decide⟩
    rw [hw2] at hw
    subst hw
    rw [List.drop_drop, List.drop_drop] at hL2
    refine Evl.q_when (b := false) (Evl.et_is (Evl.et_test (Evl.ev_op (Evl.ev_var (by rfl)) Evl.ev_c (Evl.rv_eq rfl))) (S_ne (b := []) (by decide) (by decide +kernel))) (fun hb => nomatch hb) (fun _ H2 e2 => ?_)
    refine Evl.q_when (b := true) (Evl.et_is (Evl.et_or (Evl.et_test (Evl.ev_op (Evl.ev_var (by rfl)) Evl.ev_c (Evl.rv_eq rfl))) (fun _ => Evl.et_test (Evl.ev_op (Evl.ev_var (by rfl)) Evl.ev_c (Evl.rv_eq rfl)))) (by rw [S_eq (by decide +kernel)] <;> rfl)) (fun _ H3 e3 => ?_) (fun hb => nomatch hb)
    have e23 := e2.trans e3
    exact ⟨_, rfl, fin H3 _ _ hn1 (e1.trans (ExM.of e23)) (e23 _ _ h1) hL2 (.cons (sc_dp (d := .str "least") (by decide +kernel)) .nil)⟩
  | most W =>
    obtain ⟨hw2, hL2⟩ := lo_run (al := letters) hL (by decide) (by decide) ⟨40, [], rfl, by decide⟩
    rw [hw2] at hw
    subst hw
    rw [List.drop_drop, List.drop_drop] at hL2
    refine Evl.q_when (b := false) (Evl.et_is (Evl.et_test (Evl.ev_op (Evl.ev_var (by rfl)) Evl.ev_c (Evl.rv_eq rfl))) (S_ne (b := []) (by decide) (by decide +kernel))) (fun hb => nomatch hb) (fun _ H2 e2 => ?_)
    refine Evl.q_when (b := true) (Evl.et_is (Evl.et_or (Evl.et_test (Evl.ev_op (Evl.ev_var (by rfl)) Evl.ev_c (Evl.rv_eq rfl))) (fun _ => Evl.et_test (Evl.ev_op (Evl.ev_var (by rfl)) Evl.ev_c (Evl.rv_eq rfl)))) (by rw [S_ne (b := leastc) (by decide) (by decide +kernel), S_eq (by decide +kernel)] <;> rfl)) (fun _ H3 e3 => ?_) (fun hb => nomatch hb)
    have e23 := e2.trans e3
    exact ⟨_, rfl, fin H3 _ _ hn1 (e1.trans (ExM.of e23)) (e23 _ _ h1) hL2 (.cons (sc_dp (d := .str "most") (by decide +kernel)) .nil)⟩
  | @rank k W hk =>
    obtain ⟨hw2, hL2⟩ := lo_run hL (by decide) (by decide) (dg_let k _)
    rw [hw2] at hw
    subst hw
    rw [List.drop_drop, List.drop_drop] at hL2
    refine Evl.q_when (b := false) (Evl.et_is (Evl.et_test (Evl.ev_op (Evl.ev_var (by rfl)) Evl.ev_c (Evl.rv_eq rfl))) (S_ne (b := []) (by decide) (by decide +kernel))) (fun hb => nomatch hb) (fun _ H2 e2 => ?_)
    refine Evl.q_when (b := false) (Evl.et_is (Evl.et_or (Evl.et_test (Evl.ev_op (Evl.ev_var (by rfl)) Evl.ev_c (Evl.rv_eq rfl))) (fun _ => Evl.et_test (Evl.ev_op (Evl.ev_var (by rfl)) Evl.ev_c (Evl.rv_eq rfl)))) (by rw [S_ne (b := leastc) (by decide) (by decide +kernel), S_ne (b := mostc) (by decide) (by decide +kernel)] <;> rfl)) (fun hb => nomatch hb) (fun _ H3 e3 => ?_)
    refine Evl.q_when (b := true) (Evl.et_is (Evl.et_test (Evl.ev_op (Evl.ev_var (by rfl)) Evl.ev_c (Evl.rv_eq rfl))) (S_eq (by decide +kernel))) (fun _ H4 e4 => ?_) (fun hb => nomatch hb)
    have e24 := (e2.trans e3).trans e4
    have h4 := e24 _ _ h1
    exact ⟨_, rfl, _, rfl, r, dx, _, rfl, h4, lk_no cs _ (by decide +kernel) (by decide +kernel), r, dx, cs, _, k, [40] :: W, rfl, h4, hn1, h9, hL2, ⟨40, [], rfl, by decide⟩, hk, fun H5 n5 l5 hn5 e5 h5 hL5 => fin H5 n5 _ hn5 ((e1.trans (ExM.of e24)).trans e5) h5 hL5 (.cons (sc_dp (d := .str "rank") (by decide +kernel)) (.cons (.int _) .nil))⟩
end
end K03

set_option Elab.async false
set_option linter.all false
set_option maxRecDepth 100000
set_option maxHeartbeats 4000000
namespace K03
open PySem PySem.Spec PyProof.Rows L2 DK DD TM TX SX RD
def hdL : Hd → List PyData
  | .least => [.str "least"]
  | .most => [.str "most"]
  | .rank k => [.str "rank", .int k]
theorem enc_node (h : Hd) (ps : List Trm) : enc (.node h ps) = .tuple (hdL h ++ [.tuple (ps.map enc)]) := by
  rw [enc_eq]
  cases h <;> rfl
theorem hdL_len (h : Hd) : 1 ≤ (hdL h).length ∧ (hdL h).length ≤ 2 := by cases h <;> simp [hdL]
abbrev Pl := List (Hd × List Trm)
mutual
/-- u has been read: what is told by all, with W ahead -/
inductive Clo : Pl → Trm → List (List Nat) → Trm → Prop
  | done (t : Trm) : Clo [] t [] t
  | comma {h : Hd} {ps : List Trm} {pl : Pl} {u t : Trm} {W : List (List Nat)} : Pend ((h, ps ++ [u]) :: pl) W t → Clo ((h, ps) :: pl) u ([44] :: W) t
  | close {h : Hd} {ps : List Trm} {pl : Pl} {u t : Trm} {W : List (List Nat)} : Clo pl (.node h (ps ++ [u])) W t → Clo ((h, ps) :: pl) u ([41] :: W) t
/-- a term is awaited -/
inductive Pend : Pl → List (List Nat) → Trm → Prop
  | leaf {pl : Pl} {u t : Trm} {W0 W : List (List Nat)} : TM.leaf u = true → Start (encL u) W0 W → Clo pl u W t → Pend pl W0 t
  | node {pl : Pl} {h : Hd} {t : Trm} {W0 W : List (List Nat)} : Start (hdL h) W0 ([40] :: W) → Pend ((h, []) :: pl) W t → Pend pl W0 t
end
/-- the pile of what is not closed -/
inductive PRep (K : PySem.W.Frag) (M : List Addr) (H : Hp) : List V → Pl → List Addr → Prop
  | nil : PRep K M H [] [] []
  | snoc {us : List V} {pl : Pl} {ds : List Addr} {a p : Addr} {hv : V} {h : Hd} {ps : List Trm} {vs : List V} : PRep K M H us pl ds → SqT K (mi H M) a [hv, .ref p] → Dm K M H hv (.tuple (hdL h)) → H p = some (.lst vs) → Dms K M H vs (ps.map enc) → p ∈ M → p ∉ ds → PRep K M H (us ++ [.ref a]) ((h, ps) :: pl) (p :: ds)
section
variable {K : PySem.W.Frag} {M : List Addr} {H H' : Hp}
theorem PRep.frame (e : ExM M H H') : ∀ {us : List V} {pl : Pl} {ds : List Addr}, PRep K M H us pl ds → (∀ p ∈ ds, ∀ o, H p = some o → H' p = some o) → PRep K M H' us pl ds
  | _, _, _, .nil, _ => .nil
  | _, _, _, .snoc r h1 h2 h3 h4 h5 h6, k => .snoc (PRep.frame e r fun p hp => k p (List.mem_cons_of_mem _ hp)) (Evl.ex_t (exM_mi e) h1) (dm_exM e h2) (k _ (by simp) _ h3) (dms_exM e h4) h5 h6
theorem PRep.add {q : Addr} (n : H q = none) : ∀ {us : List V} {pl : Pl} {ds : List Addr}, PRep K M H us pl ds → PRep K (q :: M) H us pl ds
  | _, _, _, .nil => .nil
  | _, _, _, .snoc r h1 h2 h3 h4 h5 h6 => .snoc (PRep.add n r) (Evl.ex_t (ex_add n) h1) (dm_add n h2) h3 (dms_add n h4) (List.mem_cons_of_mem _ h5) h6
theorem PRep.len : ∀ {us : List V} {pl : Pl} {ds : List Addr}, PRep K M H us pl ds → us.length = pl.length
  | _, _, _, .nil => rfl
  | _, _, _, .snoc r _ _ _ _ _ _ => by simp [PRep.len r]
theorem PRep.some : ∀ {us : List V} {pl : Pl} {ds : List Addr}, PRep K M H us pl ds → ∀ p ∈ ds, H p ≠ none ∧ p ∈ M
  | _, _, _, .nil, p, hp => by cases hp
  | _, _, _, .snoc r _ _ h3 _ h5 _, p, hp => by
    rcases List.mem_cons.mp hp with rfl | hp
    · exact ⟨by rw [h3]; exact (fun z => nomatch z), h5⟩
    · exact PRep.some r p hp
end
theorem dom_exs {M L : List Addr} {H H' : Hp} (d : Dom M H) (e : ExM L H H') (h : ∀ m ∈ L, H' m ≠ none) : Dom M H' := fun m hm => by
  by_cases hL : m ∈ L
  · exact h m hL
  · cases q : H m with
    | none => exact absurd q (d m hm)
    | some o =>
      rw [e m o hL q]
      exact fun z => nomatch z
def fit (pl : Pl) (W : List (List Nat)) : Prop := pl.length + W.length ≤ 50000 ∧ ∀ e ∈ pl, e.2.length + W.length ≤ 50000
theorem atI_last (us : List V) (x : V) : atI (us ++ [x]) (-1) = some x := by
  have e : (us ++ [x]).length = us.length + 1 := by simp
  unfold atI ixN
  rw [e]
  have e2 : (-1 + ((us.length + 1 : Nat) : Int)).toNat = us.length := by omega
  rw [if_neg (by omega), if_pos (by omega), e2]
  simp
theorem atI_zero {α : Type} (x : α) (l : List α) : atI (x :: l) 0 = some x := by
  show atI (x :: l) ((0 : Nat) : Int) = _
  exact atI_nat rfl
def spClose (K : PySem.W.Frag) (C : Addr) : Sp := fun vs H Q _ => ∃ (M : List Addr) (r u dx : Addr) (v : V) (cs : List Nat) (n : Nat) (us : List V) (pl : Pl) (ds : List Addr) (W : List (List Nat)) (x t : Trm), vs = [.ref r, .ref u, v] ∧ H r = some (rdr C dx cs n) ∧ n ≤ cs.length ∧ cs.length ≤ 90000 ∧ H u = some (.lst us) ∧ Dom M H ∧ r ∈ M ∧ u ∈ M ∧ r ≠ u ∧
  r ∉ ds ∧ u ∉ ds ∧ PRep K M H us pl ds ∧ Dm K M H v (enc x) ∧ Lo W (cs.drop n) ∧ (∀ w ∈ W, w ≠ []) ∧ Clo pl x W t ∧ fit pl W ∧
  (∀ v' H' n', n' ≤ cs.length → ExM (r :: u :: ds) H H' → Dom M H' → H' r = some (rdr C dx cs n') → Lo [] (cs.drop n') → Dm K M H' v' (enc t) → (∃ a, v' = .ref a) → Q v' H') ∧
  (∀ H' n' us' pl' ds' W', n' ≤ cs.length → ExM (r :: u :: ds) H H' → Dom M H' → H' r = some (rdr C dx cs n') → H' u = some (.lst us') → PRep K M H' us' pl' ds' → (∀ p ∈ ds', p ∈ ds) → Lo W' (cs.drop n') → (∀ w ∈ W', w ∈ W) → W'.length < W.length → Pend pl' W' t → fit pl' W' → Q .non H')
section
variable {P : Program} {w : World} {K : PySem.W.Frag} {mg : Str → Option Value} {base : Heap}
abbrev RLeafW : List PyData → PyData → Prop := fun ds r => ∃ x rest, ds = [.tuple (.str x :: rest)] ∧ r = .bool (decide (V.str x = V.str "price") || decide (V.str x = V.str "plain"))
theorem ok_is_leafW (T : Top K mg) : FnOk P w K mg base CX0 1 T.is_leaf.f T.is_leaf.fd ["term"] (spR K RLeafW) := by
  refine T.is_leaf.F.ok sc_is_leaf (fun vs H Q E h => ?_) (fun cdv A outer s H vs Q E hr h => ?_)
  · obtain ⟨M, ds, r, _, hv, ⟨_, _, rfl, _⟩, _⟩ := h
    exact dpa_len hv
  obtain ⟨M, ds, r, hM, hv, ⟨x, rest, rfl, rfl⟩, q⟩ := h
  obtain ⟨v, rfl, hd⟩ := dpa1 hv
  refine ⟨_, (pss_one (ps_ret (pe_or (pe_cmpR op_eq (pe_ix ix_tup (pv 0) pe_int (fun _ _ => rfl)) pe_str (nomark _)) (pe_one (pe_cmpR op_eq (pe_ix ix_tup (pv 0) pe_int (fun _ _ => rfl)) pe_str (nomark _)))))), ?_⟩
  exact Evl.s_ret (Evl.ev_orV (Evl.ev_op (ev_sc (de_ixT (de_v hd (by rfl)) Evl.ev_c (d := .str x) (atI_zero _ _)) rfl) Evl.ev_c (Evl.rv_eq rfl)) (fun _ => Evl.ev_op (ev_sc (de_ixT (de_v hd (by rfl)) Evl.ev_c (d := .str x) (atI_zero _ _)) rfl) Evl.ev_c (Evl.rv_eq rfl))) fun H1 e => q _ H1 e (.bl _)
theorem ok__close (T : Top K mg) : FnOk P w K mg base CX0 4 T._close.f T._close.fd ["reader", "unclosed", "term"] (spClose K T.R.C) := by
  refine T._close.F.ok sc__close (fun vs H Q E h => ?_) (fun cdv A outer s H vs Q E hr h => ?_)
  · obtain ⟨_, _, _, _, _, _, _, _, _, _, _, _, _, rfl, _⟩ := h
    rfl
  obtain ⟨M, r, u, dx, v, cs, n, us, pl, ds, W, x, t, rfl, ho, hn, h9, hu, hM, hrM, huM, hru, hrd, hud, hP, hd, hL, hne, hC, hf, q1, q2⟩ := h
  refine ⟨_, (pss_cons (ps_while PassesOwn.never (pt_truth (pv 1) (by intro _; rfl)) (pss_cons (ps_asg (pe_ix ix_list (pv 1) (pe_un un_neg pe_int) (fun _ _ => rfl)) (pg_tup rfl (pgs_cons (pg_name (i := 3) sc__close.nd rfl (Or.inl rfl)) (pgs_cons (pg_name (i := 4) sc__close.nd rfl (Or.inl rfl)) pgs_nil))))
      (pss_cons (ps_expr (pe_bm PySem.F.plainAttrs_list PySem.F.slot_list_append PySem.F.type_list_append mt_append (pv 4) (pa_cons (pv 2) pa_nil)))
      (pss_cons (ps_if (pt_cmpR op_eq (pe_meth (pv 0) T.R.cl T.R_sign.m (ok_Reader_sign T) (hr.mono (by omega)) T.R_sign.b .nil pass0 (pa_cons pe_str pa_nil)) pe_str (nomark _)) (pss_one (ps_ret pe_non)) pss_nil)
      (pss_cons (ps_expr (pe_bm0 PySem.F.plainAttrs_list PySem.F.slot_list_pop PySem.F.type_list_pop mt_pop (pv 1)))
      (pss_one (ps_set (i := 2) sc__close.nd rfl (Or.inl rfl) (pe_op op_catA (pv 3) (pe_tup (pa_cons (pe_callTy call_tuple_of (by rfl) T.n_tuple (by decide +kernel) (pa_cons (pv 4) pa_nil)) pa_nil))))))))))
      (pss_one (ps_ret (pv 2)))), ?_⟩
  refine Evl.q_while (fun m σ' H' => ∃ (x3 x4 : Option V) (v' : V) (n' : Nat) (us' : List V) (pl' : Pl) (ds' : List Addr) (W' : List (List Nat)) (x' : Trm), σ' = [some (.ref r), some (.ref u), some v', x3, x4] ∧ Dom M H' ∧ n' ≤ cs.length ∧ ExM (r :: u :: ds) H H' ∧ H' r = some (rdr T.R.C dx cs n') ∧ H' u = some (.lst us') ∧
      PRep K M H' us' pl' ds' ∧ (∀ p ∈ ds', p ∈ ds) ∧ Dm K M H' v' (enc x') ∧ Lo W' (cs.drop n') ∧ (∀ w ∈ W', w ∈ W) ∧ W'.length ≤ W.length ∧ Clo pl' x' W' t ∧ fit pl' W' ∧ m = W'.length) W.length
    ⟨none, none, v, n, us, pl, ds, W, x, rfl, hM, hn, ExM.refl _ _, ho, hu, hP, fun p hp => hp, hd, hL, fun w hw => hw, Nat.le_refl _, hC, hf, rfl⟩ (fun m σ' H' hW => ?_)
  obtain ⟨x3, x4, v', n', us', pl', ds', W', x', rfl, hMd, hn', eH, ho', hu', hP', hsub, hd', hL', hWs, hWl, hC', hf', rfl⟩ := hW
  have hrd' : r ∉ ds' := fun z => hrd (hsub _ z)
  have hud' : u ∉ ds' := fun z => hud (hsub _ z)
  refine ⟨_, et_truL (Evl.ev_var rfl) (Evl.sq_of hu'), fun hb H1 e1 => ?_, fun hb H1 e1 => ?_⟩
  · -- a turn
    cases hP' with
    | nil => cases hb
    | @snoc us2 pl2 ds2 a p hv hh ps vs hP2 hsq hhv hp hvs hpM hpd =>
    have hM1 : Dom M H1 := hMd.ex e1
    have hu1 := e1 _ _ hu'
    have ho1 := e1 _ _ ho'
    have hp1 := e1 _ _ hp
    have hsq1 := Evl.ex_t (ex_mi e1) hsq
    have hpr : p ≠ r := fun z => hrd' (by rw [z]; simp)
    have hpu : p ≠ u := fun z => hud' (by rw [z]; simp)
    refine ⟨fun σ2 H2 => ∃ m', m' < W'.length ∧ _, fun σ2 H2 z => z, ?_⟩
    refine ⟨_, rfl, 1, rfl, u, _, -1, .ref a, rfl, rfl, Evl.sq_of hu1, atI_last _ _, ?_⟩
    refine ⟨a, _, rfl, Evl.ex_t (ex_full _ _) hsq1, rfl, hv, [.ref p], rfl, .ref p, [], rfl, rfl, ?_⟩
    -- parts.append(term)
    refine ⟨.ref p, rfl, .inl ⟨rfl, _, Evl.sq_of hp1⟩, v', rfl, p, vs, v', rfl, rfl, hp1, ?_, ?_⟩
    · have h7 := (hf'.2 (hh, ps) (by simp))
      have h8 := dpa_len hvs
      rw [List.length_map] at h8
      exact Evl.sz_lt (by simp only at h7; omega)
    have eM2 : ExM [p] H1 (upd H1 p (.lst (vs ++ [v']))) := ExM.mut (by simp)
    have hp2 : upd H1 p (.lst (vs ++ [v'])) p = some (.lst (vs ++ [v'])) := upd_same
    generalize upd H1 p (.lst (vs ++ [v'])) = H2 at eM2 hp2
    have ho2 := eM2 r _ (by simp [Ne.symm hpr]) ho1
    have hu2 := eM2 u _ (by simp [Ne.symm hpu]) hu1
    have hpds : p ∈ ds := hsub p (by simp)
    have eMM : ExM M H' H2 := (ExM.of e1).trans (eM2.sub (fun m hm => by rw [List.mem_singleton.mp hm]; exact hpM))
    have eHH : ExM (r :: u :: ds) H H2 := (eH.trans (ExM.of e1)).trans (eM2.sub (fun m hm => by rw [List.mem_singleton.mp hm]; simp [hpds]))
    have hM2 : Dom M H2 := dom_exs hM1 eM2 (fun m hm => by rw [List.mem_singleton.mp hm, hp2]; exact (fun z => nomatch z))
    have hv2 := dms_exM eMM hvs
    have hx2 := dm_exM eMM hd'
    have hvx : Dms K M H2 (vs ++ [v']) ((ps ++ [x']).map enc) := by
      rw [List.map_append]
      exact dpa_app hv2 (.cons hx2 .nil)
    have keep2 : ∀ q ∈ ds2, ∀ o, H' q = some o → H2 q = some o := fun q hq o ho => eM2 q o (by
      rw [List.mem_singleton]
      exact fun z => hpd (by rw [← z]; exact hq)) (e1 q o ho)
    have hcl : (Str.ofString ",)") = S [44, 41] := by decide +kernel
    have hfl : fit ((hh, ps) :: pl2) W' := hf'
    cases hC' with
    | @comma _ _ _ _ _ W2 hPd =>
      refine ⟨_, rfl, r, dx, _, rfl, ho2, lk_no cs n' (by decide +kernel) (by decide +kernel), r, dx, cs, [44, 41], n', 44, W2, by rw [hcl]; rfl, ho2, hn', h9, hL', by simp, fun H3 n3 l3 hn3 e3 h3 hL3 => ⟨rfl, _, rfl, ?_⟩⟩
      dsimp only
      rw [if_pos (by decide +kernel)]
      have e3M : ExM M H2 H3 := e3.sub (fun m hm => by rw [List.mem_singleton.mp hm]; exact hrM)
      refine q2 H3 n3 (us2 ++ [.ref a]) ((hh, ps ++ [x']) :: pl2) (p :: ds2) W2 hn3 (eHH.trans (e3.sub (fun m hm => by rw [List.mem_singleton.mp hm]; simp))) (dom_exs hM2 e3 (fun m hm => by rw [List.mem_singleton.mp hm, h3]; exact (fun z => nomatch z))) h3 (e3 u _ (by simp [Ne.symm hru]) hu2)
        (.snoc (hP2.frame (eMM.trans e3M) (fun q hq o ho => e3 q o (by rw [List.mem_singleton]; exact fun z => hrd' (by rw [← z]; exact List.mem_cons_of_mem _ hq)) (keep2 q hq o ho))) (Evl.ex_t (exM_mi (eMM.trans e3M)) hsq) (dm_exM (eMM.trans e3M) hhv) (e3 p _ (by simp [hpr]) hp2) (dms_exM e3M hvx) hpM hpd)
        hsub hL3 (fun w hw => hWs w (List.mem_cons_of_mem _ hw)) (by simp only [List.length_cons] at hWl; omega) hPd ⟨?_, ?_⟩
      · have := hf'.1
        simp only [List.length_cons] at this ⊢
        omega
      · intro e he
        rcases List.mem_cons.mp he with rfl | he
        · have := hf'.2 (hh, ps) (by simp)
          simp only [List.length_cons, List.length_append, List.length_nil] at this ⊢
          omega
        · have := hf'.2 e (List.mem_cons_of_mem _ he)
          simp only [List.length_cons] at this ⊢
          omega
    | @close _ _ _ _ _ W2 hC2 =>
      refine ⟨_, rfl, r, dx, _, rfl, ho2, lk_no cs n' (by decide +kernel) (by decide +kernel), r, dx, cs, [44, 41], n', 41, W2, by rw [hcl]; rfl, ho2, hn', h9, hL', by simp, fun H3 n3 l3 hn3 e3 h3 hL3 => ⟨rfl, _, rfl, ?_⟩⟩
      dsimp only
      rw [if_neg (by decide +kernel)]
      have e3M : ExM M H2 H3 := e3.sub (fun m hm => by rw [List.mem_singleton.mp hm]; exact hrM)
      have hu3 := e3 u _ (by simp [Ne.symm hru]) hu2
      have hp3 := e3 p _ (by simp [hpr]) hp2
      have keep3 : ∀ q ∈ ds2, ∀ o, H' q = some o → H3 q = some o := fun q hq o ho => e3 q o (by rw [List.mem_singleton]; exact fun z => hrd' (by rw [← z]; exact List.mem_cons_of_mem _ hq)) (keep2 q hq o ho)
      have eH3 : ExM (r :: u :: ds) H H3 := eHH.trans (e3.sub (fun m hm => by rw [List.mem_singleton.mp hm]; simp))
      have eM3 : ExM M H' H3 := eMM.trans e3M
      have hM3 : Dom M H3 := dom_exs hM2 e3 (fun m hm => by rw [List.mem_singleton.mp hm, h3]; exact (fun z => nomatch z))
      have hvx3 := dms_exM e3M hvx
      -- unclosed.pop()
      refine ⟨.ref u, rfl, .inl ⟨rfl, _, Evl.sq_of hu3⟩, u, _, .ref a, rfl, rfl, hu3, by simp, ?_⟩
      rw [List.dropLast_concat]
      have e4 : ExM [u] H3 (upd H3 u (.lst us2)) := ExM.mut (by simp)
      have hu4 : upd H3 u (.lst us2) u = some (.lst us2) := upd_same
      generalize upd H3 u (.lst us2) = H4 at e4 hu4
      have h4 := e4 r _ (by simp [hru]) h3
      have hp4 := e4 p _ (by simp [hpu]) hp3
      have keep4 : ∀ q ∈ ds2, ∀ o, H' q = some o → H4 q = some o := fun q hq o ho => e4 q o (by rw [List.mem_singleton]; exact fun z => hud' (by rw [← z]; exact List.mem_cons_of_mem _ hq)) (keep3 q hq o ho)
      have e4M : ExM M H3 H4 := e4.sub (fun m hm => by rw [List.mem_singleton.mp hm]; exact huM)
      have hM4 : Dom M H4 := dom_exs hM3 e4 (fun m hm => by rw [List.mem_singleton.mp hm, hu4]; exact (fun z => nomatch z))
      have eH4 : ExM (r :: u :: ds) H H4 := eH3.trans (e4.sub (fun m hm => by rw [List.mem_singleton.mp hm]; simp))
      have hvx4 := dms_exM e4M hvx3
      have hhv4 := dm_exM (eM3.trans e4M) hhv
      have eM4 := eM3.trans e4M
      -- term = start + (tuple(parts),)
      obtain ⟨b, xs, rfl, hbs, hbx⟩ : ∃ b xs, hv = .ref b ∧ SqT K (mi H4 M) b xs ∧ Dms K M H4 xs (hdL hh) := by
        cases hhv4 with
        | tup hs hv => exact ⟨_, _, rfl, hs, hv⟩
      have xl := dpa_len hbx
      have hl12 := hdL_len hh
      have hxs0 : xs ≠ [] := fun z => by
        rw [z] at xl
        simp only [List.length_nil] at xl
        omega
      refine ⟨.ref b, rfl, .ref p, rfl, p, vs ++ [v'], rfl, .inl ⟨Evl.sq_of hp4, fun l hl => ⟨Evl.sz_of (by simp), fun q hq => ?_⟩⟩⟩
      have e5 : Evl.Ex H4 (upd H4 l (.tup (vs ++ [v']))) := Evl.Ex.new hl
      have hl5 : upd H4 l (.tup (vs ++ [v'])) l = some (.tup (vs ++ [v'])) := upd_same
      have hlM := hM4.nin hl
      generalize upd H4 l (.tup (vs ++ [v'])) = H5 at e5 hl5 hq
      have e6 : Evl.Ex H5 (upd H5 q (.tup [.ref l])) := Evl.Ex.new hq
      have hq6 : upd H5 q (.tup [.ref l]) q = some (.tup [.ref l]) := upd_same
      generalize upd H5 q (.tup [.ref l]) = H6 at e6 hq6
      have e46 := e5.trans e6
      refine ⟨b, q, xs, [.ref l], rfl, rfl, Evl.ex_t (ex_full _ _) (Evl.ex_t (ex_mi e46) hbs), Evl.st_of hq6, Evl.sz_of (by simp only [List.length_cons, List.length_nil]; omega), fun z => absurd z hxs0, (fun _ z => nomatch z), fun _ _ z hz => ?_⟩
      have e7 : Evl.Ex H6 (upd H6 z (.tup (xs ++ [.ref l]))) := Evl.Ex.new hz
      have hz7 : upd H6 z (.tup (xs ++ [.ref l])) z = some (.tup (xs ++ [.ref l])) := upd_same
      have hzM : z ∉ M := (hM4.ex e46).nin hz
      generalize upd H6 z (.tup (xs ++ [.ref l])) = H7 at e7 hz7
      have e47 := e46.trans e7
      have hnew : Dm K M H7 (.ref z) (enc (.node hh (ps ++ [x']))) := by
        rw [enc_node]
        exact .tup (Evl.st_of (mi_of hzM hz7)) (dpa_app (dms_ex e47 hbx) (.cons (.tup (Evl.st_of (mi_of hlM ((e6.trans e7) _ _ hl5))) (dms_ex e47 hvx4)) .nil))
      refine ⟨W2.length, by simp, _, _, .ref z, n3, us2, pl2, ds2, W2, _, rfl, hM4.ex e47, hn3, eH4.trans (ExM.of e47), e47 _ _ h4, e47 _ _ hu4, hP2.frame (eM4.trans (ExM.of e47)) (fun q hq o ho => e47 _ _ (keep4 q hq o ho)), fun q hq => hsub q (List.mem_cons_of_mem _ hq), hnew, hL3, fun w hw => hWs w (List.mem_cons_of_mem _ hw), by simp only [List.length_cons] at hWl; omega, hC2, ⟨?_, ?_⟩, rfl⟩
      · have := hf'.1
        simp only [List.length_cons] at this ⊢
        omega
      · intro e he
        have := hf'.2 e (List.mem_cons_of_mem _ he)
        simp only [List.length_cons] at this ⊢
        omega
  · -- the end
    cases hP' with
    | snoc => simp at hb
    | nil =>
      cases hC' with
      | done =>
        have e12 := e1
        refine Evl.s_ret (Evl.ev_var rfl) fun H2 e2 => ?_
        have e2' := e1.trans e2
        refine q1 v' H2 n' hn' (eH.trans (ExM.of e2')) (hMd.ex e2') (e2' _ _ ho') hL' (dm_ex e2' hd') ?_
        have hd9 : Dm K M H' v' (.tuple (encL t)) := by
          rw [← enc_eq]
          exact hd'
        cases hd9 with
        | tup hs hv => exact ⟨_, rfl⟩
end
end K03

set_option Elab.async false
set_option linter.all false
set_option maxRecDepth 100000
set_option maxHeartbeats 4000000
namespace K03
open PySem PySem.Spec PyProof.Rows L2 DK DD TM TX SX RD
def spWhole (K : PySem.W.Frag) (C : Addr) : Sp := fun vs H Q _ => ∃ (M : List Addr) (r dx : Addr) (cs : List Nat) (n : Nat) (W : List (List Nat)) (t : Trm), vs = [.ref r] ∧ H r = some (rdr C dx cs n) ∧ n ≤ cs.length ∧ cs.length ≤ 90000 ∧ Dom M H ∧ r ∈ M ∧ Lo W (cs.drop n) ∧ (∀ w ∈ W, w ≠ []) ∧ Pend [] W t ∧ W.length ≤ 50000 ∧
  ∀ v H' n', n' ≤ cs.length → ExM [r] H H' → H' r = some (rdr C dx cs n') → Lo [] (cs.drop n') → Dm K M H' v (enc t) → Q v H'
theorem exM_new {r : Addr} {L : List Addr} {H H3 H4 : Hp} (a : ExM [r] H H3) (b : ExM L H3 H4) (h : ∀ m ∈ L, m = r ∨ H m = none) : ExM [r] H H4 := fun x o nx hx => b x o (fun hL => (h x hL).elim (fun z => nx (by simp [z])) (fun z => by rw [z] at hx; cases hx)) (a x o nx hx)
theorem fresh_exM {r p : Addr} {H H' : Hp} {o : HO} (e : ExM [r] H H') (hr : H' r = some o) (n : H' p = none) : H p = none ∧ p ≠ r := by
  have hpr : p ≠ r := fun z => by
    rw [z, hr] at n
    cases n
  refine ⟨?_, hpr⟩
  cases q : H p with
  | none => rfl
  | some o2 =>
    rw [e p o2 (by simp [hpr]) q] at n
    cases n
theorem encL_cons (t : Trm) : ∃ rest, encL t = .str (word t) :: rest := by
  match t with
  | .price s a => exact ⟨_, rfl⟩
  | .plain n => exact ⟨_, rfl⟩
  | .node .least ps => exact ⟨_, rfl⟩
  | .node .most ps => exact ⟨_, rfl⟩
  | .node (.rank k) ps => exact ⟨_, rfl⟩
theorem hdL_cons (h : Hd) : ∃ x rest, hdL h = .str x :: rest ∧ (decide (V.str x = V.str "price") || decide (V.str x = V.str "plain")) = false := by
  cases h with
  | least => exact ⟨"least", [], rfl, by decide +kernel⟩
  | most => exact ⟨"most", [], rfl, by decide +kernel⟩
  | rank k => exact ⟨"rank", _, rfl, by decide +kernel⟩
theorem Sgn.len {i : Int} {W0 W : List (List Nat)} (h : Sgn i W0 W) : W.length < W0.length := by
  cases h <;> simp only [List.length_cons] <;> omega
theorem Adn.len {i : Int} {W0 W : List (List Nat)} (h : Adn i W0 W) : W.length ≤ W0.length := by
  cases h with
  | zero W _ => exact Nat.le_refl _
  | pos m W _ _ => simp only [List.length_cons]; omega
  | neg m W _ _ => simp only [List.length_cons]; omega
theorem Start.len {d : List PyData} {W0 W : List (List Nat)} (h : Start d W0 W) : W.length < W0.length := by
  cases h with
  | plain h => exact h.len
  | price _ h =>
    have := h.len
    simp only [List.length_cons]
    omega
  | least W => simp only [List.length_cons]; omega
  | most W => simp only [List.length_cons]; omega
  | rank W _ => simp only [List.length_cons]; omega
theorem dpBool {K : PySem.W.Frag} {H : Hp} {v : V} {b : Bool} (h : Dp K H v (.bool b)) : v = .bl b := by cases h; rfl
section
variable {P : Program} {w : World} {K : PySem.W.Frag} {mg : Str → Option Value} {base : Heap}
theorem ok__read_whole (T : Top K mg) : FnOk P w K mg base CX0 5 T._read_whole.f T._read_whole.fd ["reader"] (spWhole K T.R.C) := by
  refine T._read_whole.F.ok sc__read_whole (fun vs H Q E h => ?_) (fun cdv A outer s H vs Q E hr h => ?_)
  · obtain ⟨_, _, _, _, _, _, _, rfl, _⟩ := h
    rfl
  obtain ⟨M, r, dx, cs, n, W, t, rfl, ho, hn, h9, hM, hrM, hL, hne, hP, hW5, q⟩ := h
  refine ⟨_, (pss_cons (ps_set (i := 1) sc__read_whole.nd rfl (Or.inl rfl) (pe_lst pa_nil))
      (pss_cons (ps_set (i := 2) sc__read_whole.nd rfl (Or.inl rfl) pe_non)
      (pss_cons (ps_while PassesOwn.never (pt_cmpR op_isN (pv 2) pe_non (nomark _)) (pss_cons (ps_set (i := 3) sc__read_whole.nd rfl (Or.inl rfl) (pe_call (ok__read_start T) (hr.mono (by omega)) (by rfl) T._read_start.g T._read_start.F.kp T._read_start.b .nil pass0 (pa_cons (pv 0) pa_nil)))
      (pss_one (ps_if (pt_val (pe_call (ok_is_leafW T) (hr.mono (by omega)) (by rfl) T.is_leaf.g T.is_leaf.F.kp T.is_leaf.b .nil pass0 (pa_cons (pv 3) pa_nil))) (pss_one (ps_set (i := 2) sc__read_whole.nd rfl (Or.inl rfl) (pe_call (ok__close T) (hr.mono (by omega)) (by rfl) T._close.g T._close.F.kp T._close.b .nil pass0 (pa_cons (pv 0) (pa_cons (pv 1) (pa_cons (pv 3) pa_nil)))))) (pss_cons (ps_expr (pe_meth (pv 0) T.R.cl T.R_sign.m (ok_Reader_sign T) (hr.mono (by omega)) T.R_sign.b .nil pass0 (pa_cons pe_str pa_nil)))
      (pss_one (ps_expr (pe_bm PySem.F.plainAttrs_list PySem.F.slot_list_append PySem.F.type_list_append mt_append (pv 1) (pa_cons (pe_tup (pa_cons (pv 3) (pa_cons (pe_lst pa_nil) pa_nil))) pa_nil)))))))))
      (pss_one (ps_ret (pv 2)))))), ?_⟩
  refine q_asgDL (K := K) (M := M) (dl_lst da_nil (by simp)) fun u vs0 H1 n1 e1 h1 d1 => ?_
  obtain rfl : vs0 = [] := by cases d1; rfl
  refine Evl.q_asg Evl.ev_c fun H2 e2 => ?_
  have hru : r ≠ u := fun z => by
    rw [← z, ho] at n1
    cases n1
  have hM2 : Dom (u :: M) H2 := (hM.ex (e1.trans e2)).cons (by rw [e2 _ _ h1]; exact (fun z => nomatch z))
  refine Evl.q_while (fun m σ' H' => ∃ (x3 : Option V) (n' : Nat) (MM : List Addr), n' ≤ cs.length ∧ ExM [r] H H' ∧ H' r = some (rdr T.R.C dx cs n') ∧ Dom MM H' ∧ (∀ m ∈ M, m ∈ MM) ∧ u ∈ MM ∧
      ((∃ us pl ds W', σ' = [some (.ref r), some (.ref u), some .non, x3] ∧ H' u = some (.lst us) ∧ PRep K MM H' us pl ds ∧ r ∉ ds ∧ u ∉ ds ∧ (∀ p ∈ ds, H p = none) ∧ Lo W' (cs.drop n') ∧ (∀ w ∈ W', w ∈ W) ∧ Pend pl W' t ∧ fit pl W' ∧ m = W'.length + 1) ∨
       (∃ v, σ' = [some (.ref r), some (.ref u), some v, x3] ∧ v ≠ .non ∧ Lo [] (cs.drop n') ∧ Dm K MM H' v (enc t) ∧ m = 0))) (W.length + 1)
    ⟨none, n, u :: M, hn, ExM.of (e1.trans e2), (e1.trans e2) _ _ ho, hM2, fun m hm => List.mem_cons_of_mem _ hm, by simp, .inl ⟨[], [], [], W, rfl, e2 _ _ h1, .nil, by simp, by simp, by simp, hL, fun w hw => hw, hP, ⟨by simp only [List.length_nil]; omega, by simp⟩, rfl⟩⟩ (fun m σ' H' hW => ?_)
  obtain ⟨x3, n', MM, hn', eH, ho', hMM, hsM, huMM, hcase⟩ := hW
  have hrMM := hsM r hrM
  rcases hcase with ⟨us, pl, ds, W', rfl, hu', hPR, hrd, hud, hdn, hL', hWs, hPd, hfit, rfl⟩ | ⟨v, rfl, hv, hL', hdv, rfl⟩
  · refine ⟨true, Evl.et_is (Evl.et_test (Evl.ev_op (Evl.ev_var rfl) Evl.ev_c (fun H1 _ Q q => ⟨rfl, q H1 (Evl.Ex.refl _)⟩))) (by decide), fun _ H3 e3 => ?_, fun hb => nomatch hb⟩
    refine ⟨fun σ2 H2 => ∃ m', m' < W'.length + 1 ∧ _, fun σ2 H2 z => z, ?_⟩
    have ho3 := e3 _ _ ho'
    have hu3 := e3 _ _ hu'
    have hM3 := hMM.ex e3
    have hP3 := hPR.frame (ExM.of e3) (fun p _ o ho => e3 _ _ ho)
    have hfull : ∀ w ∈ W', w ≠ [] := fun w hw => hne w (hWs w hw)
    cases hPd with
    | @leaf _ u0 _ _ W2 hlf hS hC =>
      refine ⟨_, rfl, MM, r, dx, cs, n', _, W', W2, rfl, ho3, hn', h9, hL', hfull, hM3, hrMM, hS, fun v H4 n4 hn4 e4 h4 hL4 hd4 => ?_⟩
      have hM4 : Dom MM H4 := dom_exs hM3 e4 (fun m hm => by rw [List.mem_singleton.mp hm, h4]; exact (fun z => nomatch z))
      have hu4 := e4 u _ (by simp [Ne.symm hru]) hu3
      have hP4 := hP3.frame (e4.sub (fun m hm => by rw [List.mem_singleton.mp hm]; exact hrMM)) (fun p hp o ho => e4 p o (by rw [List.mem_singleton]; exact fun z => hrd (by rw [← z]; exact hp)) ho)
      obtain ⟨rest, hrest⟩ := encL_cons u0
      have hd4' := hd4
      rw [hrest] at hd4'
      refine ⟨_, rfl, MM, _, _, hM4, .cons hd4' .nil, ⟨word u0, rest, rfl, rfl⟩, fun v5 H5 e5 hd5 => ?_⟩
      obtain rfl := dpBool hd5
      rw [← leaf_word, hlf]
      refine ⟨true, rfl, ?_⟩
      dsimp only
      rw [if_pos rfl]
      have hlen := hS.len
      refine ⟨_, rfl, _, rfl, _, rfl, MM, r, u, dx, v, cs, n4, us, pl, ds, W2, u0, t, rfl, e5 _ _ h4, hn4, h9, e5 _ _ hu4, hM4.ex e5, hrMM, huMM, hru, hrd, hud, hP4.frame (ExM.of e5) (fun p _ o ho => e5 _ _ ho), ?_, hL4, fun w hw => hfull w (hS.sub w hw), hC, ?_, fun v6 H6 n6 hn6 e6 hM6 h6 hL6 hd6 ha => ?_, fun H6 n6 us6 pl6 ds6 W6 hn6 e6 hM6 h6 hu6 hP6 hs6 hL6 hW6 hlt6 hPd6 hfit6 => ?_⟩
      · rw [enc_eq]
        exact dm_ex e5 hd4
      · exact ⟨by have := hfit.1; omega, fun e he => by have := hfit.2 e he; omega⟩
      · obtain ⟨a, rfl⟩ := ha
        have eA : ExM [r] H H6 := exM_new (((eH.trans (ExM.of e3)).trans e4).trans (ExM.of e5)) e6 (fun m hm => by
          rcases List.mem_cons.mp hm with rfl | hm
          · exact .inl rfl
          · rcases List.mem_cons.mp hm with rfl | hm
            · exact .inr n1
            · exact .inr (hdn m hm))
        exact ⟨0, by omega, _, n6, MM, hn6, eA, h6, hM6, hsM, huMM, .inr ⟨_, rfl, (fun z => nomatch z), hL6, hd6, rfl⟩⟩
      · have eA : ExM [r] H H6 := exM_new (((eH.trans (ExM.of e3)).trans e4).trans (ExM.of e5)) e6 (fun m hm => by
          rcases List.mem_cons.mp hm with rfl | hm
          · exact .inl rfl
          · rcases List.mem_cons.mp hm with rfl | hm
            · exact .inr n1
            · exact .inr (hdn m hm))
        exact ⟨W6.length + 1, by omega, _, n6, MM, hn6, eA, h6, hM6, hsM, huMM, .inl ⟨us6, pl6, ds6, W6, rfl, hu6, hP6, fun z => hrd (hs6 _ z), fun z => hud (hs6 _ z), fun p hp => hdn p (hs6 p hp), hL6, fun w hw => hWs w (hS.sub w (hW6 w hw)), hPd6, hfit6, rfl⟩⟩
    | @node _ hh _ _ W2 hS hPd2 =>
      refine ⟨_, rfl, MM, r, dx, cs, n', _, W', _, rfl, ho3, hn', h9, hL', hfull, hM3, hrMM, hS, fun v H4 n4 hn4 e4 h4 hL4 hd4 => ?_⟩
      have hlen := hS.len
      simp only [List.length_cons] at hlen
      have hM4 : Dom MM H4 := dom_exs hM3 e4 (fun m hm => by rw [List.mem_singleton.mp hm, h4]; exact (fun z => nomatch z))
      have hu4 := e4 u _ (by simp [Ne.symm hru]) hu3
      have hP4 := hP3.frame (e4.sub (fun m hm => by rw [List.mem_singleton.mp hm]; exact hrMM)) (fun p hp o ho => e4 p o (by rw [List.mem_singleton]; exact fun z => hrd (by rw [← z]; exact hp)) ho)
      obtain ⟨x, rest, hrest, hxb⟩ := hdL_cons hh
      have hd4' := hd4
      rw [hrest] at hd4'
      refine ⟨_, rfl, MM, _, _, hM4, .cons hd4' .nil, ⟨x, rest, rfl, rfl⟩, fun v5 H5 e5 hd5 => ?_⟩
      obtain rfl := dpBool hd5
      rw [hxb]
      refine ⟨false, rfl, ?_⟩
      dsimp only
      rw [if_neg (by decide)]
      have h5 := e5 _ _ h4
      -- reader.sign("(")
      refine ⟨_, rfl, r, dx, _, rfl, h5, lk_no cs n4 (by decide +kernel) (by decide +kernel), r, dx, cs, [40], n4, 40, W2, by rw [show (Str.ofString "(") = S [40] by decide +kernel]; rfl, h5, hn4, h9, hL4, by simp, fun H6 n6 l6 hn6 e6 h6 hL6 => ?_⟩
      have hM5 := hM4.ex e5
      have hM6 : Dom MM H6 := dom_exs hM5 e6 (fun m hm => by rw [List.mem_singleton.mp hm, h6]; exact (fun z => nomatch z))
      have hu6 := e6 u _ (by simp [Ne.symm hru]) (e5 _ _ hu4)
      have e6M : ExM MM H5 H6 := e6.sub (fun m hm => by rw [List.mem_singleton.mp hm]; exact hrMM)
      have hP6 := (hP4.frame (ExM.of e5) (fun p _ o ho => e5 _ _ ho)).frame e6M (fun p hp o ho => e6 p o (by rw [List.mem_singleton]; exact fun z => hrd (by rw [← z]; exact hp)) ho)
      have hd6 := dm_exM e6M (dm_ex e5 hd4)
      have eH6 : ExM [r] H H6 := (((eH.trans (ExM.of e3)).trans e4).trans (ExM.of e5)).trans e6
      -- unclosed.append((start, []))
      refine ⟨.ref u, rfl, .inl ⟨rfl, _, Evl.sq_of hu6⟩, v, rfl, Evl.sz_of (by simp), fun p hp => ⟨Evl.sz_of (by simp), fun a ha => ?_⟩⟩
      have hpMM := hM6.nin hp
      obtain ⟨hpH, hpr⟩ := fresh_exM eH6 h6 hp
      have hpds : p ∉ ds := fun z => (hP6.some p z).1 hp
      have hpu : p ≠ u := fun z => by
        rw [z, hu6] at hp
        cases hp
      have hdp := dm_add hp hd6
      have hPp := hP6.add hp
      have e7 : Evl.Ex H6 (upd H6 p (.lst [])) := Evl.Ex.new hp
      have hp7 : upd H6 p (.lst []) p = some (.lst []) := upd_same
      generalize upd H6 p (.lst []) = H7 at e7 hp7 ha
      have hM7 : Dom (p :: MM) H7 := (hM6.ex e7).cons (by rw [hp7]; exact (fun z => nomatch z))
      have e8 : Evl.Ex H7 (upd H7 a (.tup [v, .ref p])) := Evl.Ex.new ha
      have ha8 : upd H7 a (.tup [v, .ref p]) a = some (.tup [v, .ref p]) := upd_same
      have haM := hM7.nin ha
      generalize upd H7 a (.tup [v, .ref p]) = H8 at e8 ha8
      have e68 := e7.trans e8
      have hul : us.length ≤ 50000 := by
        have := hP6.len
        have := hfit.1
        omega
      refine ⟨u, us, .ref a, rfl, rfl, e68 _ _ hu6, Evl.sz_lt (by omega), ?_⟩
      have e9 : ExM [u] H8 (upd H8 u (.lst (us ++ [.ref a]))) := ExM.mut (by simp)
      have hu9 : upd H8 u (.lst (us ++ [.ref a])) u = some (.lst (us ++ [.ref a])) := upd_same
      generalize upd H8 u (.lst (us ++ [.ref a])) = H9 at e9 hu9
      have e9M : ExM (p :: MM) H8 H9 := e9.sub (fun m hm => by rw [List.mem_singleton.mp hm]; exact List.mem_cons_of_mem _ huMM)
      have e69M : ExM (p :: MM) H6 H9 := (ExM.of e68).trans e9M
      have hM8 := hM7.ex e8
      have hM9 : Dom (p :: MM) H9 := dom_exs hM8 e9 (fun m hm => by rw [List.mem_singleton.mp hm, hu9]; exact (fun z => nomatch z))
      have eA : ExM [r] H H9 := exM_new (eH6.trans (ExM.of e68)) e9 (fun m hm => .inr (by rw [List.mem_singleton.mp hm]; exact n1))
      refine ⟨W2.length + 1, by omega, _, n6, p :: MM, hn6, eA, e9 r _ (by simp [hru]) (e68 _ _ h6), hM9, fun m hm => List.mem_cons_of_mem _ (hsM m hm), List.mem_cons_of_mem _ huMM, .inl ⟨us ++ [.ref a], (hh, []) :: pl, p :: ds, W2, rfl, hu9, ?_, ?_, ?_, ?_, hL6, fun w hw => hWs w (hS.sub w (List.mem_cons_of_mem _ hw)), hPd2, ⟨?_, ?_⟩, rfl⟩⟩
      · exact .snoc (hPp.frame e69M (fun q hq o ho => e9 q o (by rw [List.mem_singleton]; exact fun z => hud (by rw [← z]; exact hq)) (e68 _ _ ho))) (Evl.ex_t (exM_mi e9M) (Evl.st_of (mi_of haM ha8))) (dm_exM e69M hdp) (e9 p _ (by simp [hpu]) (e8 _ _ hp7)) .nil (by simp) hpds
      · simp [Ne.symm hpr, hrd]
      · simp [Ne.symm hpu, hud]
      · intro q hq
        rcases List.mem_cons.mp hq with rfl | hq
        · exact hpH
        · exact hdn q hq
      · have := hfit.1
        simp only [List.length_cons]
        omega
      · intro e he
        rcases List.mem_cons.mp he with rfl | he
        · have := hfit.1
          simp only [List.length_nil]
          omega
        · have := hfit.2 e he
          omega
  · refine ⟨false, Evl.et_is (Evl.et_test (Evl.ev_op (Evl.ev_var rfl) Evl.ev_c (fun H1 _ Q q => ⟨rfl, q H1 (Evl.Ex.refl _)⟩))) (decide_eq_false hv), (fun hb => nomatch hb), fun _ H3 e3 => ?_⟩
    refine Evl.s_ret (Evl.ev_var rfl) fun H4 e4 => ?_
    have e34 := e3.trans e4
    exact q v H4 n' hn' (eH.trans (ExM.of e34)) (e34 _ _ ho') hL' (dpx (ex_less hsM) _ _ (dm_ex e34 hdv))
/-- Reader(text) -/
def spInit (C : Addr) : Sp := fun vs H Q _ => ∃ (r dx : Addr) (cs : List Nat), vs = [.ref r, .str (S cs)] ∧ H r = some (.ins C dx []) ∧ ∀ H', ExM [r] H H' → H' r = some (rdr C dx cs 0) → Q .non H'
theorem ok_Reader_init (T : Top K mg) : FnOk P w K mg base CX0 1 T.R_init.f T.R_init.fd ["self", "text"] (spInit T.R.C) := by
  refine T.R_init.F.ok sc_Reader_init (fun vs H Q E h => ?_) (fun cdv A outer s H vs Q E hr h => ?_)
  · obtain ⟨_, _, _, rfl, _⟩ := h
    rfl
  obtain ⟨r, dx, cs, rfl, ho, q⟩ := h
  refine ⟨_, (pss_cons (ps_fld (pv 0) (pv 1) rfl)
      (pss_one (ps_fld (pv 0) pe_int rfl))), ?_⟩
  refine ⟨_, rfl, _, rfl, r, T.R.C, dx, _, rfl, ho, T.R.cl, T.R.nT, by simp, ?_⟩
  refine ⟨_, rfl, r, T.R.C, dx, _, rfl, upd_same, T.R.cl, T.R.nA, by simp [putF], ?_⟩
  have hpf : putF (Str.ofString "at") (.int 0) (putF (Str.ofString "text") (.str (S cs)) []) = flds cs 0 := by
    have z : ¬ (Str.ofString "text" = Str.ofString "at") := by decide +kernel
    simp [flds, putF, z]
  rw [hpf]
  exact q _ ((ExM.mut (by simp)).trans (ExM.mut (by simp))) upd_same
def spRead (K : PySem.W.Frag) : Sp := fun vs H Q _ => ∃ (M : List Addr) (cs : List Nat) (W : List (List Nat)) (t : Trm), vs = [.str (S cs)] ∧ cs.length ≤ 90000 ∧ Dom M H ∧ Lo W cs ∧ (∀ w ∈ W, w ≠ []) ∧ Pend [] W t ∧ W.length ≤ 50000 ∧ okT t ∧
  ∀ v H', Evl.Ex H H' → Dm K M H' v (enc t) → Q v H'
theorem ok_read_term (T : Top K mg) : FnOk P w K mg base CX0 9 T.read_term.f T.read_term.fd ["text"] (spRead K) := by
  refine T.read_term.F.ok sc_read_term (fun vs H Q E h => ?_) (fun cdv A outer s H vs Q E hr h => ?_)
  · obtain ⟨_, _, _, _, rfl, _⟩ := h
    rfl
  obtain ⟨M, cs, W, t, rfl, h9, hM, hL, hne, hP, hW5, hok, q⟩ := h
  refine ⟨_, (pss_cons (ps_if (pt_not (pt_val (pe_callB call_isi (by rfl) T.n_isinstance (by decide +kernel) (pa_cons (pv 0) (pa_cons (pe_bltn (v := .ty "str") rfl T.n_str (by decide +kernel) rfl) pa_nil))))) (pss_one DD.ps_never) pss_nil)
      (pss_cons (ps_set (i := 1) sc_read_term.nd rfl (Or.inl rfl) (pe_make T.R_mk (ok_Reader_init T) (hr.mono (by omega)) (by rfl) T.R.g T.R_init.b .nil pass0 (pa_cons (pv 0) pa_nil)))
      (pss_cons (ps_set (i := 2) sc_read_term.nd rfl (Or.inl rfl) (pe_call (ok__read_whole T) (hr.mono (by omega)) (by rfl) T._read_whole.g T._read_whole.F.kp T._read_whole.b .nil pass0 (pa_cons (pv 1) pa_nil)))
      (pss_cons (ps_if (pt_cmpR op_ne (pe_meth0 (pv 1) T.R.cl T.R_peek.m (ok_Reader_peek T) (hr.mono (by omega)) T.R_peek.b .nil pass0) pe_str (nomark _)) (pss_one DD.ps_never) pss_nil)
      (pss_cons (ps_expr (pe_call (ok_check_term0 T) (hr.mono (by omega)) (by rfl) T.check_term.g T.check_term.F.kp T.check_term.b .nil pass0 (pa_cons (pv 2) pa_nil)))
      (pss_one (ps_ret (pv 2)))))))), ?_⟩
  refine Evl.q_when (b := false) (Evl.et_is (Evl.et_not (Evl.et_B (ev_isi (M := M) (de_sc (d := .str (S cs)) (Evl.ev_var (by rfl)) rfl) (b := true) (by simp only [tyN]; decide +kernel)))) rfl) (fun hb => nomatch hb) fun _ H1 e1 => ?_
  refine ⟨_, rfl, fun x dx hx hdx ne => ⟨x, dx, cs, rfl, upd_same, fun H2 e2 h2 => ⟨rfl, ?_⟩⟩⟩
  have eX : ExM [x] H1 H2 := ((ExM.of (Evl.Ex.new hdx)).trans (ExM.mut (by simp))).trans e2
  have hxH := (fresh_exM (r := dx) (p := x) (H := H) (H' := L2.upd H1 dx (.own x)) (ExM.of (e1.trans (Evl.Ex.new hdx))) upd_same (by rw [upd_ne (Ne.symm ne)]; exact hx)).1
  have eR : ∀ {Hz : Hp}, ExM [x] H1 Hz → Evl.Ex H Hz := fun e a o h => (ExM.of e1 |>.trans e) a o (by
    rw [List.mem_singleton]
    intro z
    rw [z, hxH] at h
    cases h) h
  have hM2 : Dom (x :: M) H2 := (hM.ex (eR eX)).cons (by rw [h2]; exact (fun z => nomatch z))
  refine ⟨_, rfl, x :: M, x, dx, cs, 0, W, t, rfl, h2, by omega, h9, hM2, by simp, hL, hne, hP, hW5, fun v H3 n3 hn3 e3 h3 hL3 hd3 => ?_⟩
  have eX3 := eX.trans e3
  have hM3 : Dom (x :: M) H3 := (hM.ex (eR eX3)).cons (by rw [h3]; exact (fun z => nomatch z))
  refine ⟨_, rfl, x, dx, _, rfl, h3, lk_no cs n3 (by decide +kernel) (by decide +kernel), x, dx, cs, n3, rfl, h3, hn3, h9, fun H4 e4 h4 => ?_⟩
  obtain ⟨hp, _, _⟩ := lo_peek hL3 (by simp) hn3
  rw [hp]
  refine ⟨rfl, _, rfl, ?_⟩
  dsimp only
  rw [if_neg (by decide +kernel)]
  have eX4 := eX3.trans e4
  have hM4 : Dom (x :: M) H4 := (hM.ex (eR eX4)).cons (by rw [h4]; exact (fun z => nomatch z))
  have hd4 := dm_exM (e4.sub (fun m hm => by rw [List.mem_singleton.mp hm]; simp)) hd3
  refine ⟨_, rfl, x :: M, t, v, rfl, hM4, hd4, hok, fun H5 e5 => ?_⟩
  exact ⟨_, rfl, q v H5 (eR (eX4.trans (ExM.of e5))) (dm_less (dm_ex e5 hd4))⟩
end
end K03

set_option Elab.async false
set_option linter.all false
set_option maxRecDepth 100000
set_option maxHeartbeats 4000000
namespace K03
open PySem PySem.Spec PyProof.Rows L2 DK DD TM TX SX RD
theorem dg_small {n : Nat} (h : n < 10) : dg n = [48 + n] := by
  unfold dg
  rw [Nat.toDigits_of_lt_base h]
  have : ∀ d : Nat, d < 10 → (Nat.digitChar d).toNat = 48 + d := by decide
  simp [this n h]
theorem dg_step (n : Nat) (h : 10 ≤ n) : dg n = dg (n / 10) ++ [48 + n % 10] := by
  have hm : n % 10 < 10 := Nat.mod_lt n (by decide)
  have t : Nat.toDigits 10 (n / 10) ++ Nat.toDigits 10 (n % 10) = Nat.toDigits 10 (10 * (n / 10) + n % 10) := Nat.toDigits_append_toDigits (by decide) (by omega) hm
  rw [Nat.div_add_mod] at t
  rw [← dg_small hm]
  unfold dg
  rw [← t, List.map_append]
/-- what is left of a number's digits -/
def dgl (n : Nat) (ds : List Nat) : List Nat := if n = 0 ∧ ds ≠ [] then ds else dg n ++ ds
theorem dgl_step {n : Nat} {ds : List Nat} (h : 0 < n ∨ ds = []) : dgl n ds = dgl (n / 10) ((48 + n % 10) :: ds) := by
  have e1 : dgl n ds = dg n ++ ds := by
    unfold dgl
    rw [if_neg]
    rintro ⟨a, b⟩
    rcases h with h | h
    · omega
    · exact b h
  rw [e1]
  unfold dgl
  by_cases h10 : n < 10
  · rw [if_pos ⟨by omega, by simp⟩, dg_small h10, Nat.mod_eq_of_lt h10]
    rfl
  · rw [if_neg (by omega), dg_step n (by omega)]
    simp
theorem mul3 {d : Int} (h0 : 0 ≤ d) (h3 : d < 3) : PySem.MulOk (Str.ofString " ") d ∧ ∃ k : Nat, k ≤ 2 ∧ PySem.Txt.mul (Str.ofString " ") d = S (List.replicate k 32) := by
  have : d = 0 ∨ d = 1 ∨ d = 2 := by omega
  rcases this with rfl | rfl | rfl
  · exact ⟨⟨by decide, fun h => absurd (by decide) h, fun h => absurd (by decide) h⟩, 0, by decide, by decide +kernel⟩
  · exact ⟨⟨by decide, fun _ _ => by decide, fun _ _ => by decide⟩, 1, by decide, by decide +kernel⟩
  · exact ⟨⟨by decide, fun _ _ => by decide, fun _ _ => by decide +kernel⟩, 2, by decide, by decide +kernel⟩
theorem skip_blank (k : Nat) (l : List Nat) : skip (List.replicate k 32 ++ l) = k + skip l := by
  induction k with
  | zero => simp
  | succ k ih =>
    rw [List.replicate_succ, List.cons_append]
    simp only [skip, if_pos, ih]
    omega
theorem lo_blank (k : Nat) {W : List (List Nat)} {l : List Nat} (h : Lo W l) : Lo W (List.replicate k 32 ++ l) := by
  cases W with
  | nil =>
    have h' : skip l = l.length := h
    show skip _ = _
    rw [skip_blank, List.length_append, List.length_replicate, h']
  | cons w ws =>
    obtain ⟨l', h1, h2⟩ := h
    refine ⟨l', ?_, h2⟩
    rw [skip_blank, ← List.drop_drop, List.drop_left' (by simp)]
    exact h1
theorem lo_word {c : Nat} {w : List Nat} (hc : c ≠ 32) {W : List (List Nat)} {l : List Nat} (h : Lo W l) : Lo ((c :: w) :: W) (c :: w ++ l) := by
  refine ⟨l, ?_, h⟩
  have : skip (c :: w ++ l) = 0 := by
    show skip (c :: (w ++ l)) = 0
    simp only [skip]
    rw [if_neg hc]
  rw [this]
  rfl
def spDg : Sp := fun vs H Q _ => ∃ n : Int, vs = [.int n] ∧ n.natAbs ≤ 10 ^ 30 ∧ ∀ H', Evl.Ex H H' → Q (.str (S (dg n.natAbs))) H'
section
variable {P : Program} {w : World} {K : PySem.W.Frag} {mg : Str → Option Value} {base : Heap}
theorem ok__law_digits (T : Top K mg) : FnOk P w K mg base CX0 1 T._law_digits.f T._law_digits.fd ["number"] spDg := by
  refine T._law_digits.F.ok sc__law_digits (fun vs H Q E h => ?_) (fun cdv A outer s H vs Q E hr h => ?_)
  · obtain ⟨_, rfl, _⟩ := h
    rfl
  obtain ⟨n, rfl, hn, q⟩ := h
  refine ⟨_, (pss_cons (ps_set (i := 1) sc__law_digits.nd rfl (Or.inl rfl) pe_str)
      (pss_cons (ps_set (i := 2) sc__law_digits.nd rfl (Or.inl rfl) (pe_callB call_abs (by rfl) T.n_abs (by decide +kernel) (pa_cons (pv 0) pa_nil)))
      (pss_cons (ps_while PassesOwn.never (PW.pt (pw_or (pt_cmpR op_gt (pv 2) pe_int (nomark _)) (pw_or1 (pt_cmpR op_eq (pv 1) pe_str (nomark _))))) (pss_cons (ps_set (i := 1) sc__law_digits.nd rfl (Or.inl rfl) (pe_op op_add_str (pe_ix ix_str pe_str (pe_op op_mod (pe_callTy call_int1 (by rfl) T.n_int (by decide +kernel) (pa_cons (pv 2) pa_nil)) pe_int) (fun _ _ => rfl)) (pv 1)))
      (pss_one (ps_set (i := 2) sc__law_digits.nd rfl (Or.inl rfl) (pe_op op_fdiv (pe_callTy call_int1 (by rfl) T.n_int (by decide +kernel) (pa_cons (pv 2) pa_nil)) pe_int)))))
      (pss_one (ps_ret (pv 1)))))), ?_⟩
  have hab : (if n < 0 then -n else n) = ((n.natAbs : Nat) : Int) := by split <;> omega
  have hd31 := dg_len hn
  refine Evl.q_asg (v := .str (S [])) (Evl.ev_is Evl.ev_c (by decide +kernel)) fun H1 e1 => ?_
  refine Evl.q_asg (v := .int ((n.natAbs : Nat) : Int)) (Evl.ev_is (Evl.ev_cb (Evl.ea_cons (Evl.ev_var (by rfl)) Evl.ea_nil) (fun H2 _ Q q => ⟨n, rfl, q H2 (Evl.Ex.refl _)⟩)) (congrArg V.int hab)) fun H2 e2 => ?_
  refine Evl.q_while (fun m σ' H' => ∃ (l : Nat) (ds : List Nat), σ' = [some (.int n), some (.str (S ds)), some (.int (l : Int))] ∧ Evl.Ex H H' ∧ dgl l ds = dg n.natAbs ∧ m = l + (if ds = [] then 1 else 0)) (n.natAbs + 1)
    ⟨n.natAbs, [], rfl, e1.trans e2, by simp [dgl], by simp⟩ (fun m σ' H' hW => ?_)
  obtain ⟨l, ds, rfl, eH, hdg, rfl⟩ := hW
  have hds : ds.length ≤ 31 := by
    have : (dgl l ds).length ≤ 31 := by rw [hdg]; exact hd31
    unfold dgl at this
    split at this
    · exact this
    · rw [List.length_append] at this
      omega
  refine ⟨(decide ((0 : Int) < (l : Int)) || decide (V.str (S ds) = V.str (Str.ofString ""))), Evl.et_or (Evl.et_test (Evl.ev_op (Evl.ev_var (by rfl)) Evl.ev_c Evl.rv_I0)) (fun _ => Evl.et_test (Evl.ev_op (Evl.ev_var (by rfl)) Evl.ev_c (Evl.rv_eq rfl))), fun hb H3 e3 => ?_, fun hb H3 e3 => ?_⟩
  · have hor : 0 < l ∨ ds = [] := by
      simp only [Bool.or_eq_true, decide_eq_true_eq] at hb
      rcases hb with hb | hb
      · exact .inl (by omega)
      · exact .inr (S_inj ((V.str.inj hb).trans (show Str.ofString "" = S [] by decide +kernel)))
    refine ⟨fun σ2 H2 => ∃ m', m' < l + (if ds = [] then 1 else 0) ∧ _, fun σ2 H2 z => z, ?_⟩
    have hmod : ((l : Int) % 10) = ((l % 10 : Nat) : Int) := by omega
    have hix : atI digs ((l : Int) % 10) = some (48 + l % 10) := by
      rw [hmod]
      refine atI_nat ?_
      have : ∀ d : Nat, d < 10 → digs[d]? = some (48 + d) := by decide
      exact this _ (Nat.mod_lt _ (by decide))
    refine Evl.q_asg (v := .str (S ((48 + l % 10) :: ds))) (Evl.ev_is (Evl.ev_op (ev_ixS (z := digs) (Evl.ev_is Evl.ev_c (by rw [hDIG])) (Evl.ev_op (x := .int (l : Int)) (Evl.ev_cb (Evl.ea_cons (Evl.ev_var (by rfl)) Evl.ea_nil) (fun H4 _ Q q => .inl ⟨_, rfl, q H4 (Evl.Ex.refl _)⟩)) Evl.ev_c (fun H4 _ Q q => ⟨_, 10, rfl, rfl, (show (0 : Int) < 10 by decide), q H4 (Evl.Ex.refl _)⟩)) (by decide) hix) (Evl.ev_var (by rfl))
      (fun H4 _ Q q => ⟨_, _, rfl, rfl, by rw [S_len, S_len]; exact Evl.sz_of (by simp only [List.length_cons, List.length_nil]; omega), q H4 (Evl.Ex.refl _)⟩)) (by rw [S_cat]; rfl)) fun H4 e4 => ?_
    have hdiv : ((l : Int) / 10) = ((l / 10 : Nat) : Int) := by omega
    refine Evl.s_asg (v := .int ((l / 10 : Nat) : Int)) (Evl.ev_is (Evl.ev_op (x := .int (l : Int)) (Evl.ev_cb (Evl.ea_cons (Evl.ev_var (by rfl)) Evl.ea_nil) (fun H5 _ Q q => .inl ⟨_, rfl, q H5 (Evl.Ex.refl _)⟩)) Evl.ev_c (fun H5 _ Q q => ⟨_, 10, rfl, rfl, ⟨by decide, by decide⟩, q H5 (Evl.Ex.refl _)⟩)) (congrArg V.int hdiv)) fun H5 e5 => ?_
    refine ⟨l / 10 + 0, ?_, l / 10, (48 + l % 10) :: ds, rfl, ((eH.trans e3).trans e4).trans e5, by rw [← dgl_step hor]; exact hdg, by simp⟩
    rcases hor with h | h
    · have : l / 10 < l := Nat.div_lt_self h (by decide)
      omega
    · rw [if_pos h]
      have := Nat.div_le_self l 10
      omega
  · simp only [Bool.or_eq_false_iff, decide_eq_false_iff_not] at hb
    have hl0 : l = 0 := by omega
    have hne : ds ≠ [] := fun z => hb.2 (by rw [z]; decide +kernel)
    have : dgl l ds = ds := by
      unfold dgl
      rw [if_pos ⟨hl0, hne⟩]
    rw [this] at hdg
    subst hdg
    exact Evl.s_ret (Evl.ev_var rfl) fun H4 e4 => q H4 ((eH.trans e3).trans e4)
def spLoose : Sp := fun vs H Q _ => ∃ (s c p : Addr) (n : Nat) (ws : List (List Nat)), vs = [.ref s, .ref p] ∧ Src H s c n ∧ n + ws.length < 2 ^ 50 ∧ H p = some (.lst (ws.map fun y => V.str (S y))) ∧ p ≠ s ∧ p ≠ c ∧ (∀ w ∈ ws, w ≠ [32] → ∃ c w', w = c :: w' ∧ c ≠ 32) ∧ ws.flatten.length + 3 * ws.length ≤ 80000 ∧
  ∀ H' cs, ExM [s, c] H H' → Src H' s c (n + ws.length + 1) → Lo (ws.filter fun y => y ≠ [32]) cs → cs.length ≤ 90000 → Q (.str (S cs)) H'
theorem ok__law_loose (T : Top K mg) : FnOk P w K mg base CX0 4 T._law_loose.f T._law_loose.fd ["source", "words"] spLoose := by
  refine T._law_loose.F.ok sc__law_loose (fun vs H Q E h => ?_) (fun cdv A outer s H vs Q E hr h => ?_)
  · obtain ⟨_, _, _, _, _, rfl, _⟩ := h
    rfl
  obtain ⟨s, c, p, n, ws, rfl, S0, hn, hp, p1, p2, hw, hl, q⟩ := h
  refine ⟨_, (pss_cons (ps_set (i := 2) sc__law_loose.nd rfl (Or.inl rfl) (pe_op op_mulS pe_str (pe_call (ok__law_draw T) (hr.mono (by omega)) (by rfl) T._law_draw.g T._law_draw.F.kp T._law_draw.b .nil pass0 (pa_cons (pv 0) (pa_cons pe_int pa_nil)))))
      (pss_cons (ps_for PassesOwn.never rfl (pi_list (pv 1)) (pg_name (i := 3) sc__law_loose.nd rfl (Or.inl rfl)) (pss_one (ps_if (pt_cmpR op_ne (pv 3) pe_str (nomark _)) (pss_one (ps_set (i := 2) sc__law_loose.nd rfl (Or.inl rfl) (pe_op op_add_str (pe_op op_add_str (pv 2) (pv 3)) (pe_op op_mulS pe_str (pe_call (ok__law_pick T) (hr.mono (by omega)) (by rfl) T._law_pick.g T._law_pick.F.kp T._law_pick.b .nil pass0 (pa_cons (pv 0) (pa_cons (pe_lst (pa_cons pe_int (pa_cons pe_int (pa_cons pe_int (pa_cons pe_int pa_nil))))) pa_nil))))))) pss_nil)))
      (pss_one (ps_ret (pv 2))))), ?_⟩
  refine ⟨_, rfl, s, c, n, 3, rfl, S0, by omega, by decide, by decide, fun d H1 d0 d3 e1 S1 => ?_⟩
  obtain ⟨mo, k, hk, hmul⟩ := mul3 d0 d3
  refine ⟨_, _, rfl, rfl, mo, ?_⟩
  rw [hmul]
  have hpe : ∀ {Hx Hy : Hp} {o : HO}, ExM [s, c] Hx Hy → Hx p = some o → Hy p = some o := fun e h => e p _ (by simp [p1, p2]) h
  refine ⟨.ref p, rfl, p, rfl, ⟨_, Evl.sq_of (hpe e1 hp)⟩, ?_⟩
  refine for_list (xs := ws.map fun y => V.str (S y)) (fun i σ' H' => ∃ (fd : List Nat) (x3 : Option V), σ' = [some (.ref s), some (.ref p), some (.str (S fd)), x3] ∧ ExM [s, c] H H' ∧ Src H' s c (n + 1 + i) ∧ (∀ W' rest, Lo W' rest → Lo ((ws.take i).filter (fun y => y ≠ [32]) ++ W') (fd ++ rest)) ∧ fd.length ≤ 2 + (ws.take i).flatten.length + 2 * i)
    ⟨List.replicate k 32, none, rfl, e1, S1, fun W' rest h => lo_blank k h, by simp; omega⟩ (fun i σ' H' _ hW => ?_) (fun i x σ' H' hx hW => ?_) (fun σ' H' hW => ?_)
  · obtain ⟨_, _, _, e, _, _⟩ := hW
    exact Evl.sq_of (hpe e hp)
  · obtain ⟨fd, x3, rfl, e, Sx, hLo, hfl⟩ := hW
    rw [List.getElem?_map] at hx
    cases hwi : ws[i]? with
    | none => rw [hwi] at hx; cases hx
    | some wd =>
    rw [hwi] at hx
    obtain rfl : V.str (S wd) = x := Option.some.inj hx
    have hil : i < ws.length := (List.getElem?_eq_some_iff.mp hwi).1
    have htk : ws.take (i + 1) = ws.take i ++ [wd] := by
      rw [List.take_add_one, hwi]
      rfl
    have hfw : (ws.take (i + 1)).flatten.length = (ws.take i).flatten.length + wd.length := by
      rw [htk, List.flatten_append, List.length_append]
      simp
    have hfle : (ws.take (i + 1)).flatten.length ≤ ws.flatten.length := by
      conv => rhs; rw [← List.take_append_drop (i + 1) ws]
      rw [List.flatten_append, List.length_append]
      omega
    refine ⟨_, rfl, rfl, _, rfl, ?_⟩
    dsimp only
    by_cases hb : wd = [32]
    · rw [if_neg (by
        rw [hb]
        decide +kernel)]
      refine ⟨fd, _, rfl, e, Sx.mono (by omega), fun W' rest h => ?_, by omega⟩
      rw [htk, List.filter_append, hb]
      simpa using hLo W' rest h
    · rw [if_pos (by
        have : decide (V.str (S wd) = V.str (Str.ofString " ")) = false := S_ne (b := [32]) hb (by decide +kernel)
        rw [this]
        rfl)]
      refine ⟨_, rfl, _, rfl, S fd, S wd, rfl, rfl, by rw [S_len, S_len]; exact Evl.sz_of (by omega), ?_⟩
      rw [S_cat]
      refine ⟨_, rfl, by simp; decide, fun q hq => ⟨s, c, q, _, _, rfl, Sx.new hq, by omega, .inl (.inl upd_same), (Sx.nes' hq).1, (Sx.nes' hq).2, by simp, by simp, fun v H2 hv e2 S2 => ?_⟩⟩
      obtain ⟨d2, rfl, h0, h3⟩ : ∃ d2 : Int, v = .int d2 ∧ 0 ≤ d2 ∧ d2 < 3 := by
        simp only [List.mem_cons, List.not_mem_nil, or_false] at hv
        rcases hv with rfl | rfl | rfl | rfl <;> exact ⟨_, rfl, by decide, by decide⟩
      obtain ⟨mo2, k2, hk2, hmul2⟩ := mul3 h0 h3
      refine ⟨_, _, rfl, rfl, mo2, ?_⟩
      rw [hmul2]
      refine ⟨_, _, rfl, rfl, by rw [S_len, S_len]; exact Evl.sz_of (by rw [List.length_append, List.length_replicate]; omega), ?_⟩
      rw [S_cat]
      have eN : ExM [s, c] H H2 := (e.trans (ExM.of (Evl.Ex.new hq))).trans e2
      refine ⟨fd ++ wd ++ List.replicate k2 32, _, rfl, eN, S2, fun W' rest h => ?_, by rw [List.length_append, List.length_append, List.length_replicate]; omega⟩
      obtain ⟨c1, w1, hw1, hc1⟩ := hw wd (List.mem_of_getElem? hwi) hb
      rw [htk, List.filter_append, List.append_assoc]
      have hf1 : [wd].filter (fun y => decide (y ≠ [32])) = [wd] := by simp [hb]
      rw [hf1, List.append_assoc, List.append_assoc]
      refine hLo _ _ ?_
      have := lo_word (w := w1) hc1 (lo_blank k2 h)
      rw [← hw1] at this
      exact this
  · obtain ⟨fd, x3, rfl, e, Sx, hLo, hfl⟩ := hW
    rw [List.length_map] at Sx hLo hfl
    have hL0 := hLo [] [] (show skip [] = _ from rfl)
    rw [List.append_nil, List.append_nil, List.take_length] at hL0
    rw [List.take_length] at hfl
    exact ⟨_, rfl, q H' fd e (Sx.mono (by omega)) hL0 (by omega)⟩
end
end K03

set_option Elab.async false
set_option linter.all false
set_option maxRecDepth 100000
set_option maxHeartbeats 4000000
namespace K03
open PySem PySem.Spec PyProof.Rows L2 DK DD TM TX SX RD
theorem lws_snoc : ∀ (ts : List Trm) (x : Trm), lws (ts ++ [x]) = (if ts = [] then lw x else lws ts ++ ([[44], [32]] ++ lw x))
  | [], x => by simp [lws]
  | [t], x => by simp [lws]
  | t :: u :: ts, x => by
    have := lws_snoc (u :: ts) x
    rw [if_neg (by simp)] at this
    rw [if_neg (by simp)]
    simp only [List.cons_append] at this ⊢
    simp only [lws, this, List.append_assoc]
mutual
theorem lw_len : ∀ t : Trm, (lw t).length + 2 ≤ 7 * cnt t
  | .price s a => by
    simp only [lw, TM.cnt]
    split <;> simp
  | .plain n => by
    simp only [lw, TM.cnt]
    split <;> simp
  | .node h ps => by
    have := lws_len ps
    cases h <;> (simp only [lw, TM.cnt, List.length_append, List.length_cons, List.length_nil]; omega)
theorem lws_len : ∀ ts : List Trm, (lws ts).length ≤ 7 * cnts ts
  | [] => by simp [lws]
  | [t] => by
    have := lw_len t
    simp only [lws, cnts]
    omega
  | t :: u :: ts => by
    have h1 := lw_len t
    have h2 := lws_len (u :: ts)
    simp only [cnts] at h2 ⊢
    simp only [lws, List.length_append, List.length_cons, List.length_nil]
    omega
end
section
variable {K : PySem.W.Frag} {M : List Addr} {σ : L2.St} {H : Hp} {ta tb te : TE} {xs ys : List V}
theorem el_catW (ha : Evl.EvL ta σ H xs) (hb : Evl.EvL tb σ H ys) (hl : xs.length + ys.length ≤ 100000) : Evl.EvL (tOp rCat ta tb) σ H (xs ++ ys) := fun H1 e Q q => ha H1 e _ fun p H2 n2 e2 h2 => hb H2 (e.trans e2) _ fun r H3 n3 e3 h3 => ⟨p, r, xs, ys, rfl, rfl, e3 _ _ h2, h3, Evl.sz_of hl, fun z hz => q z _ (Evl.fresh_back (e2.trans e3) hz) ((e2.trans e3).trans (Evl.Ex.new hz)) upd_same⟩
theorem el_var {p : Addr} (ha : Evl.Ev ta σ H (.ref p)) (hp : H p = some (.lst xs)) (hb : Evl.EvL tb σ H ys) (hl : xs.length + ys.length ≤ 100000) : Evl.EvL (tOp rCat ta tb) σ H (xs ++ ys) := fun H1 e Q q => ha H1 e _ fun H2 e2 => hb H2 (e.trans e2) _ fun r H3 n3 e3 h3 => ⟨p, r, xs, ys, rfl, rfl, ((e.trans e2).trans e3) _ _ hp, h3, Evl.sz_of hl, fun z hz => q z _ (Evl.fresh_back (e2.trans e3) hz) ((e2.trans e3).trans (Evl.Ex.new hz)) upd_same⟩
theorem el_repW {k : Int} (ha : Evl.EvL ta σ H xs) (hb : Evl.Ev tb σ H (.int k)) (h1 : -2 ^ 63 ≤ k) (h2 : k < 2 ^ 63) (hl : xs.length * k.toNat ≤ 100000) : Evl.EvL (tOp rRep ta tb) σ H (List.replicate k.toNat xs).flatten := fun H1 e Q q => ha H1 e _ fun p H2 n2 e2 hp => hb H2 (e.trans e2) _ fun H3 e3 => ⟨p, k, xs, rfl, rfl, e3 _ _ hp, h1, h2, Evl.sz_of hl, fun z hz => q z _ (Evl.fresh_back (e2.trans e3) hz) ((e2.trans e3).trans (Evl.Ex.new hz)) upd_same⟩
theorem ev_ixNew {i : Int} {v : V} (ha : Evl.EvL ta σ H xs) (hb : Evl.Ev tb σ H (.int i)) (h : atI xs i = some v) : Evl.Ev (tOp (rIxL K) ta tb) σ H v := fun H1 e Q q => ha H1 e _ fun p H2 n2 e2 hp => hb H2 (e.trans e2) _ fun H3 e3 => ⟨p, xs, i, v, rfl, rfl, Evl.sq_of (e3 _ _ hp), h, q H3 (e2.trans e3)⟩
end
def spWords (K : PySem.W.Frag) (L : Nat) : Sp := fun vs H Q _ => ∃ M t v, vs = [v] ∧ Dom M H ∧ Dm K M H v (enc t) ∧ fr t = true ∧ cnt t ≤ 40 ∧ dep t ≤ L ∧ ∀ p H', H p = none → Evl.Ex H H' → H' p = some (.lst ((lw t).map fun y => V.str (S y))) → Q (.ref p) H'
theorem el_words {K : PySem.W.Frag} {M : List Addr} {σ : L2.St} {H : Hp} {te : TE} {E : XK} {L : Nat} {t : Trm} (hM : Dom M H) (h : DE K M te σ H (enc t)) (hf : fr t = true) (hc : cnt t ≤ 40) (hd : dep t ≤ L) : Evl.EvL (tCall (spWords K L) [] E (tCons te tNil)) σ H ((lw t).map fun y => V.str (S y)) := fun H1 e Q q =>
  h H1 e _ fun v H2 e2 hv => ⟨M, t, v, rfl, hM.ex (e.trans e2), hv, hf, hc, hd, fun p H3 n e3 h3 => q p H3 (Evl.fresh_back e2 n) (e2.trans e3) h3⟩
theorem ev_dg {σ : L2.St} {H : Hp} {te : TE} {E : XK} {n : Int} (h : Evl.Ev te σ H (.int n)) (hn : n.natAbs ≤ 10 ^ 30) : Evl.Ev (tCall spDg [] E (tCons te tNil)) σ H (.str (S (dg n.natAbs))) := fun H1 e Q q =>
  h H1 e _ fun H2 e2 => ⟨n, rfl, hn, fun H3 e3 => q H3 (e2.trans e3)⟩
theorem ev_intB {σ : L2.St} {H : Hp} {te : TE} {b : Bool} (h : Evl.Ev te σ H (.bl b)) : Evl.Ev (tCB (fun xs H Q => (∃ i, xs = [V.int i] ∧ Q (V.int i) H) ∨ ∃ k, xs = [V.bl k] ∧ Q (V.int (if k = true then 1 else 0)) H) (tCons te tNil)) σ H (.int (if b = true then 1 else 0)) := fun H1 e Q q =>
  h H1 e _ fun H2 e2 => .inr ⟨b, rfl, q H2 e2⟩
def wsV (ws : List (List Nat)) : List V := ws.map fun y => V.str (S y)
theorem q_optL {t : TT} {te : TE} {tz : TS} {D : Ends} {σ : L2.St} {H : Hp} {i : Nat} {p : Addr} {xs ys : List V} {b : Bool} (hs : σ.set i (some (.ref p)) = σ) (hp : H p = some (.lst xs)) (ht : Evl.EvT t σ H b) (hl : b = true → Evl.EvL te σ H ys) (k : ∀ p2 H1, Evl.Ex H H1 → H1 p2 = some (.lst (if b = true then ys else xs)) → tz D (σ.set i (some (.ref p2))) H1) : tSeq (tIfS t (tAsg te (gName i)) tNext) tz D σ H :=
  Evl.q_when ht (fun hb H1 e1 => hl hb H1 e1 _ fun p2 H2 n e2 h2 => k p2 H2 (e1.trans e2) (by rw [if_pos hb]; exact h2)) (fun hb H1 e1 => by
    have := k p H1 e1 (by rw [if_neg (by rw [hb]; decide)]; exact e1 _ _ hp)
    rw [hs] at this
    exact this)
def hdwW : Hd → List (List Nat)
  | .least => [leastc, [40]]
  | .most => [mostc, [40]]
  | .rank k => [rankc, [32], dg k, [40]]
theorem lw_node (h : Hd) (ps : List Trm) : lw (.node h ps) = hdwW h ++ (lws ps ++ [[41]]) := by
  cases h <;> rfl
section
variable {P : Program} {w : World} {K : PySem.W.Frag} {mg : Str → Option Value} {base : Heap}
theorem ok__law_words (T : Top K mg) : ∀ L : Nat, FnOk P w K mg base CX0 (L + 1) T._law_words.f T._law_words.fd ["term"] (spWords K L)
  | 0 => by
    have no : ∀ vs H Q E, ¬ spWords K 0 vs H Q E := fun vs H Q E h => by
      obtain ⟨_, t, _, _, _, _, _, _, h, _⟩ := h
      have := dep_pos t
      omega
    exact ⟨fun vs H Q E h => absurd h (no vs H Q E), fun A outer s H args us vs Q E _ _ _ _ h => absurd h (no vs H Q E)⟩
  | L + 1 => by
    have IH := ok__law_words T L
    refine T._law_words.F.ok sc__law_words (fun vs H Q E h => ?_) (fun cdv A outer s H vs Q E hr h => ?_)
    · obtain ⟨_, _, _, rfl, _⟩ := h
      rfl
    obtain ⟨M, t, v, rfl, hM, hd, hf, hc, hdp, q⟩ := h
    refine ⟨_, (pss_cons (ps_if (pt_cmpR op_eq (pe_ix ix_tup (pv 0) pe_int (fun _ _ => rfl)) pe_str (nomark _)) (pss_one (ps_ret (pe_op op_cat (pe_op op_rep (pe_lst (pa_cons pe_str pa_nil)) (pe_callTy call_int1 (by rfl) T.n_int (by decide +kernel) (pa_cons (pe_cmpR op_lt (pe_ix ix_tup (pv 0) pe_int (fun _ _ => rfl)) pe_int (nomark _)) pa_nil))) (pe_lst (pa_cons (pe_call (ok__law_digits T) (hr.mono (by omega)) (by rfl) T._law_digits.g T._law_digits.F.kp T._law_digits.b .nil pass0 (pa_cons (pe_ix ix_tup (pv 0) pe_int (fun _ _ => rfl)) pa_nil)) pa_nil))))) pss_nil)
      (pss_cons (ps_if (pt_cmpR op_eq (pe_ix ix_tup (pv 0) pe_int (fun _ _ => rfl)) pe_str (nomark _)) (pss_cons (ps_set (i := 1) sc__law_words.nd rfl (Or.inl rfl) (pe_ix ix_str pe_str (pe_ix ix_tup (pv 0) pe_int (fun _ _ => rfl)) (fun _ _ => rfl)))
      (pss_cons (ps_if (pt_cmpR op_eq (pe_ix ix_tup (pv 0) pe_int (fun _ _ => rfl)) pe_int (nomark _)) (pss_one (ps_ret (pe_lst (pa_cons (pv 1) pa_nil)))) pss_nil)
      (pss_one (ps_ret (pe_lst (pa_cons (pv 1) (pa_cons pe_str (pa_cons (pe_ix ix_list (pe_lst (pa_cons pe_str (pa_cons pe_str pa_nil))) (pe_callTy call_int1 (by rfl) T.n_int (by decide +kernel) (pa_cons (pe_cmpR op_gt (pe_ix ix_tup (pv 0) pe_int (fun _ _ => rfl)) pe_int (nomark _)) pa_nil)) (fun _ _ => rfl)) (pa_cons pe_str (pa_cons (pe_call (ok__law_digits T) (hr.mono (by omega)) (by rfl) T._law_digits.g T._law_digits.F.kp T._law_digits.b .nil pass0 (pa_cons (pe_ix ix_tup (pv 0) pe_int (fun _ _ => rfl)) pa_nil)) pa_nil)))))))))) pss_nil)
      (pss_cons (ps_set (i := 2) sc__law_words.nd rfl (Or.inl rfl) (pe_lst (pa_cons (pe_ix ix_tup (pv 0) pe_int (fun _ _ => rfl)) (pa_cons pe_str pa_nil))))
      (pss_cons (ps_if (pt_cmpR op_eq (pe_ix ix_tup (pv 0) pe_int (fun _ _ => rfl)) pe_str (nomark _)) (pss_one (ps_set (i := 2) sc__law_words.nd rfl (Or.inl rfl) (pe_lst (pa_cons pe_str (pa_cons pe_str (pa_cons (pe_call (ok__law_digits T) (hr.mono (by omega)) (by rfl) T._law_digits.g T._law_digits.F.kp T._law_digits.b .nil pass0 (pa_cons (pe_ix ix_tup (pv 0) pe_int (fun _ _ => rfl)) pa_nil)) (pa_cons pe_str pa_nil))))))) pss_nil)
      (pss_cons (ps_for PassesOwn.never rfl (pi_range1 (by rfl) T.n_range (pa_cons (pe_callB (r := Evl.rLenS K) call_len_seq (by rfl) T.n_len PySem.boot_len (pa_cons (pe_ix ix_tup (pv 0) (pe_un un_neg pe_int) (fun _ _ => rfl)) pa_nil)) pa_nil)) (pg_name (i := 3) sc__law_words.nd rfl (Or.inl rfl)) (pss_cons (ps_if (pt_cmpR op_gt (pv 3) pe_int (nomark _)) (pss_one (ps_set (i := 2) sc__law_words.nd rfl (Or.inl rfl) (pe_op op_cat (pv 2) (pe_lst (pa_cons pe_str (pa_cons pe_str pa_nil)))))) pss_nil)
      (pss_one (ps_set (i := 2) sc__law_words.nd rfl (Or.inl rfl) (pe_op op_cat (pv 2) (pe_call (IH) (hr.mono (by omega)) (by rfl) T._law_words.g T._law_words.F.kp T._law_words.b .nil pass0 (pa_cons (pe_ix ix_tup (pe_ix ix_tup (pv 0) (pe_un un_neg pe_int) (fun _ _ => rfl)) (pv 3) (fun _ _ => rfl)) pa_nil)))))))
      (pss_one (ps_ret (pe_op op_cat (pv 2) (pe_lst (pa_cons pe_str pa_nil)))))))))), ?_⟩
    have hd1 : Dm K M H v (.tuple (encL t)) := by
      rw [← enc_eq]
      exact hd
    match t, hd, hd1, q, hf, hc, hdp with
    | .plain n, hd, hd1, q, hf, hc, hdp =>
      simp only [TM.fr, form] at hf
      refine Evl.q_when (b := true) (Evl.et_is (Evl.et_test (Evl.ev_op (ev_word (Evl.ev_var (by rfl)) hd) Evl.ev_c (Evl.rv_eq rfl))) rfl) (fun _ H1 e1 => ?_) (fun hb => nomatch hb)
      have hd2 := dm_ex e1 hd1
      have hn : Evl.Ev (tOp (rIxT K) (tVar 0) (tC (.int 1))) (L2.start ["term", "name", "found", "at"] [v]) H1 (.int n) := ev_sc (de_ixT (de_v hd2 (by rfl)) Evl.ev_c (d := .int n) rfl) rfl
      refine Evl.s_retL (el_catW (el_repW (xs := [.str (S [45])]) (Evl.el_lst (Evl.ea_cons (Evl.ev_is Evl.ev_c (by decide +kernel)) Evl.ea_nil) (by simp)) (ev_intB (Evl.ev_op hn Evl.ev_c Evl.rv_I0)) (by split <;> decide) (by split <;> decide) (by split <;> decide))
        (Evl.el_lst (Evl.ea_cons (ev_dg hn (num_abs hf)) Evl.ea_nil) (by simp)) (by split <;> simp)) fun p H2 n2 e2 h2 => q p H2 (Evl.fresh_back e1 n2) (e1.trans e2) ?_
      rw [h2]
      simp only [lw]
      by_cases h0 : n < 0
      · simp [h0]
      · simp [h0]
    | .price sh a, hd, hd1, q, hf, hc, hdp =>
      simp only [TM.fr, form, Bool.and_eq_true, decide_eq_true_eq] at hf
      refine Evl.q_when (b := false) (Evl.et_is (Evl.et_test (Evl.ev_op (ev_word (Evl.ev_var (by rfl)) hd) Evl.ev_c (Evl.rv_eq rfl))) rfl) (fun hb => nomatch hb) (fun _ H1 e1 => ?_)
      have hd2 := dm_ex e1 hd1
      refine Evl.q_when (b := true) (Evl.et_is (Evl.et_test (Evl.ev_op (ev_word (Evl.ev_var (by rfl)) (dm_ex e1 hd)) Evl.ev_c (Evl.rv_eq rfl))) rfl) (fun _ H2 e2 => ?_) (fun hb => nomatch hb)
      have hd3 := dm_ex e2 hd2
      refine Evl.q_asg (v := .str (S [97 + sh])) (ev_ixS (z := [97, 98, 99, 100, 101, 102]) (Evl.ev_is Evl.ev_c (by decide +kernel)) (ev_sc (de_ixT (de_v hd3 (by rfl)) Evl.ev_c (d := .int sh) rfl) rfl) (by decide) (shopAt (by omega))) fun H3 e3 => ?_
      have hd4 := dm_ex e3 hd3
      have ha : ∀ {H5 : Hp}, Evl.Ex H3 H5 → Evl.Ev (tOp (rIxT K) (tVar 0) (tC (.int 2))) [some v, some (.str (S [97 + sh])), none, none] H5 (.int a) := fun e => ev_sc (de_ixT (de_v (dm_ex e hd4) (by rfl)) Evl.ev_c (d := .int a) rfl) rfl
      have e13 := (e1.trans e2).trans e3
      refine Evl.q_when (b := decide (V.int a = V.int 0)) (Evl.et_test (Evl.ev_op (ha (Evl.Ex.refl _)) Evl.ev_c (Evl.rv_eq rfl))) (fun hb H4 e4 => ?_) (fun hb H4 e4 => ?_)
      · have h0 : a = 0 := V.int.inj (of_decide_eq_true hb)
        refine Evl.s_retL (Evl.el_lst (Evl.ea_cons (Evl.ev_var (by rfl)) Evl.ea_nil) (by simp)) fun p H5 n5 e5 h5 => q p H5 (Evl.fresh_back (e13.trans e4) n5) ((e13.trans e4).trans e5) ?_
        rw [h5]
        simp only [lw]
        rw [if_pos h0]
        rfl
      · have h0 : a ≠ 0 := fun z => of_decide_eq_false hb (by rw [z])
        have hsg : atI [V.str (S [45]), V.str (S [43])] (if (decide ((0 : Int) < a)) = true then 1 else 0) = some (.str (S [if a > 0 then 43 else 45])) := by
          by_cases hp : a > 0
          · have : decide ((0 : Int) < a) = true := decide_eq_true hp
            rw [this, if_pos rfl, if_pos hp]
            rfl
          · have : decide ((0 : Int) < a) = false := decide_eq_false hp
            rw [this, if_neg (by decide), if_neg hp]
            rfl
        refine Evl.s_retL (Evl.el_lst (Evl.ea_cons (Evl.ev_var (by rfl)) (Evl.ea_cons (Evl.ev_is (w := .str (S [32])) Evl.ev_c (by decide +kernel)) (Evl.ea_cons (ev_ixNew (xs := [V.str (S [45]), V.str (S [43])]) (Evl.el_lst (Evl.ea_cons (Evl.ev_is Evl.ev_c (by decide +kernel)) (Evl.ea_cons (Evl.ev_is Evl.ev_c (by decide +kernel)) Evl.ea_nil)) (by simp)) (ev_intB (Evl.ev_op (ha e4) Evl.ev_c Evl.rv_I0)) hsg)
          (Evl.ea_cons (Evl.ev_is (w := .str (S [32])) Evl.ev_c (by decide +kernel)) (Evl.ea_cons (ev_dg (ha e4) (num_abs hf.2)) Evl.ea_nil))))) (by simp)) fun p H5 n5 e5 h5 => q p H5 (Evl.fresh_back (e13.trans e4) n5) ((e13.trans e4).trans e5) ?_
        rw [h5]
        simp only [lw]
        rw [if_neg h0]
        rfl
    | .node hh ps, hd, hd1, q, hf, hc, hdp =>
      have hff := (fr_iff (.node hh ps)).mp hf
      have kl := form_kids hff.1
      simp only [kids] at kl
      have hcn : cnts ps ≤ 40 := by simp only [TM.cnt] at hc; omega
      have hwl := lws_len ps
      have hwn : word (.node hh ps) ≠ "price" ∧ word (.node hh ps) ≠ "plain" := by cases hh <;> (simp only [word]; decide +kernel)
      refine Evl.q_when (b := false) (Evl.et_is (Evl.et_test (Evl.ev_op (ev_word (Evl.ev_var (by rfl)) hd) Evl.ev_c (Evl.rv_eq rfl))) (decide_eq_false fun z => hwn.2 (V.str.inj z))) (fun hb => nomatch hb) (fun _ H1 e1 => ?_)
      refine Evl.q_when (b := false) (Evl.et_is (Evl.et_test (Evl.ev_op (ev_word (Evl.ev_var (by rfl)) (dm_ex e1 hd)) Evl.ev_c (Evl.rv_eq rfl))) (decide_eq_false fun z => hwn.1 (V.str.inj z))) (fun hb => nomatch hb) (fun _ H2 e2 => ?_)
      have e12 := e1.trans e2
      refine Evl.q_asgL (xs := [.str (word (.node hh ps)), .str (S [40])]) (Evl.el_lst (Evl.ea_cons (ev_word (Evl.ev_var (by rfl)) (dm_ex e12 hd)) (Evl.ea_cons (Evl.ev_is Evl.ev_c (by decide +kernel)) Evl.ea_nil)) (by simp)) fun p H3 n3 e3 h3 => ?_
      have e13 := e12.trans e3
      have hd3 := dm_ex e13 hd1
      have hM3 := hM.ex e13
      refine q_optL (b := decide (V.str (word (.node hh ps)) = V.str "rank")) (ys := wsV (hdwW hh)) rfl h3 (Evl.et_test (Evl.ev_op (ev_word (Evl.ev_var (by rfl)) (dm_ex e13 hd)) Evl.ev_c (Evl.rv_eq rfl))) (fun hb => ?_) fun p2 H4 e4 h4 => ?_
      · cases hh with
        | least => exact absurd (V.str.inj (of_decide_eq_true hb)) (by simp only [word]; decide +kernel)
        | most => exact absurd (V.str.inj (of_decide_eq_true hb)) (by simp only [word]; decide +kernel)
        | rank k =>
          have hk : k ≤ 6 := by
            have := hff.1
            simp only [form, Bool.and_eq_true, decide_eq_true_eq] at this
            omega
          exact Evl.el_lst (Evl.ea_cons (Evl.ev_is (w := .str (S rankc)) Evl.ev_c (by decide +kernel)) (Evl.ea_cons (Evl.ev_is (w := .str (S [32])) Evl.ev_c (by decide +kernel)) (Evl.ea_cons (ev_dg (n := (k : Int)) (ev_sc (de_ixT (de_v hd3 (by rfl)) Evl.ev_c (d := .int k) rfl) rfl) (by omega)) (Evl.ea_cons (Evl.ev_is (w := .str (S [40])) Evl.ev_c (by decide +kernel)) Evl.ea_nil)))) (by simp [wsV, hdwW])
      have h4' : H4 p2 = some (.lst (wsV (hdwW hh))) := by
        rw [h4]
        cases hh with
        | rank k => rw [if_pos (show decide (V.str (word (.node (.rank k) ps)) = V.str "rank") = true from decide_eq_true rfl)]
        | least =>
          rw [if_neg (fun z => absurd (V.str.inj (of_decide_eq_true z)) (by simp only [word]; decide +kernel))]
          congr 2
        | most =>
          rw [if_neg (fun z => absurd (V.str.inj (of_decide_eq_true z)) (by simp only [word]; decide +kernel))]
          congr 2
      clear h4 h3
      have e14 := e13.trans e4
      have hd4 := dm_ex e4 hd3
      have hM4 := hM.ex e14
      have hkids : atI (encL (.node hh ps)) (-1) = some (.tuple (ps.map enc)) := encL_kids rfl
      have hkD : ∀ {H5 : Hp} {y2 y3 : Option V}, Evl.Ex H4 H5 → DE K M (tOp (rIxT K) (tVar 0) (tUn (rU fun i => V.int (-i)) (tC (V.int 1)))) [some v, none, y2, y3] H5 (.tuple (ps.map enc)) := fun e => de_ixT (de_v (dm_ex e hd4) (by rfl)) (Evl.ev_un Evl.ev_c Evl.ru_neg) hkids
      have hlenh : (hdwW hh).length ≤ 4 := by cases hh <;> simp [hdwW]
      refine Evl.q_forR1 (n := (ps.length : Int)) (Evl.ea_cons (Evl.ev_is (ev_lenD (hkD (Evl.Ex.refl _)) (.inl rfl)) (by rw [List.length_map])) Evl.ea_nil) ⟨by omega, by omega⟩
        (fun i σ' H' => ∃ (p' : Addr) (y3 : Option V), σ' = [some v, none, some (.ref p'), y3] ∧ Evl.Ex H4 H' ∧ H' p' = some (.lst (wsV (hdwW hh) ++ wsV (lws (ps.take i)))))
        (fun H5 e5 => ⟨p2, none, rfl, e5, by rw [e5 _ _ h4']; simp [wsV, lws]⟩) (fun i σ' H' hi hW => ?_) (fun σ' H' hW => ?_)
      · obtain ⟨p', y3, rfl, e5, h5⟩ := hW
        have hi2 : i < ps.length := by omega
        have htk : ps.take (i + 1) = ps.take i ++ [ps[i]] := by
          rw [List.take_add_one, List.getElem?_eq_getElem hi2]
          rfl
        have hmem : ps[i] ∈ ps := List.getElem_mem hi2
        have hcnt : cnts (ps.take (i + 1)) ≤ 40 := by
          have : cnts ps = cnts (ps.take (i + 1)) + cnts (ps.drop (i + 1)) := by
            rw [← cnts_app, List.take_append_drop]
          omega
        have hlt := lws_len (ps.take (i + 1))
        have hls := lws_snoc (ps.take i) ps[i]
        rw [← htk] at hls
        have hl1 : (lws (ps.take i)).length ≤ (lws (ps.take (i + 1))).length := by
          rw [hls]
          split
          · rename_i h0
            rw [h0]
            simp [lws]
          · simp only [List.length_append]
            omega
        have hl2 : (lw ps[i]).length ≤ 280 := by
          have h1 := lw_len ps[i]
          have h2 := cnts_mem hmem
          omega
        refine q_optL (b := decide ((0 : Int) < (i : Int))) (ys := (wsV (hdwW hh) ++ wsV (lws (ps.take i))) ++ wsV [[44], [32]]) rfl h5 (Evl.et_test (Evl.ev_op (Evl.ev_var (by rfl)) Evl.ev_c Evl.rv_I0)) (fun _ => el_var (Evl.ev_var (by rfl)) h5 (Evl.el_lst (Evl.ea_cons (Evl.ev_is (w := .str (S [44])) Evl.ev_c (by decide +kernel)) (Evl.ea_cons (Evl.ev_is (w := .str (S [32])) Evl.ev_c (by decide +kernel)) Evl.ea_nil)) (by simp [wsV])) (by simp only [wsV, List.length_append, List.length_map, List.length_cons, List.length_nil]; omega)) fun p3 H6 e6 h6 => ?_
        have hlen6 : (if decide ((0 : Int) < (i : Int)) = true then (wsV (hdwW hh) ++ wsV (lws (ps.take i))) ++ wsV [[44], [32]] else wsV (hdwW hh) ++ wsV (lws (ps.take i))).length + ((lw ps[i]).map fun y => V.str (S y)).length ≤ 100000 := by
          cases hz : decide ((0 : Int) < (i : Int)) <;> simp [wsV] <;> omega
        refine el_var (Evl.ev_var (by rfl)) h6 (el_words (M := M) (hM4.ex (e5.trans e6)) (de_ixT (hkD (e5.trans e6)) (Evl.ev_var (by rfl)) (atI_nat (by rw [List.getElem?_map, List.getElem?_eq_getElem hi2]; rfl))) (hff.2 _ hmem) (by have := cnts_mem hmem; omega) (by have := dep_kids (t := .node hh ps) (u := ps[i]) hmem; omega)) hlen6 H6 (Evl.Ex.refl _) _ fun p4 H7 n7 e7 h7 => ?_
        refine ⟨p4, _, rfl, (e5.trans e6).trans e7, ?_⟩
        rw [h7, hls]
        cases i with
        | zero =>
          rw [if_neg (by decide), if_pos (by simp)]
          simp [wsV, lws]
        | succ i =>
          rw [if_pos (by simp), if_neg (by
            intro z
            have := congrArg List.length z
            rw [List.length_take] at this
            simp only [List.length_nil] at this
            omega)]
          simp [wsV]
      · obtain ⟨p', y3, rfl, e5, h5⟩ := hW
        rw [Int.toNat_natCast, List.take_length] at h5
        refine Evl.s_retL (el_var (Evl.ev_var (by rfl)) h5 (Evl.el_lst (Evl.ea_cons (Evl.ev_is (w := .str (S [41])) Evl.ev_c (by decide +kernel)) Evl.ea_nil) (by simp)) (by simp only [wsV, List.length_append, List.length_map, List.length_cons, List.length_nil]; omega)) fun p6 H8 n8 e8 h8 => q p6 H8 (Evl.fresh_back (e14.trans e5) n8) ((e14.trans e5).trans e8) ?_
        rw [h8, lw_node]
        simp [wsV]
end
end K03

set_option Elab.async false
set_option linter.all false
set_option maxRecDepth 100000
set_option maxHeartbeats 4000000
namespace K03
open PySem PySem.Spec PyProof.Rows L2 DK DD TM TX SX RD
/-- a word of its own -/
def okW (w : List Nat) : Prop := w ≠ [32] → ∃ c w', w = c :: w' ∧ c ≠ 32
theorem okW_dg (m : Nat) : okW (dg m) := fun _ => by
  obtain ⟨c, d, e, hc⟩ := dg_head m
  refine ⟨c, d, e, fun z => ?_⟩
  subst z
  revert hc
  decide
theorem okW_one {c : Nat} (h : c ≠ 32) {w : List Nat} : okW (c :: w) := fun _ => ⟨c, w, rfl, h⟩
mutual
theorem lw_ok : ∀ t : Trm, ∀ w ∈ lw t, okW w
  | .price s a => by
    simp only [lw]
    split
    · intro w hw
      rw [List.mem_singleton.mp hw]
      exact okW_one (by omega)
    · intro w hw
      simp only [List.mem_cons, List.not_mem_nil, or_false] at hw
      rcases hw with rfl | rfl | rfl | rfl | rfl
      · exact okW_one (by omega)
      · exact fun h => absurd rfl h
      · exact okW_one (by split <;> decide)
      · exact fun h => absurd rfl h
      · exact okW_dg _
  | .plain n => by
    simp only [lw]
    intro w hw
    rcases List.mem_append.mp hw with hw | hw
    · split at hw
      · rw [List.mem_singleton.mp hw]
        exact okW_one (by decide)
      · cases hw
    · rw [List.mem_singleton.mp hw]
      exact okW_dg _
  | .node h ps => by
    rw [lw_node]
    intro w hw
    rcases List.mem_append.mp hw with hw | hw
    · cases h with
      | least =>
        simp only [hdwW, List.mem_cons, List.not_mem_nil, or_false] at hw
        rcases hw with rfl | rfl <;> exact okW_one (by decide)
      | most =>
        simp only [hdwW, List.mem_cons, List.not_mem_nil, or_false] at hw
        rcases hw with rfl | rfl <;> exact okW_one (by decide)
      | rank k =>
        simp only [hdwW, List.mem_cons, List.not_mem_nil, or_false] at hw
        rcases hw with rfl | rfl | rfl | rfl
        · exact okW_one (by decide)
        · exact fun h => absurd rfl h
        · exact okW_dg _
        · exact okW_one (by decide)
    · rcases List.mem_append.mp hw with hw | hw
      · exact lws_ok ps w hw
      · rw [List.mem_singleton.mp hw]
        exact okW_one (by decide)
theorem lws_ok : ∀ ts : List Trm, ∀ w ∈ lws ts, okW w
  | [] => fun w hw => by simp [lws] at hw
  | [t] => fun w hw => by
    simp only [lws] at hw
    exact lw_ok t w hw
  | t :: u :: ts => fun w hw => by
    simp only [lws] at hw
    rcases List.mem_append.mp hw with hw | hw
    · exact lw_ok t w hw
    · rcases List.mem_append.mp hw with hw | hw
      · simp only [List.mem_cons, List.not_mem_nil, or_false] at hw
        rcases hw with rfl | rfl
        · exact okW_one (by decide)
        · exact fun h => absurd rfl h
      · exact lws_ok (u :: ts) w hw
end
abbrev nb (ws : List (List Nat)) : List (List Nat) := ws.filter fun y => decide (y ≠ [32])
theorem lo_flat : ∀ {ws : List (List Nat)}, (∀ w ∈ ws, okW w) → Lo (nb ws) ws.flatten
  | [], _ => rfl
  | w :: ws, h => by
    have ih := lo_flat (ws := ws) fun x hx => h x (List.mem_cons_of_mem _ hx)
    by_cases hb : w = [32]
    · subst hb
      show Lo (nb ([32] :: ws)) (List.replicate 1 32 ++ ws.flatten)
      have : nb ([32] :: ws) = nb ws := by simp [nb]
      rw [this]
      exact lo_blank 1 ih
    · obtain ⟨c, w', rfl, hc⟩ := h w (by simp) hb
      have : nb ((c :: w') :: ws) = (c :: w') :: nb ws := by
        exact List.filter_cons_of_pos (p := fun y => decide (y ≠ [32])) (decide_eq_true hb)
      rw [this, List.flatten_cons]
      exact lo_word hc ih
theorem nb_ok {ws : List (List Nat)} (h : ∀ w ∈ ws, okW w) : ∀ w ∈ nb ws, w ≠ [] := fun w hw => by
  obtain ⟨h1, h2⟩ := List.mem_filter.mp hw
  obtain ⟨c, w', rfl, _⟩ := h w h1 (by simpa using h2)
  simp
theorem nb_app (a b : List (List Nat)) : nb (a ++ b) = nb a ++ nb b := List.filter_append _ _
theorem nb_keep {w : List Nat} {ws : List (List Nat)} (h : w ≠ [32]) : nb (w :: ws) = w :: nb ws := List.filter_cons_of_pos (p := fun y => decide (y ≠ [32])) (decide_eq_true h)
theorem nb_sp {ws : List (List Nat)} : nb ([32] :: ws) = nb ws := List.filter_cons_of_neg (p := fun y => decide (y ≠ [32])) (by simp)
theorem nb_nil : nb [] = [] := rfl
theorem dg_ne32 (m : Nat) : dg m ≠ [32] := fun z => by
  have := dg_digs m 32 (by rw [z]; simp)
  revert this
  decide
theorem one_ne32 {c : Nat} (h : c ≠ 32) : [c] ≠ [32] := fun z => h (by simpa using z)
theorem stop44 (W : List (List Nat)) : stop ([44] :: W) := .inr ⟨W, .inl rfl⟩
theorem stop41 (W : List (List Nat)) : stop ([41] :: W) := .inr ⟨W, .inr rfl⟩
theorem cons_app (a b : List (List Nat)) : a ++ b = a ++ b := rfl
mutual
theorem pend_lw : ∀ (t : Trm), fr t = true → ∀ (pl : Pl) (W : List (List Nat)) (r : Trm), stop W → Clo pl t W r → Pend pl (nb (lw t) ++ W) r
  | .price s a, hf, pl, W, r, hs, hC => by
    simp only [TM.fr, form, Bool.and_eq_true, decide_eq_true_eq] at hf
    have hna := num_abs hf.2
    refine Pend.leaf (u := .price s a) rfl ?_ hC
    simp only [lw]
    by_cases h0 : a = 0
    · subst h0
      rw [if_pos rfl, nb_keep (one_ne32 (by omega)), nb_nil]
      exact Start.price (by omega) (.zero W hs)
    · rw [if_neg h0, nb_keep (one_ne32 (by omega)), nb_sp, nb_keep (one_ne32 (by split <;> decide)), nb_sp, nb_keep (dg_ne32 _), nb_nil]
      refine Start.price (by omega) ?_
      by_cases hp : a > 0
      · rw [if_pos hp]
        have := Adn.pos a.natAbs W hna hs
        rw [show ((a.natAbs : Nat) : Int) = a by omega] at this
        exact this
      · rw [if_neg hp]
        have := Adn.neg a.natAbs W hna hs
        rw [show -((a.natAbs : Nat) : Int) = a by omega] at this
        exact this
  | .plain n, hf, pl, W, r, hs, hC => by
    simp only [TM.fr, form] at hf
    have hna := num_abs hf
    refine Pend.leaf (u := .plain n) rfl (Start.plain ?_) hC
    simp only [lw]
    by_cases h0 : n < 0
    · rw [if_pos h0]
      show Sgn n (nb ([45] :: [dg n.natAbs]) ++ W) W
      rw [nb_keep (by decide), nb_keep (dg_ne32 _), nb_nil]
      have := Sgn.neg n.natAbs W hna hs
      rw [show -((n.natAbs : Nat) : Int) = n by omega] at this
      exact this
    · rw [if_neg h0]
      show Sgn n (nb [dg n.natAbs] ++ W) W
      rw [nb_keep (dg_ne32 _), nb_nil]
      have := Sgn.pos n.natAbs W hna hs
      rw [show ((n.natAbs : Nat) : Int) = n by omega] at this
      exact this
  | .node h ps, hf, pl, W, r, hs, hC => by
    have hff := (fr_iff (.node h ps)).mp hf
    have hne : ps ≠ [] := fun z => by
      subst z
      have := hff.1
      cases h <;> simp [form] at this
    have ih := pend_lws ps hne (TM.frs_iff.mpr hff.2) h [] pl W r hC
    rw [lw_node, nb_app, nb_app, List.append_assoc, List.append_assoc]
    refine Pend.node (h := h) ?_ ih
    have e41 : nb [[41]] ++ W = [41] :: W := rfl
    rw [e41]
    cases h with
    | least => exact .least _
    | most => exact .most _
    | rank k =>
      have hk : k ≤ 6 := by
        have := hff.1
        simp only [form, Bool.and_eq_true, decide_eq_true_eq] at this
        omega
      show Start _ (nb ([114, 97, 110, 107] :: [32] :: dg k :: [40] :: []) ++ _) _
      rw [nb_keep (by decide), nb_sp, nb_keep (dg_ne32 _), nb_keep (by decide), nb_nil]
      exact .rank _ (by omega)
theorem pend_lws : ∀ (ps : List Trm), ps ≠ [] → frs ps = true → ∀ (h : Hd) (done : List Trm) (pl : Pl) (W : List (List Nat)) (r : Trm), Clo pl (.node h (done ++ ps)) W r → Pend ((h, done) :: pl) (nb (lws ps) ++ ([41] :: W)) r
  | [], ne, _, _, _, _, _, _, _ => absurd rfl ne
  | [t], _, hf, h, done, pl, W, r, hC => by
    simp only [TM.frs, Bool.and_eq_true] at hf
    simp only [lws]
    exact pend_lw t hf.1 _ _ r (stop41 W) (.close hC)
  | t :: u :: ts, _, hf, h, done, pl, W, r, hC => by
    have hf' := hf
    simp only [TM.frs, Bool.and_eq_true] at hf
    have ih := pend_lws (u :: ts) (by simp) (by simp only [TM.frs, Bool.and_eq_true]; exact hf.2) h (done ++ [t]) pl W r (by rw [List.append_assoc]; exact hC)
    simp only [lws]
    rw [nb_app, nb_app, List.append_assoc, List.append_assoc]
    exact pend_lw t hf.1 _ _ r (stop44 _) (.comma ih)
end
mutual
theorem lay_enc : ∀ t : Trm, PyData.canLay0 (enc t) = true ∧ (enc t).depth ≤ 2 * dep t
  | .price s a => by
    simp only [enc, PyData.canLay0, PyData.canLayAll0, PyData.depth, PyData.depthAll, TM.dep]
    exact ⟨by decide +kernel, by decide⟩
  | .plain n => by
    simp only [enc, PyData.canLay0, PyData.canLayAll0, PyData.depth, PyData.depthAll, TM.dep]
    exact ⟨by decide +kernel, by decide⟩
  | .node .least ps => by
    obtain ⟨h1, h2⟩ := lay_encs ps
    simp only [enc, PyData.canLay0, PyData.canLayAll0, PyData.depth, PyData.depthAll, TM.dep, h1]
    exact ⟨by decide +kernel, by omega⟩
  | .node .most ps => by
    obtain ⟨h1, h2⟩ := lay_encs ps
    simp only [enc, PyData.canLay0, PyData.canLayAll0, PyData.depth, PyData.depthAll, TM.dep, h1]
    exact ⟨by decide +kernel, by omega⟩
  | .node (.rank k) ps => by
    obtain ⟨h1, h2⟩ := lay_encs ps
    simp only [enc, PyData.canLay0, PyData.canLayAll0, PyData.depth, PyData.depthAll, TM.dep, h1]
    exact ⟨by decide +kernel, by omega⟩
theorem lay_encs : ∀ ts : List Trm, PyData.canLayAll0 (encs ts) = true ∧ PyData.depthAll (encs ts) ≤ 2 * deps ts
  | [] => by simp [encs, PyData.canLayAll0, PyData.depthAll]
  | t :: ts => by
    obtain ⟨h1, h2⟩ := lay_enc t
    obtain ⟨h3, h4⟩ := lay_encs ts
    simp only [encs, PyData.canLayAll0, PyData.depthAll, h1, h3, deps]
    exact ⟨rfl, by omega⟩
end
theorem shaped_enc {t : Trm} (h : dep t ≤ 6) : SeqAt.shaped (enc t) = true := by
  obtain ⟨h1, h2⟩ := lay_enc t
  unfold SeqAt.shaped
  rw [h1, decide_eq_true (by omega)]
  rfl
/-- what read_term reads -/
theorem pend_all {t : Trm} (h : fr t = true) : Pend [] (nb (lw t)) t := by
  have := pend_lw t h [] [] t (.inl rfl) (.done t)
  rw [List.append_nil] at this
  exact this
theorem nb_len (ws : List (List Nat)) : (nb ws).length ≤ ws.length := List.length_filter_le _ _
theorem nb_nb (ws : List (List Nat)) : nb (nb ws) = nb ws := by simp [nb, List.filter_filter]
theorem nb_flen : ∀ ws : List (List Nat), (nb ws).flatten.length ≤ ws.flatten.length
  | [] => by simp [nb]
  | w :: ws => by
    have := nb_flen ws
    by_cases h : w = [32]
    · rw [h, nb_sp]
      simp only [List.flatten_cons, List.length_append]
      omega
    · rw [nb_keep h]
      simp only [List.flatten_cons, List.length_append]
      omega
end K03

set_option Elab.async false
set_option linter.all false
set_option maxRecDepth 100000
set_option maxHeartbeats 4000000
namespace K03
open PySem PySem.Spec PyProof.Rows L2 DK DD TM TX SX RD
section
variable {K : PySem.W.Frag} {M : List Addr} {σ : L2.St} {H H' : Hp} {ta tb te tx : TE} {E : XK}
theorem de_read {cs : List Nat} {W : List (List Nat)} {t : Trm} (hM : Dom M H) (h : Evl.Ev te σ H (.str (S cs))) (h9 : cs.length ≤ 90000) (hL : Lo W cs) (hne : ∀ w ∈ W, w ≠ []) (hP : Pend [] W t) (hW : W.length ≤ 50000) (hok : okT t) : DE K M (tCall (spRead K) [] E (tCons te tNil)) σ H (enc t) := fun H1 e Q q =>
  h H1 e _ fun H2 e2 => ⟨M, cs, W, t, rfl, h9, hM.ex (e.trans e2), hL, hne, hP, hW, hok, fun v H3 e3 hv => q v H3 (e2.trans e3) hv⟩
theorem ev_text {t : Trm} (hM : Dom M H) (h : DE K M te σ H (enc t)) (hok : okT t) : Evl.Ev (tCall (spText K) [] E (tCons te tNil)) σ H (.str (S (wrc t))) := fun H1 e Q q =>
  h H1 e _ fun v H2 e2 hv => ⟨M, t, v, rfl, hM.ex (e.trans e2), hv, hok, fun H3 e3 => q H3 (e2.trans e3)⟩
theorem et_neD {d : PyData} (ha : DE K M ta σ H d) (hb : DE K M tb σ H d) (sh : SeqAt.shaped d = true) : Evl.EvT (tTest (tOp (rNeD K) ta tb)) σ H false := fun H1 e Q q =>
  ha H1 e _ fun v1 H2 e2 d1 => hb H2 (e.trans e2) _ fun v2 H3 e3 d2 => rv_neS (dm_full (dm_ex e3 d1)) (dm_full d2) sh H3 (Evl.Ex.refl _) _ fun H4 e4 => ⟨false, rfl, q H4 ((e2.trans e3).trans e4)⟩
theorem lw_flen {t : Trm} (h : okT t) : (lw t).flatten.length ≤ 2400 := by
  rw [lw_flat]
  have := wrc_len t h.2.2
  have := h.1
  omega
theorem lw_l280 {t : Trm} (h : okT t) : (lw t).length ≤ 280 := by
  have := lw_len t
  have := h.1
  omega
theorem de_readW {ws : List (List Nat)} {t : Trm} (hM : Dom M H) (h : Evl.Ev te σ H (.str (S ws.flatten))) (hw : nb ws = nb (lw t)) (hws : ∀ w ∈ ws, okW w) (hl : ws.flatten.length ≤ 2400) (hok : okT t) : DE K M (tCall (spRead K) [] E (tCons te tNil)) σ H (enc t) :=
  de_read hM h (by omega) (lo_flat hws) (nb_ok hws) (by rw [hw]; exact pend_all hok.2.2) (by rw [hw]; have := nb_len (lw t); have := lw_l280 hok; omega) hok
/-- written and read -/
theorem et_pair {t : Trm} {E2 : XK} (hM : Dom M H) (hte : DE K M te σ H (enc t)) (htx : Evl.Ev tx σ H (.str (S (lw t).flatten))) (hok : okT t) : Evl.EvT (tOr (tTest (tOp rNe (tCall (spText K) [] E (tCons te tNil)) tx)) (tTest (tOp (rNeD K) (tCall (spRead K) [] E2 (tCons tx tNil)) te))) σ H false := by
  have hb : (!decide (V.str (S (wrc t)) = V.str (S (lw t).flatten)) || false) = false := by
    rw [lw_flat]
    simp
  refine Evl.et_is (Evl.et_or (Evl.et_test (Evl.ev_op (ev_text hM hte hok) htx (Evl.rv_ne rfl))) (fun _ => ?_)) hb
  exact et_neD (de_readW hM htx rfl (lw_ok t) (lw_flen hok) hok) hte (shaped_enc hok.2.1)
/-- a new list over a range -/
theorem dl_lcR {f : Nat → PyData} {tl : TA} {j n : Nat} {ws : List Nat} (hM : Dom M H) (h : Evl.EvA tl σ H [.int (n : Int)]) (hl : n ≤ 1000) (hw : ∀ x, wipe ((wipe σ ws).set j (some x)) ws = wipe σ ws)
    (he : ∀ i, i < n → ∀ H1 D, H D = none → Evl.Ex H H1 → Dom (D :: M) H1 → DE K (D :: M) te ((wipe σ ws).set j (some (.int (i : Int)))) H1 (f i)) : DL K M (tLc (iRng1 tl) (gName j) tYes te ws) σ H ((List.range n).map f) := fun H0 x0 Q q => h H0 x0 _ fun H1 x1 => by
  refine ⟨_, rfl, by omega, by omega, fun Dl hD => ?_⟩
  have hD0 : H0 Dl = none := Evl.fresh_back x1 hD
  have hDH : H Dl = none := Evl.fresh_back x0 hD0
  refine lc_range (lo := 0) (n := ((n : Int)).toNat) (fun i H' => Evl.Ex H1 H' ∧ ∃ acc, H' Dl = some (.lst acc) ∧ Dms K (Dl :: M) H' acc ((List.range i).map f)) ⟨Evl.Ex.new hD, [], upd_same, .nil⟩ (fun i H' hi p => ⟨hw _, ?_⟩) (fun H' p => ?_)
  · obtain ⟨p1, acc, p2, p3⟩ := p
    have hi' : i < n := by omega
    show te ((wipe σ ws).set j (some (.int (0 + (i : Int))))) H' _
    rw [Int.zero_add]
    have hdom : Dom (Dl :: M) H' := ((hM.ex (x0.trans x1)).ex p1).cons (by rw [p2]; exact fun z => nomatch z)
    refine he i hi' H' Dl hDH ((x0.trans x1).trans p1) hdom H' (Evl.Ex.refl _) _ fun w H2 x2 hw2 => ?_
    have eM : ExM (Dl :: M) H2 (upd H2 Dl (.lst (acc ++ [w]))) := ExM.mut (by simp)
    refine ⟨acc, x2 _ _ p2, Evl.sz_lt (by have := dpa_len p3; rw [List.length_map, List.length_range] at this; omega), (p1.trans x2).mut hD, acc ++ [w], upd_same, ?_⟩
    rw [List.range_succ, List.map_append]
    exact dpa_app (dms_exM eM (dms_ex x2 p3)) (.cons (dm_exM eM hw2) .nil)
  · obtain ⟨p1, acc, p2, p3⟩ := p
    rw [Int.toNat_natCast] at p3
    exact q Dl acc H' hD0 (x1.trans p1) p2 p3
/-- tuple(a new list) -/
theorem de_tupleL {ds : List PyData} (hM : Dom M H) (h : DL K M te σ H ds) : DE K M (tCB (fun xs H Q => ∃ p ys, xs = [.ref p] ∧ ((SqL K H p ys ∧ ∀ l, H l = none → Q (.ref l) (upd H l (.tup ys))) ∨ SqT K H p ys ∧ Q (.ref p) H)) (tCons te tNil)) σ H (.tuple ds) := fun H1 e Q q =>
  h H1 e _ fun p vs H2 n e2 hp hd => ⟨p, vs, rfl, .inl ⟨Evl.sq_of hp, fun l hl => q _ _ (e2.trans (Evl.Ex.new hl)) (.tup (Evl.st_of (mi_of ((hM.ex (e.trans e2)).nin hl) upd_same)) (dms_ex (Evl.Ex.new hl) (dms_less hd)))⟩⟩
/-- ''.join(words), words at p -/
theorem ev_joinV {p : Addr} {ws : List (List Nat)} (h : Evl.Ev tb σ H (.ref p)) (hp : H p = some (.lst (ws.map fun y => V.str (S y)))) (hl : (ws.map List.length).sum ≤ 1000000) :
    Evl.Ev (tM1 (fun x xs H Q => ∃ a p, ∃ ys : List Str, x = .str a ∧ xs = [.ref p] ∧ (SqL K H p (ys.map V.str) ∨ SqT K H p (ys.map V.str)) ∧ (ys.map (·.length)).sum + ys.length * a.length ≤ 16777216 ∧ Q (.str (PySem.Txt.join a ys)) H) (tC (.str "")) tb) σ H (.str (S ws.flatten)) := fun H1 e Q q =>
  ⟨⟨_, rfl⟩, h H1 e _ fun H2 e2 => ⟨S [], p, ws.map S, by rw [show S [] = Str.ofString "" by decide +kernel], rfl, .inl (Evl.sq_of (by rw [(e.trans e2) _ _ hp, List.map_map]; rfl)), by rw [SX.lens, S_len]; have e0 : (ws.map fun x => x.length).sum = (ws.map List.length).sum := rfl; simp only [List.length_nil, Nat.mul_zero]; omega, by
    rw [SX.join_S, joinL_nil]
    exact q H2 e2⟩⟩
theorem given_nb (ws : List (List Nat)) : Evl.given ws.length (fun i => !decide (V.str (S (ws.getD i [])) = V.str (Str.ofString " "))) (fun i => V.str (S (ws.getD i []))) = (nb ws).map fun y => V.str (S y) := by
  unfold Evl.given
  have e1 : (List.range ws.length).map (fun i => ws.getD i []) = ws := by
    refine List.ext_getElem (by simp) fun i h1 h2 => ?_
    simp [List.getD_eq_getElem?_getD, List.getElem?_eq_getElem h2]
  have e2 : nb ws = ((List.range ws.length).filter ((fun y => decide (y ≠ [32])) ∘ fun i => ws.getD i [])).map fun i => ws.getD i [] := by
    conv => lhs; rw [← e1]
    exact List.filter_map
  rw [e2, List.map_map]
  congr 1
  refine List.filter_congr fun i _ => ?_
  show (!decide (V.str (S (ws.getD i [])) = V.str (Str.ofString " "))) = decide (ws.getD i [] ≠ [32])
  by_cases h : ws.getD i [] = [32]
  · rw [h]
    decide +kernel
  · rw [S_ne (b := [32]) h (by decide +kernel), decide_eq_true h]
    rfl
theorem sum_flat (ws : List (List Nat)) : (ws.map List.length).sum = ws.flatten.length := by rw [List.length_flatten]
/-- ''.join([word for word in words if word != ' ']) -/
theorem ev_joinF {p : Addr} {ws : List (List Nat)} {j : Nat} {vs : List Nat} (h : Evl.Ev tb σ H (.ref p)) (hp : H p = some (.lst (ws.map fun y => V.str (S y)))) (hl : ws.flatten.length ≤ 100000) (hn : ws.length ≤ 1000) (hw : ∀ x, wipe ((wipe σ vs).set j (some x)) vs = wipe σ vs) (hj : ∀ x, ((wipe σ vs).set j (some x))[j]? = some (some x)) :
    Evl.Ev (tM1 (fun x xs H Q => ∃ a p, ∃ ys : List Str, x = .str a ∧ xs = [.ref p] ∧ (SqL K H p (ys.map V.str) ∨ SqT K H p (ys.map V.str)) ∧ (ys.map (·.length)).sum + ys.length * a.length ≤ 16777216 ∧ Q (.str (PySem.Txt.join a ys)) H) (tC (.str "")) (tLc (iList K tb) (gName j) (tTest (tOp rNe (tVar j) (tC (.str " ")))) (tVar j) vs)) σ H (.str (S (nb ws).flatten)) := fun H1 e Q q => by
  have hel := Evl.el_lcL (K := K) (σ := σ) (H := H) (te := tVar j) (t := tTest (tOp rNe (tVar j) (tC (.str " ")))) (tl := tb) (j := j) (vs := vs) (fun i => !decide (V.str (S (ws.getD i [])) = V.str (Str.ofString " "))) (fun i => V.str (S (ws.getD i []))) h (Evl.sq_of hp) (by rw [List.length_map]; omega) hw
    (fun i x H1 _ hx => by
      rw [List.getElem?_map] at hx
      cases hwi : ws[i]? with
      | none => rw [hwi] at hx; cases hx
      | some wd =>
        rw [hwi] at hx
        obtain rfl : V.str (S wd) = x := Option.some.inj hx
        have hg : ws.getD i [] = wd := by rw [List.getD_eq_getElem?_getD, hwi]; rfl
        rw [hg]
        exact Evl.et_test (Evl.ev_op (Evl.ev_var (hj _)) Evl.ev_c (Evl.rv_ne rfl)))
    (fun i x H1 _ hx _ => by
      rw [List.getElem?_map] at hx
      cases hwi : ws[i]? with
      | none => rw [hwi] at hx; cases hx
      | some wd =>
        rw [hwi] at hx
        obtain rfl : V.str (S wd) = x := Option.some.inj hx
        have hg : ws.getD i [] = wd := by rw [List.getD_eq_getElem?_getD, hwi]; rfl
        rw [hg]
        exact Evl.ev_var (hj _))
  rw [List.length_map, given_nb] at hel
  refine ⟨⟨_, rfl⟩, hel H1 e _ fun p2 H2 n2 e2 h2 => ⟨S [], p2, (nb ws).map S, by rw [show S [] = Str.ofString "" by decide +kernel], rfl, .inl (Evl.sq_of (by rw [h2, List.map_map]; rfl)), ?_, ?_⟩⟩
  · rw [SX.lens, S_len]
    have e0 : ((nb ws).map fun x => x.length).sum = ((nb ws).map List.length).sum := rfl
    have := nb_flen ws
    rw [e0, sum_flat]
    simp only [List.length_nil, Nat.mul_zero]
    omega
  · rw [SX.join_S, joinL_nil]
    exact q H2 e2
end
end K03

set_option Elab.async false
set_option linter.all false
set_option maxRecDepth 100000
set_option maxHeartbeats 4000000
namespace K03
open PySem PySem.Spec PyProof.Rows L2 DK DD TM TX SX RD
/-- law(script) -/
def spLaw (K : PySem.W.Frag) : Sp := fun vs H Q _ => ∃ (a : Addr) (ns : List Int), vs = [.ref a] ∧ SqL K H a (ns.map V.int) ∧ ns.length ≤ 63 ∧ ∀ H', Q (.bl true) H'
def six : List Trm := (List.range 6).map fun i => .price i 0
theorem ok_six (h : Hd) (hh : hdOk h 6) : okT (.node h six) := by
  cases h with
  | least => exact ⟨by decide +kernel, by decide +kernel, by decide +kernel⟩
  | most => exact ⟨by decide +kernel, by decide +kernel, by decide +kernel⟩
  | rank k =>
    simp only [hdOk] at hh
    have : k = 1 ∨ k = 2 ∨ k = 3 ∨ k = 4 ∨ k = 5 ∨ k = 6 := by omega
    rcases this with rfl | rfl | rfl | rfl | rfl | rfl <;> exact ⟨by decide +kernel, by decide +kernel, by decide +kernel⟩
theorem ev_catS {σ : L2.St} {H : Hp} {ta tb : TE} {x y : Str} (ha : Evl.Ev ta σ H (.str x)) (hb : Evl.Ev tb σ H (.str y)) (hl : x.length + y.length ≤ 100000) : Evl.Ev (tOp (fun x y H Q => ∃ i j, x = V.str i ∧ y = V.str j ∧ i.length + j.length ≤ PySem.sizeLine ∧ Q (V.str (i ++ j)) H) ta tb) σ H (.str (x ++ y)) := Evl.ev_op ha hb (fun H1 _ Q q => ⟨_, _, rfl, rfl, Evl.sz_of hl, q H1 (Evl.Ex.refl _)⟩)
abbrev prt : Str := "(a, b, c, d, e, f)"
theorem dom0 (H : Hp) : Dom [] H := fun m hm => by cases hm
section
variable {P : Program} {w : World} {K : PySem.W.Frag} {mg : Str → Option Value} {base : Heap}
theorem ok_law (T : Top K mg) : FnOk P w K mg base CX0 10 T.law.f T.law.fd ["script"] (spLaw K) := by
  refine T.law.F.ok sc_law (fun vs H Q E h => ?_) (fun cdv A outer s H vs Q E hr h => ?_)
  · obtain ⟨a, ns, rfl, _⟩ := h
    rfl
  obtain ⟨a, ns, rfl, hS, h63, q⟩ := h
  refine ⟨_, (pss_cons (ps_set (i := 1) sc_law.nd rfl (Or.inl rfl) (pe_call (ok__law_source T) (hr.mono (by omega)) (by rfl) T._law_source.g T._law_source.F.kp T._law_source.b .nil pass0 (pa_cons (pv 0) pa_nil)))
      (pss_cons (ps_for PassesOwn.never rfl (pi_range1 (by rfl) T.n_range (pa_cons pe_int pa_nil)) (pg_name (i := 2) sc_law.nd rfl (Or.inl rfl)) (pss_cons (ps_set (i := 3) sc_law.nd rfl (Or.inl rfl) (pe_call (ok__law_pick T) (hr.mono (by omega)) (by rfl) T._law_pick.g T._law_pick.F.kp T._law_pick.b .nil pass0 (pa_cons (pv 1) (pa_cons (pe_lst (pa_cons pe_int (pa_cons pe_int (pa_cons (pe_op op_powW pe_int pe_int) pa_nil)))) pa_nil))))
      (pss_cons (ps_set (i := 4) sc_law.nd rfl (Or.inl rfl) (pe_call (ok__law_term T 4) (hr.mono (by omega)) (by rfl) T._law_term.g T._law_term.F.kp T._law_term.b .nil pass0 (pa_cons (pv 1) (pa_cons (pe_op op_add pe_int (pe_call (ok__law_draw T) (hr.mono (by omega)) (by rfl) T._law_draw.g T._law_draw.F.kp T._law_draw.b .nil pass0 (pa_cons (pv 1) (pa_cons pe_int pa_nil)))) (pa_cons (pv 3) (pa_cons (pe_op op_add pe_int (pe_call (ok__law_draw T) (hr.mono (by omega)) (by rfl) T._law_draw.g T._law_draw.F.kp T._law_draw.b .nil pass0 (pa_cons (pv 1) (pa_cons pe_int pa_nil)))) pa_nil))))))
      (pss_cons (ps_set (i := 5) sc_law.nd rfl (Or.inl rfl) (pe_call (ok__law_words T 6) (hr.mono (by omega)) (by rfl) T._law_words.g T._law_words.F.kp T._law_words.b .nil pass0 (pa_cons (pv 4) pa_nil)))
      (pss_cons (ps_set (i := 6) sc_law.nd rfl (Or.inl rfl) (pe_join pe_str (pv 5)))
      (pss_cons (ps_if (PW.pt (pw_or (pt_cmpR op_ne (pe_call (ok_term_text T) (hr.mono (by omega)) (by rfl) T.term_text.g T.term_text.F.kp T.term_text.b .nil pass0 (pa_cons (pv 4) pa_nil)) (pv 6) (nomark _)) (pw_or1 (pt_cmpR (op_neD (hu64 hr)) (pe_call (ok_read_term T) (hr.mono (by omega)) (by rfl) T.read_term.g T.read_term.F.kp T.read_term.b .nil pass0 (pa_cons (pv 6) pa_nil)) (pv 4) (nomark _))))) (pss_one (ps_ret pe_bl)) pss_nil)
      (pss_cons (ps_for PassesOwn.never rfl (pi_range1 (by rfl) T.n_range (pa_cons pe_int pa_nil)) (pg_name (i := 7) sc_law.nd rfl (Or.inl rfl)) (pss_one (ps_if (pt_cmpR (op_neD (hu64 hr)) (pe_call (ok_read_term T) (hr.mono (by omega)) (by rfl) T.read_term.g T.read_term.F.kp T.read_term.b .nil pass0 (pa_cons (pe_call (ok__law_loose T) (hr.mono (by omega)) (by rfl) T._law_loose.g T._law_loose.F.kp T._law_loose.b .nil pass0 (pa_cons (pv 1) (pa_cons (pv 5) pa_nil))) pa_nil)) (pv 4) (nomark _)) (pss_one (ps_ret pe_bl)) pss_nil)))
      (pss_one (ps_if (pt_cmpR (op_neD (hu64 hr)) (pe_call (ok_read_term T) (hr.mono (by omega)) (by rfl) T.read_term.g T.read_term.F.kp T.read_term.b .nil pass0 (pa_cons (pe_join pe_str (pe_lc (own := [("word", 8)]) (g := gName 8) rfl sc_law.nd (pi_list (pv 5)) (blkOk_by (N := N_law) (sc := defScope s_law) (by decide +kernel)) (fun _ _ _ _ _ => (pg_name (i := 8) sc_law.nd rfl (Or.inl rfl))) (fun _ _ _ _ _ => pts_one (pt_cmpR op_ne (pv 8) pe_str (nomark _))) (fun _ _ _ _ _ => (pv 8)))) pa_nil)) (pv 4) (nomark _)) (pss_one (ps_ret pe_bl)) pss_nil)))))))))
      (pss_cons (ps_set (i := 9) sc_law.nd rfl (Or.inl rfl) (pe_callTy call_tuple_of (by rfl) T.n_tuple (by decide +kernel) (pa_cons (pe_lc (own := [("shop", 11)]) (g := gName 11) (tt := tYes) rfl sc_law.nd (pi_range1 (by rfl) T.n_range (pa_cons pe_int pa_nil)) (blkOk_by (N := N_law) (sc := defScope s_law) (by decide +kernel)) (fun _ _ _ _ _ => (pg_name (i := 11) sc_law.nd rfl (Or.inl rfl))) (fun _ _ _ _ _ => pts_nil) (fun _ _ _ _ _ => (pe_tup (pa_cons pe_str (pa_cons (pv 11) (pa_cons pe_int pa_nil)))))) pa_nil)))
      (pss_cons (ps_set (i := 10) sc_law.nd rfl (Or.inl rfl) pe_str)
      (pss_cons (ps_for PassesOwn.never rfl (pi_list (pe_lst (pa_cons pe_str (pa_cons pe_str pa_nil)))) (pg_name (i := 8) sc_law.nd rfl (Or.inl rfl)) (pss_one (ps_if (PW.pt (pw_or (pt_cmpR op_ne (pe_call (ok_term_text T) (hr.mono (by omega)) (by rfl) T.term_text.g T.term_text.F.kp T.term_text.b .nil pass0 (pa_cons (pe_tup (pa_cons (pv 8) (pa_cons (pv 9) pa_nil))) pa_nil)) (pe_op op_add_str (pv 8) (pv 10)) (nomark _)) (pw_or1 (pt_cmpR (op_neD (hu64 hr)) (pe_call (ok_read_term T) (hr.mono (by omega)) (by rfl) T.read_term.g T.read_term.F.kp T.read_term.b .nil pass0 (pa_cons (pe_op op_add_str (pv 8) (pv 10)) pa_nil)) (pe_tup (pa_cons (pv 8) (pa_cons (pv 9) pa_nil))) (nomark _))))) (pss_one (ps_ret pe_bl)) pss_nil)))
      (pss_cons (ps_for PassesOwn.never rfl (pi_range2 (by rfl) T.n_range (pa_cons pe_int (pa_cons pe_int pa_nil))) (pg_name (i := 7) sc_law.nd rfl (Or.inl rfl)) (pss_cons (ps_set (i := 6) sc_law.nd rfl (Or.inl rfl) (pe_op op_add_str (pe_op op_add_str pe_str (pe_callTy call_str_int (by rfl) T.n_str (by decide +kernel) (pa_cons (pv 7) pa_nil))) (pv 10)))
      (pss_one (ps_if (PW.pt (pw_or (pt_cmpR op_ne (pe_call (ok_term_text T) (hr.mono (by omega)) (by rfl) T.term_text.g T.term_text.F.kp T.term_text.b .nil pass0 (pa_cons (pe_tup (pa_cons pe_str (pa_cons (pv 7) (pa_cons (pv 9) pa_nil)))) pa_nil)) (pv 6) (nomark _)) (pw_or1 (pt_cmpR (op_neD (hu64 hr)) (pe_call (ok_read_term T) (hr.mono (by omega)) (by rfl) T.read_term.g T.read_term.F.kp T.read_term.b .nil pass0 (pa_cons (pv 6) pa_nil)) (pe_tup (pa_cons pe_str (pa_cons (pv 7) (pa_cons (pv 9) pa_nil)))) (nomark _))))) (pss_one (ps_ret pe_bl)) pss_nil))))
      (pss_cons (ps_if (PW.pt (pw_or (pt_cmpR (op_neD (hu64 hr)) (pe_call (ok_read_term T) (hr.mono (by omega)) (by rfl) T.read_term.g T.read_term.F.kp T.read_term.b .nil pass0 (pa_cons pe_str pa_nil)) (pe_tup (pa_cons pe_str (pa_cons pe_int (pa_cons pe_int pa_nil)))) (nomark _)) (pw_or1 (pt_cmpR (op_neD (hu64 hr)) (pe_call (ok_read_term T) (hr.mono (by omega)) (by rfl) T.read_term.g T.read_term.F.kp T.read_term.b .nil pass0 (pa_cons pe_str pa_nil)) (pe_tup (pa_cons pe_str (pa_cons pe_int pa_nil))) (nomark _))))) (pss_one (ps_ret pe_bl)) pss_nil)
      (pss_one (ps_ret (pe_cmpR op_eq (pe_call (ok_term_text T) (hr.mono (by omega)) (by rfl) T.term_text.g T.term_text.F.kp T.term_text.b .nil pass0 (pa_cons (pe_tup (pa_cons pe_str (pa_cons pe_int (pa_cons (pe_tup (pa_cons (pe_tup (pa_cons pe_str (pa_cons pe_int (pa_cons pe_int pa_nil)))) (pa_cons (pe_tup (pa_cons pe_str (pa_cons pe_int (pa_cons (pe_un un_neg pe_int) pa_nil)))) (pa_cons (pe_tup (pa_cons pe_str (pa_cons (pe_un un_neg pe_int) pa_nil))) pa_nil)))) pa_nil)))) pa_nil)) pe_str (nomark _))))))))))), ?_⟩
  -- source
  refine ⟨_, rfl, a, ns, rfl, hS, h63, fun s c H1 e1 _ _ S1 => ?_⟩
  dsimp only [L2.gName]
  refine Evl.q_forR1 (n := 40) (Evl.ea_cons Evl.ev_c Evl.ea_nil) ⟨by decide, by decide⟩
    (fun i σ' H' => ∃ y2 y3 y4 y5 y6 y7 y8 : Option V, σ' = [some (.ref a), some (.ref s), y2, y3, y4, y5, y6, y7, y8, none, none, none] ∧ Src H' s c (4000 * i))
    (fun H2 e2 => ⟨_, _, _, _, _, _, _, rfl, S1.ex1 e2⟩) (fun i σ' H' hi hW => ?_) (fun σ' H' hW => ?_)
  · obtain ⟨y2, y3, y4, y5, y6, y7, y8, rfl, S2⟩ := hW
    -- most
    refine ⟨_, rfl, 10, 30, rfl, rfl, ⟨by decide, by decide +kernel⟩, by simp; decide, fun p hp => ⟨s, c, p, _, _, rfl, S2.new hp, by omega, .inl (.inl upd_same), (S2.nes' hp).1, (S2.nes' hp).2, by simp, by simp, fun v H3 hv _ S3 => ?_⟩⟩
    obtain ⟨mo, rfl, mo1, mo30⟩ : ∃ z : Int, v = .int z ∧ 1 ≤ z ∧ z ≤ 10 ^ 30 := by
      simp only [List.mem_cons, List.not_mem_nil, or_false] at hv
      rcases hv with rfl | rfl | rfl
      · exact ⟨_, rfl, by decide, by decide⟩
      · exact ⟨_, rfl, by decide, by decide⟩
      · exact ⟨_, rfl, by decide +kernel, by decide +kernel⟩
    clear hv
    -- term
    refine ⟨_, rfl, _, rfl, s, c, _, 6, rfl, S3, by omega, by decide, by decide, fun d1 H4 d10 d16 _ S4 => ⟨_, _, rfl, rfl, _, rfl, _, rfl, s, c, _, 4, rfl, S4, by omega, by decide, by decide, fun d2 H5 d20 d24 _ S5 => ⟨_, _, rfl, rfl, ?_⟩⟩⟩
    obtain ⟨k2, rfl⟩ : ∃ k : Nat, d2 = (k : Int) := ⟨d2.toNat, by omega⟩
    have hc4 : cost (1 + k2) ≤ 1600 := by
      have : k2 = 0 ∨ k2 = 1 ∨ k2 = 2 ∨ k2 = 3 := by omega
      rcases this with rfl | rfl | rfl | rfl <;> decide
    have hM5 : Dom [s, c] H5 := by
      obtain ⟨_, ks, tt, g1, g2, _⟩ := S5
      intro m hm
      simp only [List.mem_cons, List.not_mem_nil, or_false] at hm
      rcases hm with rfl | rfl
      · rw [g1]
        exact fun z => nomatch z
      · rw [g2]
        exact fun z => nomatch z
    refine ⟨s, c, _, [s, c], 1 + d1, mo, 1 + k2, by rw [Int.natCast_add]; rfl, S5, by simp, by simp, hM5, by omega, by omega, by omega, by omega, by omega, mo1, mo30, fun v t H6 e6 S6 hd hG => ?_⟩
    have hok : okT t := hG.okT (by omega)
    have hM6 := hM5.exM e6 S6
    -- words
    refine ⟨_, rfl, [s, c], t, v, rfl, hM6, hd, hok.2.2, hok.1, hok.2.1, fun p H7 n7 e7 h7 => ?_⟩
    have hps := S6.nes' n7
    have S7 := S6.ex1 e7
    have hd7 := dm_ex e7 hd
    have hM7 := hM6.ex e7
    have hfl := lw_flen hok
    have hll := lw_l280 hok
    dsimp only [L2.gName]
    -- text
    refine Evl.q_asg (ev_joinV (Evl.ev_var (by rfl)) h7 (by rw [sum_flat]; omega)) fun H8 e8 => ?_
    have hd8 := dm_ex e8 hd7
    have hM8 := hM7.ex e8
    refine Evl.q_when (et_pair hM8 (de_v hd8 (by rfl)) (Evl.ev_var (by rfl)) hok) (fun hb => nomatch hb) fun _ H9 e9 => ?_
    have e79 := e8.trans e9
    have S9 := S7.ex1 e79
    have hd9 := dm_ex e79 hd7
    have hM9 := hM7.ex e79
    have h9p := e79 _ _ h7
    -- loose
    refine Evl.q_forR1 (n := 3) (Evl.ea_cons Evl.ev_c Evl.ea_nil) ⟨by decide, by decide⟩
      (fun j σ2 H' => ∃ y7 : Option V, σ2 = [some (.ref a), some (.ref s), some (.int i), some (.int mo), some v, some (.ref p), some (.str (S (lw t).flatten)), y7, y8, none, none, none] ∧ ExM [s, c] H9 H' ∧ Src H' s c (4000 * i + 1 + 1 + 1 + cost (1 + k2) + 300 * j))
      (fun H2 e2 => ⟨_, rfl, ExM.of e2, S9.ex1 e2⟩) (fun j σ2 H' hj hW => ?_) (fun σ2 H' hW => ?_)
    · obtain ⟨y7', rfl, eM, SX⟩ := hW
      have hdX := dm_exM eM hd9
      have hMX := hM9.exM eM SX
      refine ⟨_, rfl, _, rfl, s, c, p, _, lw t, rfl, SX, by omega, eM p _ (by simp [hps.1, hps.2]) h9p, hps.1, hps.2, fun w hw => lw_ok t w hw, by omega, fun H10 cs e10 S10 hLo hcs => ?_⟩
      have hM10 := hMX.exM e10 S10
      refine ⟨[s, c], cs, nb (lw t), t, rfl, hcs, hM10, hLo, nb_ok (lw_ok t), pend_all hok.2.2, by have := nb_len (lw t); omega, hok, fun v2 H11 e11 hd11 => ⟨_, rfl, ?_⟩⟩
      refine rv_neS (dm_full hd11) (dm_full (dm_ex e11 (dm_exM e10 hdX))) (shaped_enc hok.2.1) H11 (Evl.Ex.refl _) _ fun H12 e12 => ⟨false, rfl, ?_⟩
      dsimp only
      rw [if_neg (by decide)]
      exact ⟨_, rfl, (eM.trans e10).trans (ExM.of (e11.trans e12)), (S10.ex1 (e11.trans e12)).mono (by omega)⟩
    · obtain ⟨y7', rfl, eM, SX⟩ := hW
      have hdX := dm_exM eM hd9
      have hMX := hM9.exM eM SX
      have hpX := eM p _ (by simp [hps.1, hps.2]) h9p
      refine (et_neD (de_readW hMX (ev_joinF (Evl.ev_var (by rfl)) hpX (by omega) (by omega) (fun _ => rfl) (fun _ => rfl)) (nb_nb _) (fun w hw => lw_ok t w (List.mem_filter.mp hw).1) (by have := nb_flen (lw t); omega) hok) (de_v hdX (by rfl)) (shaped_enc hok.2.1)) H' (Evl.Ex.refl _) _ fun H10 e10 => ?_
      rw [if_neg (by decide)]
      exact ⟨_, _, _, _, _, _, _, rfl, (SX.ex1 e10).mono (by omega)⟩
  · obtain ⟨y2, y3, y4, y5, y6, y7, y8, rfl, S2⟩ := hW
    refine q_asgD (K := K) (M := []) (de_tupleL (dom0 _) (dl_lcR (n := 6) (f := fun i => enc (.price i 0)) (dom0 _) (Evl.ea_cons Evl.ev_c Evl.ea_nil) (by decide) (fun _ => rfl) (fun i hi H1 D _ _ hM1 => by
      rw [enc_eq]
      exact de_tup hM1 (da_cons (de_sc Evl.ev_c (d := .str "price") rfl) (da_cons (de_sc (Evl.ev_var (by rfl)) (d := .int i) rfl) (da_cons (de_sc Evl.ev_c (d := .int 0) rfl) da_nil))) (show 3 ≤ 1000 by decide)))) fun v6 H2 e2 h6 => ?_
    have h6' : Dm K [] H2 v6 (.tuple (six.map enc)) := by
      unfold six
      rw [List.map_map]
      exact h6
    clear h6
    refine Evl.q_asg Evl.ev_c fun H3 e3 => ?_
    have h63' := dm_ex e3 h6'
    -- least and most
    refine ⟨(show 2 ≤ PySem.sizeLine by decide), fun r hr => ⟨r, rfl, ⟨_, Evl.sq_of upd_same⟩, ?_⟩⟩
    have eR : Evl.Ex H3 (upd H3 r (.lst [.str "least", .str "most"])) := Evl.Ex.new hr
    have hR : upd H3 r (.lst [.str "least", .str "most"]) r = some (.lst [.str "least", .str "most"]) := upd_same
    generalize upd H3 r (.lst [.str "least", .str "most"]) = H4 at eR hR
    have h64 := dm_ex eR h63'
    have tup2 : ∀ {σ2 : L2.St} {H5 : Hp} {x : Str} {h : Hd}, Evl.Ex H4 H5 → σ2[8]? = some (some (.str x)) → σ2[9]? = some (some v6) → encL (.node h six) = [.str x, .tuple (six.map enc)] → DE K [] (tTup (tCons (tVar 8) (tCons (tVar 9) tNil))) σ2 H5 (enc (.node h six)) := fun e h8 h9 he => by
      rw [enc_eq, he]
      exact de_tup (dom0 _) (da_cons (de_sc (Evl.ev_var h8) (d := .str _) rfl) (da_cons (de_v (dm_ex e h64) h9) da_nil)) (show 2 ≤ 1000 by decide)
    refine for_list (xs := [.str "least", .str "most"]) (fun i σ' H' => ∃ y2 y3 y4 y5 y6 y7 y8 : Option V, σ' = [some (.ref a), some (.ref s), y2, y3, y4, y5, y6, y7, y8, some v6, some (.str prt), none] ∧ Evl.Ex H4 H')
      ⟨_, _, _, _, _, _, _, rfl, Evl.Ex.refl _⟩ (fun i σ' H' _ hW => by obtain ⟨_, _, _, _, _, _, _, _, e⟩ := hW; exact Evl.sq_of (e _ _ hR)) (fun i x σ' H' hx hW => ?_) (fun σ' H' hW => ?_)
    · obtain ⟨y2, y3, y4, y5, y6, y7, y8, rfl, e5⟩ := hW
      match i, hx with
      | 0, hx =>
        obtain rfl : V.str "least" = x := Option.some.inj hx
        refine (et_pair (t := .node .least six) (dom0 _) (tup2 e5 rfl rfl rfl) (Evl.ev_is (ev_catS (Evl.ev_var (by rfl)) (Evl.ev_var (by rfl)) (by decide +kernel)) (by decide +kernel)) (ok_six _ trivial)) H' (Evl.Ex.refl _) _ fun H6 e6 => ?_
        rw [if_neg (by decide)]
        exact ⟨_, _, _, _, _, _, _, rfl, e5.trans e6⟩
      | 1, hx =>
        obtain rfl : V.str "most" = x := Option.some.inj hx
        refine (et_pair (t := .node .most six) (dom0 _) (tup2 e5 rfl rfl rfl) (Evl.ev_is (ev_catS (Evl.ev_var (by rfl)) (Evl.ev_var (by rfl)) (by decide +kernel)) (by decide +kernel)) (ok_six _ trivial)) H' (Evl.Ex.refl _) _ fun H6 e6 => ?_
        rw [if_neg (by decide)]
        exact ⟨_, _, _, _, _, _, _, rfl, e5.trans e6⟩
      | _ + 2, hx => simp at hx
    obtain ⟨y2, y3, y4, y5, y6, y7, y8, rfl, e5⟩ := hW
    -- ranks
    refine ⟨1, 7, rfl, ⟨by decide, by decide, by decide, by decide⟩, for_range (lo := 1) (n := ((7 : Int) - 1).toNat) (fun i σ' H' => ∃ y2 y3 y4 y5 y6 y7 y8 : Option V, σ' = [some (.ref a), some (.ref s), y2, y3, y4, y5, y6, y7, y8, some v6, some (.str prt), none] ∧ Evl.Ex H4 H')
      ⟨_, _, _, _, _, _, _, rfl, e5⟩ (fun i σ' H' hi hW => ?_) (fun σ' H' hW => ?_)⟩
    · obtain ⟨y2, y3, y4, y5, y6, y7, y8, rfl, e5⟩ := hW
      have hi6 : i < 6 := hi
      have htx : Str.ofString "rank " ++ Str.ofString (toString (1 + (i : Int))) ++ prt = S (lw (.node (.rank (1 + i)) six)).flatten ∧ (Str.ofString "rank ").length + (Str.ofString (toString (1 + (i : Int)))).length ≤ 100000 ∧ (Str.ofString "rank " ++ Str.ofString (toString (1 + (i : Int)))).length + prt.length ≤ 100000 := by
        have : i = 0 ∨ i = 1 ∨ i = 2 ∨ i = 3 ∨ i = 4 ∨ i = 5 := by omega
        rcases this with rfl | rfl | rfl | rfl | rfl | rfl <;> exact ⟨by decide +kernel, by decide +kernel, by decide +kernel⟩
      dsimp only [L2.gName]
      refine Evl.q_asg (Evl.ev_is (ev_catS (ev_catS Evl.ev_c (Evl.ev_cb (Evl.ea_cons (Evl.ev_var (by rfl)) Evl.ea_nil) (fun H5 _ Q5 q5 => ⟨_, rfl, log30 (by omega), q5 H5 (Evl.Ex.refl _)⟩)) htx.2.1) (Evl.ev_var (by rfl)) htx.2.2) (congrArg V.str htx.1)) fun H7 e7 => ?_
      refine (et_pair (t := .node (.rank (1 + i)) six) (dom0 _) (by
        rw [enc_eq]
        show DE K [] _ _ _ (.tuple [.str "rank", .int (((1 + i : Nat)) : Int), .tuple (six.map enc)])
        exact de_tup (dom0 _) (da_cons (de_sc Evl.ev_c (d := .str "rank") rfl) (da_cons (de_sc (Evl.ev_var (v := .int (((1 + i : Nat)) : Int)) (by rw [Int.natCast_add]; rfl)) (d := .int (((1 + i : Nat)) : Int)) rfl) (da_cons (de_v (dm_ex (e5.trans e7) h64) (by rfl)) da_nil))) (show 3 ≤ 1000 by decide)) (Evl.ev_var (by rfl)) (ok_six _ (by simp only [hdOk]; omega))) H7 (Evl.Ex.refl _) _ fun H8 e8 => ?_
      rw [if_neg (by decide)]
      exact ⟨_, _, _, _, _, _, _, rfl, (e5.trans e7).trans e8⟩
    · obtain ⟨y2, y3, y4, y5, y6, y7, y8, rfl, e5⟩ := hW
      have d0 : dg 0 = [48] := dg_small (by decide)
      refine Evl.q_when (b := false) (Evl.et_or (a := false) (et_neD (M := []) (d := enc (.price 0 0)) (de_read (E := E0) (cs := [97, 32, 43, 32, 48]) (W := [[97], [43], [48]]) (t := .price 0 0) (dom0 _) (Evl.ev_is Evl.ev_c (by decide +kernel)) (by decide) ⟨[32, 43, 32, 48], rfl, [32, 48], rfl, [], rfl, rfl⟩ (by simp) (.leaf (u := .price 0 0) rfl (Start.price (s := 0) (i := 0) (by decide) (by have := Adn.pos 0 [] (by decide) (.inl rfl); rw [d0] at this; exact this)) (.done _)) (by decide) ⟨by decide +kernel, by decide +kernel, by decide +kernel⟩)
          (by
            rw [enc_eq]
            exact de_tup (dom0 _) (da_cons (de_sc Evl.ev_c (d := .str "price") rfl) (da_cons (de_sc Evl.ev_c (d := .int 0) rfl) (da_cons (de_sc Evl.ev_c (d := .int 0) rfl) da_nil))) (show 3 ≤ 1000 by decide)) (shaped_enc (by decide)))
        (fun _ => et_neD (M := []) (d := enc (.plain 0)) (de_read (E := E0) (cs := [45, 48]) (W := [[45], [48]]) (t := .plain 0) (dom0 _) (Evl.ev_is Evl.ev_c (by decide +kernel)) (by decide) ⟨[48], rfl, [], rfl, rfl⟩ (by simp) (.leaf (u := .plain 0) rfl (Start.plain (i := 0) (by have := Sgn.neg 0 [] (by decide) (.inl rfl); rw [d0] at this; exact this)) (.done _)) (by decide) ⟨by decide +kernel, by decide +kernel, by decide +kernel⟩)
          (by
            rw [enc_eq]
            exact de_tup (dom0 _) (da_cons (de_sc Evl.ev_c (d := .str "plain") rfl) (da_cons (de_sc Evl.ev_c (d := .int 0) rfl) da_nil)) (show 2 ≤ 1000 by decide)) (shaped_enc (by decide)))) (fun hb => nomatch hb) fun _ H8 e8 => ?_
      refine Evl.s_ret (Evl.ev_is (Evl.ev_op (ev_text (E := E0) (M := []) (t := .node (.rank 2) [.price 0 0, .price 1 (-1), .plain (-7)]) (dom0 _) (by
        rw [enc_eq]
        show DE K [] _ _ _ (.tuple [.str "rank", .int 2, .tuple [enc (.price 0 0), enc (.price 1 (-1)), enc (.plain (-7))]])
        refine de_tup (dom0 _) (da_cons (de_sc Evl.ev_c (d := .str "rank") rfl) (da_cons (de_sc Evl.ev_c (d := .int 2) rfl) (da_cons (de_tup (dom0 _) (da_cons ?_ (da_cons ?_ (da_cons ?_ da_nil))) (show 3 ≤ 1000 by decide)) da_nil))) (show 3 ≤ 1000 by decide)
        · rw [enc_eq]
          exact de_tup (dom0 _) (da_cons (de_sc Evl.ev_c (d := .str "price") rfl) (da_cons (de_sc Evl.ev_c (d := .int 0) rfl) (da_cons (de_sc Evl.ev_c (d := .int 0) rfl) da_nil))) (show 3 ≤ 1000 by decide)
        · rw [enc_eq]
          exact de_tup (dom0 _) (da_cons (de_sc Evl.ev_c (d := .str "price") rfl) (da_cons (de_sc Evl.ev_c (d := .int 1) rfl) (da_cons (de_sc (Evl.ev_un Evl.ev_c Evl.ru_neg) (d := .int (-1)) rfl) da_nil))) (show 3 ≤ 1000 by decide)
        · rw [enc_eq]
          exact de_tup (dom0 _) (da_cons (de_sc Evl.ev_c (d := .str "plain") rfl) (da_cons (de_sc (Evl.ev_un Evl.ev_c Evl.ru_neg) (d := .int (-7)) rfl) da_nil)) (show 2 ≤ 1000 by decide)) ⟨by decide +kernel, by decide +kernel, by decide +kernel⟩) Evl.ev_c (Evl.rv_eq rfl)) (w := .bl true) ?_) fun H9 _ => q H9
      exact congrArg V.bl (decide_eq_true (by decide +kernel))
end
end K03

set_option Elab.async false
set_option linter.all false
set_option maxRecDepth 100000
set_option maxHeartbeats 8000000
namespace K03
open PySem PySem.Spec PyProof.Rows L2 DK DD TM TX SX RD
theorem all_mk {l : PySem.W.OpenLaw} {w : World} {K : PySem.W.Frag} {h : Heap} {mg : Str → Option Value} {fa : Addr} (X : K.In h) (G : h.Ns mainGlobals mg) (hfa : mg "law" = some (.ref fa))
    {f_is_int : Addr} {od_is_int an_is_int : Option Addr} {sl_is_int : Array (Option Value)} {oc_is_int kV_is_int dc_is_int pm_is_int cd_is_int ct_is_int : Value}
    (a_is_int : PySem.W.nsIn K mainGlobals "is_int" = some (some (.ref f_is_int))) (l_is_int : K.lookup f_is_int = some ⟨oc_is_int, od_is_int, .func (PySem.W.fnOf "is_int" "is_int" (defArgs s_is_int) (defBody s_is_int) (defScope s_is_int) .none kV_is_int dc_is_int pm_is_int an_is_int cd_is_int ct_is_int), sl_is_int⟩) (c_is_int : PySem.W.codeIn K cd_is_int "is_int" = true) (k_is_int : PySem.W.keepIn K (.ref f_is_int) = true)
    {f_is_int_from : Addr} {od_is_int_from an_is_int_from : Option Addr} {sl_is_int_from : Array (Option Value)} {oc_is_int_from kV_is_int_from dc_is_int_from pm_is_int_from cd_is_int_from ct_is_int_from : Value}
    (a_is_int_from : PySem.W.nsIn K mainGlobals "is_int_from" = some (some (.ref f_is_int_from))) (l_is_int_from : K.lookup f_is_int_from = some ⟨oc_is_int_from, od_is_int_from, .func (PySem.W.fnOf "is_int_from" "is_int_from" (defArgs s_is_int_from) (defBody s_is_int_from) (defScope s_is_int_from) .none kV_is_int_from dc_is_int_from pm_is_int_from an_is_int_from cd_is_int_from ct_is_int_from), sl_is_int_from⟩) (c_is_int_from : PySem.W.codeIn K cd_is_int_from "is_int_from" = true) (k_is_int_from : PySem.W.keepIn K (.ref f_is_int_from) = true)
    {f_is_number : Addr} {od_is_number an_is_number : Option Addr} {sl_is_number : Array (Option Value)} {oc_is_number kV_is_number dc_is_number pm_is_number cd_is_number ct_is_number : Value}
    (a_is_number : PySem.W.nsIn K mainGlobals "is_number" = some (some (.ref f_is_number))) (l_is_number : K.lookup f_is_number = some ⟨oc_is_number, od_is_number, .func (PySem.W.fnOf "is_number" "is_number" (defArgs s_is_number) (defBody s_is_number) (defScope s_is_number) .none kV_is_number dc_is_number pm_is_number an_is_number cd_is_number ct_is_number), sl_is_number⟩) (c_is_number : PySem.W.codeIn K cd_is_number "is_number" = true) (k_is_number : PySem.W.keepIn K (.ref f_is_number) = true)
    {f_is_leaf : Addr} {od_is_leaf an_is_leaf : Option Addr} {sl_is_leaf : Array (Option Value)} {oc_is_leaf kV_is_leaf dc_is_leaf pm_is_leaf cd_is_leaf ct_is_leaf : Value}
    (a_is_leaf : PySem.W.nsIn K mainGlobals "is_leaf" = some (some (.ref f_is_leaf))) (l_is_leaf : K.lookup f_is_leaf = some ⟨oc_is_leaf, od_is_leaf, .func (PySem.W.fnOf "is_leaf" "is_leaf" (defArgs s_is_leaf) (defBody s_is_leaf) (defScope s_is_leaf) .none kV_is_leaf dc_is_leaf pm_is_leaf an_is_leaf cd_is_leaf ct_is_leaf), sl_is_leaf⟩) (c_is_leaf : PySem.W.codeIn K cd_is_leaf "is_leaf" = true) (k_is_leaf : PySem.W.keepIn K (.ref f_is_leaf) = true)
    {f_parts_of : Addr} {od_parts_of an_parts_of : Option Addr} {sl_parts_of : Array (Option Value)} {oc_parts_of kV_parts_of dc_parts_of pm_parts_of cd_parts_of ct_parts_of : Value}
    (a_parts_of : PySem.W.nsIn K mainGlobals "parts_of" = some (some (.ref f_parts_of))) (l_parts_of : K.lookup f_parts_of = some ⟨oc_parts_of, od_parts_of, .func (PySem.W.fnOf "parts_of" "parts_of" (defArgs s_parts_of) (defBody s_parts_of) (defScope s_parts_of) .none kV_parts_of dc_parts_of pm_parts_of an_parts_of cd_parts_of ct_parts_of), sl_parts_of⟩) (c_parts_of : PySem.W.codeIn K cd_parts_of "parts_of" = true) (k_parts_of : PySem.W.keepIn K (.ref f_parts_of) = true)
    {f_is_term : Addr} {od_is_term an_is_term : Option Addr} {sl_is_term : Array (Option Value)} {oc_is_term kV_is_term dc_is_term pm_is_term cd_is_term ct_is_term : Value}
    (a_is_term : PySem.W.nsIn K mainGlobals "is_term" = some (some (.ref f_is_term))) (l_is_term : K.lookup f_is_term = some ⟨oc_is_term, od_is_term, .func (PySem.W.fnOf "is_term" "is_term" (defArgs s_is_term) (defBody s_is_term) (defScope s_is_term) .none kV_is_term dc_is_term pm_is_term an_is_term cd_is_term ct_is_term), sl_is_term⟩) (c_is_term : PySem.W.codeIn K cd_is_term "is_term" = true) (k_is_term : PySem.W.keepIn K (.ref f_is_term) = true)
    {f_check_term : Addr} {od_check_term an_check_term : Option Addr} {sl_check_term : Array (Option Value)} {oc_check_term kV_check_term dc_check_term pm_check_term cd_check_term ct_check_term : Value}
    (a_check_term : PySem.W.nsIn K mainGlobals "check_term" = some (some (.ref f_check_term))) (l_check_term : K.lookup f_check_term = some ⟨oc_check_term, od_check_term, .func (PySem.W.fnOf "check_term" "check_term" (defArgs s_check_term) (defBody s_check_term) (defScope s_check_term) .none kV_check_term dc_check_term pm_check_term an_check_term cd_check_term ct_check_term), sl_check_term⟩) (c_check_term : PySem.W.codeIn K cd_check_term "check_term" = true) (k_check_term : PySem.W.keepIn K (.ref f_check_term) = true)
    {f__has_form : Addr} {od__has_form an__has_form : Option Addr} {sl__has_form : Array (Option Value)} {oc__has_form kV__has_form dc__has_form pm__has_form cd__has_form ct__has_form : Value}
    (a__has_form : PySem.W.nsIn K mainGlobals "_has_form" = some (some (.ref f__has_form))) (l__has_form : K.lookup f__has_form = some ⟨oc__has_form, od__has_form, .func (PySem.W.fnOf "_has_form" "_has_form" (defArgs s__has_form) (defBody s__has_form) (defScope s__has_form) .none kV__has_form dc__has_form pm__has_form an__has_form cd__has_form ct__has_form), sl__has_form⟩) (c__has_form : PySem.W.codeIn K cd__has_form "_has_form" = true) (k__has_form : PySem.W.keepIn K (.ref f__has_form) = true)
    {f__are_parts : Addr} {od__are_parts an__are_parts : Option Addr} {sl__are_parts : Array (Option Value)} {oc__are_parts kV__are_parts dc__are_parts pm__are_parts cd__are_parts ct__are_parts : Value}
    (a__are_parts : PySem.W.nsIn K mainGlobals "_are_parts" = some (some (.ref f__are_parts))) (l__are_parts : K.lookup f__are_parts = some ⟨oc__are_parts, od__are_parts, .func (PySem.W.fnOf "_are_parts" "_are_parts" (defArgs s__are_parts) (defBody s__are_parts) (defScope s__are_parts) .none kV__are_parts dc__are_parts pm__are_parts an__are_parts cd__are_parts ct__are_parts), sl__are_parts⟩) (c__are_parts : PySem.W.codeIn K cd__are_parts "_are_parts" = true) (k__are_parts : PySem.W.keepIn K (.ref f__are_parts) = true)
    {f__law_source : Addr} {od__law_source an__law_source : Option Addr} {sl__law_source : Array (Option Value)} {oc__law_source kV__law_source dc__law_source pm__law_source cd__law_source ct__law_source : Value}
    (a__law_source : PySem.W.nsIn K mainGlobals "_law_source" = some (some (.ref f__law_source))) (l__law_source : K.lookup f__law_source = some ⟨oc__law_source, od__law_source, .func (PySem.W.fnOf "_law_source" "_law_source" (defArgs s__law_source) (defBody s__law_source) (defScope s__law_source) .none kV__law_source dc__law_source pm__law_source an__law_source cd__law_source ct__law_source), sl__law_source⟩) (c__law_source : PySem.W.codeIn K cd__law_source "_law_source" = true) (k__law_source : PySem.W.keepIn K (.ref f__law_source) = true)
    {f__law_draw : Addr} {od__law_draw an__law_draw : Option Addr} {sl__law_draw : Array (Option Value)} {oc__law_draw kV__law_draw dc__law_draw pm__law_draw cd__law_draw ct__law_draw : Value}
    (a__law_draw : PySem.W.nsIn K mainGlobals "_law_draw" = some (some (.ref f__law_draw))) (l__law_draw : K.lookup f__law_draw = some ⟨oc__law_draw, od__law_draw, .func (PySem.W.fnOf "_law_draw" "_law_draw" (defArgs s__law_draw) (defBody s__law_draw) (defScope s__law_draw) .none kV__law_draw dc__law_draw pm__law_draw an__law_draw cd__law_draw ct__law_draw), sl__law_draw⟩) (c__law_draw : PySem.W.codeIn K cd__law_draw "_law_draw" = true) (k__law_draw : PySem.W.keepIn K (.ref f__law_draw) = true)
    {f__law_pick : Addr} {od__law_pick an__law_pick : Option Addr} {sl__law_pick : Array (Option Value)} {oc__law_pick kV__law_pick dc__law_pick pm__law_pick cd__law_pick ct__law_pick : Value}
    (a__law_pick : PySem.W.nsIn K mainGlobals "_law_pick" = some (some (.ref f__law_pick))) (l__law_pick : K.lookup f__law_pick = some ⟨oc__law_pick, od__law_pick, .func (PySem.W.fnOf "_law_pick" "_law_pick" (defArgs s__law_pick) (defBody s__law_pick) (defScope s__law_pick) .none kV__law_pick dc__law_pick pm__law_pick an__law_pick cd__law_pick ct__law_pick), sl__law_pick⟩) (c__law_pick : PySem.W.codeIn K cd__law_pick "_law_pick" = true) (k__law_pick : PySem.W.keepIn K (.ref f__law_pick) = true)
    {f__law_great : Addr} {od__law_great an__law_great : Option Addr} {sl__law_great : Array (Option Value)} {oc__law_great kV__law_great dc__law_great pm__law_great cd__law_great ct__law_great : Value}
    (a__law_great : PySem.W.nsIn K mainGlobals "_law_great" = some (some (.ref f__law_great))) (l__law_great : K.lookup f__law_great = some ⟨oc__law_great, od__law_great, .func (PySem.W.fnOf "_law_great" "_law_great" (defArgs s__law_great) (defBody s__law_great) (defScope s__law_great) .none kV__law_great dc__law_great pm__law_great an__law_great cd__law_great ct__law_great), sl__law_great⟩) (c__law_great : PySem.W.codeIn K cd__law_great "_law_great" = true) (k__law_great : PySem.W.keepIn K (.ref f__law_great) = true)
    {f__law_add : Addr} {od__law_add an__law_add : Option Addr} {sl__law_add : Array (Option Value)} {oc__law_add kV__law_add dc__law_add pm__law_add cd__law_add ct__law_add : Value}
    (a__law_add : PySem.W.nsIn K mainGlobals "_law_add" = some (some (.ref f__law_add))) (l__law_add : K.lookup f__law_add = some ⟨oc__law_add, od__law_add, .func (PySem.W.fnOf "_law_add" "_law_add" (defArgs s__law_add) (defBody s__law_add) (defScope s__law_add) .none kV__law_add dc__law_add pm__law_add an__law_add cd__law_add ct__law_add), sl__law_add⟩) (c__law_add : PySem.W.codeIn K cd__law_add "_law_add" = true) (k__law_add : PySem.W.keepIn K (.ref f__law_add) = true)
    {f__law_term : Addr} {od__law_term an__law_term : Option Addr} {sl__law_term : Array (Option Value)} {oc__law_term kV__law_term dc__law_term pm__law_term cd__law_term ct__law_term : Value}
    (a__law_term : PySem.W.nsIn K mainGlobals "_law_term" = some (some (.ref f__law_term))) (l__law_term : K.lookup f__law_term = some ⟨oc__law_term, od__law_term, .func (PySem.W.fnOf "_law_term" "_law_term" (defArgs s__law_term) (defBody s__law_term) (defScope s__law_term) .none kV__law_term dc__law_term pm__law_term an__law_term cd__law_term ct__law_term), sl__law_term⟩) (c__law_term : PySem.W.codeIn K cd__law_term "_law_term" = true) (k__law_term : PySem.W.keepIn K (.ref f__law_term) = true)
    {f__written : Addr} {od__written an__written : Option Addr} {sl__written : Array (Option Value)} {oc__written kV__written dc__written pm__written cd__written ct__written : Value}
    (a__written : PySem.W.nsIn K mainGlobals "_written" = some (some (.ref f__written))) (l__written : K.lookup f__written = some ⟨oc__written, od__written, .func (PySem.W.fnOf "_written" "_written" (defArgs s__written) (defBody s__written) (defScope s__written) .none kV__written dc__written pm__written an__written cd__written ct__written), sl__written⟩) (c__written : PySem.W.codeIn K cd__written "_written" = true) (k__written : PySem.W.keepIn K (.ref f__written) = true)
    {f__written_price : Addr} {od__written_price an__written_price : Option Addr} {sl__written_price : Array (Option Value)} {oc__written_price kV__written_price dc__written_price pm__written_price cd__written_price ct__written_price : Value}
    (a__written_price : PySem.W.nsIn K mainGlobals "_written_price" = some (some (.ref f__written_price))) (l__written_price : K.lookup f__written_price = some ⟨oc__written_price, od__written_price, .func (PySem.W.fnOf "_written_price" "_written_price" (defArgs s__written_price) (defBody s__written_price) (defScope s__written_price) .none kV__written_price dc__written_price pm__written_price an__written_price cd__written_price ct__written_price), sl__written_price⟩) (c__written_price : PySem.W.codeIn K cd__written_price "_written_price" = true) (k__written_price : PySem.W.keepIn K (.ref f__written_price) = true)
    {f_term_text : Addr} {od_term_text an_term_text : Option Addr} {sl_term_text : Array (Option Value)} {oc_term_text kV_term_text dc_term_text pm_term_text cd_term_text ct_term_text : Value}
    (a_term_text : PySem.W.nsIn K mainGlobals "term_text" = some (some (.ref f_term_text))) (l_term_text : K.lookup f_term_text = some ⟨oc_term_text, od_term_text, .func (PySem.W.fnOf "term_text" "term_text" (defArgs s_term_text) (defBody s_term_text) (defScope s_term_text) .none kV_term_text dc_term_text pm_term_text an_term_text cd_term_text ct_term_text), sl_term_text⟩) (c_term_text : PySem.W.codeIn K cd_term_text "term_text" = true) (k_term_text : PySem.W.keepIn K (.ref f_term_text) = true)
    {f_read_term : Addr} {od_read_term an_read_term : Option Addr} {sl_read_term : Array (Option Value)} {oc_read_term kV_read_term dc_read_term pm_read_term cd_read_term ct_read_term : Value}
    (a_read_term : PySem.W.nsIn K mainGlobals "read_term" = some (some (.ref f_read_term))) (l_read_term : K.lookup f_read_term = some ⟨oc_read_term, od_read_term, .func (PySem.W.fnOf "read_term" "read_term" (defArgs s_read_term) (defBody s_read_term) (defScope s_read_term) .none kV_read_term dc_read_term pm_read_term an_read_term cd_read_term ct_read_term), sl_read_term⟩) (c_read_term : PySem.W.codeIn K cd_read_term "read_term" = true) (k_read_term : PySem.W.keepIn K (.ref f_read_term) = true)
    {f__read_whole : Addr} {od__read_whole an__read_whole : Option Addr} {sl__read_whole : Array (Option Value)} {oc__read_whole kV__read_whole dc__read_whole pm__read_whole cd__read_whole ct__read_whole : Value}
    (a__read_whole : PySem.W.nsIn K mainGlobals "_read_whole" = some (some (.ref f__read_whole))) (l__read_whole : K.lookup f__read_whole = some ⟨oc__read_whole, od__read_whole, .func (PySem.W.fnOf "_read_whole" "_read_whole" (defArgs s__read_whole) (defBody s__read_whole) (defScope s__read_whole) .none kV__read_whole dc__read_whole pm__read_whole an__read_whole cd__read_whole ct__read_whole), sl__read_whole⟩) (c__read_whole : PySem.W.codeIn K cd__read_whole "_read_whole" = true) (k__read_whole : PySem.W.keepIn K (.ref f__read_whole) = true)
    {f__close : Addr} {od__close an__close : Option Addr} {sl__close : Array (Option Value)} {oc__close kV__close dc__close pm__close cd__close ct__close : Value}
    (a__close : PySem.W.nsIn K mainGlobals "_close" = some (some (.ref f__close))) (l__close : K.lookup f__close = some ⟨oc__close, od__close, .func (PySem.W.fnOf "_close" "_close" (defArgs s__close) (defBody s__close) (defScope s__close) .none kV__close dc__close pm__close an__close cd__close ct__close), sl__close⟩) (c__close : PySem.W.codeIn K cd__close "_close" = true) (k__close : PySem.W.keepIn K (.ref f__close) = true)
    {f__read_start : Addr} {od__read_start an__read_start : Option Addr} {sl__read_start : Array (Option Value)} {oc__read_start kV__read_start dc__read_start pm__read_start cd__read_start ct__read_start : Value}
    (a__read_start : PySem.W.nsIn K mainGlobals "_read_start" = some (some (.ref f__read_start))) (l__read_start : K.lookup f__read_start = some ⟨oc__read_start, od__read_start, .func (PySem.W.fnOf "_read_start" "_read_start" (defArgs s__read_start) (defBody s__read_start) (defScope s__read_start) .none kV__read_start dc__read_start pm__read_start an__read_start cd__read_start ct__read_start), sl__read_start⟩) (c__read_start : PySem.W.codeIn K cd__read_start "_read_start" = true) (k__read_start : PySem.W.keepIn K (.ref f__read_start) = true)
    {f__read_plain : Addr} {od__read_plain an__read_plain : Option Addr} {sl__read_plain : Array (Option Value)} {oc__read_plain kV__read_plain dc__read_plain pm__read_plain cd__read_plain ct__read_plain : Value}
    (a__read_plain : PySem.W.nsIn K mainGlobals "_read_plain" = some (some (.ref f__read_plain))) (l__read_plain : K.lookup f__read_plain = some ⟨oc__read_plain, od__read_plain, .func (PySem.W.fnOf "_read_plain" "_read_plain" (defArgs s__read_plain) (defBody s__read_plain) (defScope s__read_plain) .none kV__read_plain dc__read_plain pm__read_plain an__read_plain cd__read_plain ct__read_plain), sl__read_plain⟩) (c__read_plain : PySem.W.codeIn K cd__read_plain "_read_plain" = true) (k__read_plain : PySem.W.keepIn K (.ref f__read_plain) = true)
    {f__read_add : Addr} {od__read_add an__read_add : Option Addr} {sl__read_add : Array (Option Value)} {oc__read_add kV__read_add dc__read_add pm__read_add cd__read_add ct__read_add : Value}
    (a__read_add : PySem.W.nsIn K mainGlobals "_read_add" = some (some (.ref f__read_add))) (l__read_add : K.lookup f__read_add = some ⟨oc__read_add, od__read_add, .func (PySem.W.fnOf "_read_add" "_read_add" (defArgs s__read_add) (defBody s__read_add) (defScope s__read_add) .none kV__read_add dc__read_add pm__read_add an__read_add cd__read_add ct__read_add), sl__read_add⟩) (c__read_add : PySem.W.codeIn K cd__read_add "_read_add" = true) (k__read_add : PySem.W.keepIn K (.ref f__read_add) = true)
    {f__law_digits : Addr} {od__law_digits an__law_digits : Option Addr} {sl__law_digits : Array (Option Value)} {oc__law_digits kV__law_digits dc__law_digits pm__law_digits cd__law_digits ct__law_digits : Value}
    (a__law_digits : PySem.W.nsIn K mainGlobals "_law_digits" = some (some (.ref f__law_digits))) (l__law_digits : K.lookup f__law_digits = some ⟨oc__law_digits, od__law_digits, .func (PySem.W.fnOf "_law_digits" "_law_digits" (defArgs s__law_digits) (defBody s__law_digits) (defScope s__law_digits) .none kV__law_digits dc__law_digits pm__law_digits an__law_digits cd__law_digits ct__law_digits), sl__law_digits⟩) (c__law_digits : PySem.W.codeIn K cd__law_digits "_law_digits" = true) (k__law_digits : PySem.W.keepIn K (.ref f__law_digits) = true)
    {f__law_words : Addr} {od__law_words an__law_words : Option Addr} {sl__law_words : Array (Option Value)} {oc__law_words kV__law_words dc__law_words pm__law_words cd__law_words ct__law_words : Value}
    (a__law_words : PySem.W.nsIn K mainGlobals "_law_words" = some (some (.ref f__law_words))) (l__law_words : K.lookup f__law_words = some ⟨oc__law_words, od__law_words, .func (PySem.W.fnOf "_law_words" "_law_words" (defArgs s__law_words) (defBody s__law_words) (defScope s__law_words) .none kV__law_words dc__law_words pm__law_words an__law_words cd__law_words ct__law_words), sl__law_words⟩) (c__law_words : PySem.W.codeIn K cd__law_words "_law_words" = true) (k__law_words : PySem.W.keepIn K (.ref f__law_words) = true)
    {f__law_loose : Addr} {od__law_loose an__law_loose : Option Addr} {sl__law_loose : Array (Option Value)} {oc__law_loose kV__law_loose dc__law_loose pm__law_loose cd__law_loose ct__law_loose : Value}
    (a__law_loose : PySem.W.nsIn K mainGlobals "_law_loose" = some (some (.ref f__law_loose))) (l__law_loose : K.lookup f__law_loose = some ⟨oc__law_loose, od__law_loose, .func (PySem.W.fnOf "_law_loose" "_law_loose" (defArgs s__law_loose) (defBody s__law_loose) (defScope s__law_loose) .none kV__law_loose dc__law_loose pm__law_loose an__law_loose cd__law_loose ct__law_loose), sl__law_loose⟩) (c__law_loose : PySem.W.codeIn K cd__law_loose "_law_loose" = true) (k__law_loose : PySem.W.keepIn K (.ref f__law_loose) = true)
    {f_law : Addr} {od_law an_law : Option Addr} {sl_law : Array (Option Value)} {oc_law kV_law dc_law pm_law cd_law ct_law : Value}
    (a_law : PySem.W.nsIn K mainGlobals "law" = some (some (.ref f_law))) (l_law : K.lookup f_law = some ⟨oc_law, od_law, .func (PySem.W.fnOf "law" "law" (defArgs s_law) (defBody s_law) (defScope s_law) .none kV_law dc_law pm_law an_law cd_law ct_law), sl_law⟩) (c_law : PySem.W.codeIn K cd_law "law" = true) (k_law : PySem.W.keepIn K (.ref f_law) = true)
    {C_InvalidTerm : Addr} (g_InvalidTerm : PySem.W.nsIn K mainGlobals "InvalidTerm" = some (some (.ref C_InvalidTerm))) (kC_InvalidTerm : PySem.W.keepIn K (.ref C_InvalidTerm) = true) (q_InvalidTerm : PySem.W.excIn K C_InvalidTerm [.type "ValueError", .type "Exception", .type "BaseException", .type "object"] "ValueError.__new__" = true) (ex_InvalidTerm : PySem.W.subIn K (.ref C_InvalidTerm) (.type "BaseException") = some true) (ty_InvalidTerm : PySem.W.typeIn K (.ref C_InvalidTerm) = some (.type "type"))
    {C_R : Addr} (g_R : PySem.W.nsIn K mainGlobals "Reader" = some (some (.ref C_R))) (pg_R : PySem.W.plainGet K C_R PySem.Str.empty = true) (hd_R : PySem.W.hasDictIn K C_R = true) (po_R : PySem.W.plainOver K C_R = true) (sa_R : PySem.W.findIn K (.ref C_R) "__setattr__" = some (some (.builtin "object.__setattr__")))
    (nT_R : PySem.W.findIn K (.ref C_R) "text" = some none) (nA_R : PySem.W.findIn K (.ref C_R) "at" = some none) (mk_R : PySem.W.makesIn K C_R = true) (kC_R : PySem.W.keepIn K (.ref C_R) = true)
    {f_R_init : Addr} {od_R_init an_R_init : Option Addr} {sl_R_init : Array (Option Value)} {oc_R_init kV_R_init dc_R_init pm_R_init cd_R_init ct_R_init : Value}
    (l_R_init : K.lookup f_R_init = some ⟨oc_R_init, od_R_init, .func (PySem.W.fnOf "__init__" "Reader.__init__" (defArgs s_Reader_init) (defBody s_Reader_init) (defScope s_Reader_init) .none kV_R_init dc_R_init pm_R_init an_R_init cd_R_init ct_R_init), sl_R_init⟩) (c_R_init : PySem.W.codeIn K cd_R_init "Reader.__init__" = true) (k_R_init : PySem.W.keepIn K (.ref f_R_init) = true)
    (at_R_init : PySem.W.findIn K (.ref C_R) "__init__" = some (some (.ref f_R_init))) (fn_R_init : PySem.W.isFn K (.ref f_R_init) = true)
    {f_R_peek : Addr} {od_R_peek an_R_peek : Option Addr} {sl_R_peek : Array (Option Value)} {oc_R_peek kV_R_peek dc_R_peek pm_R_peek cd_R_peek ct_R_peek : Value}
    (l_R_peek : K.lookup f_R_peek = some ⟨oc_R_peek, od_R_peek, .func (PySem.W.fnOf "peek" "Reader.peek" (defArgs s_Reader_peek) (defBody s_Reader_peek) (defScope s_Reader_peek) .none kV_R_peek dc_R_peek pm_R_peek an_R_peek cd_R_peek ct_R_peek), sl_R_peek⟩) (c_R_peek : PySem.W.codeIn K cd_R_peek "Reader.peek" = true) (k_R_peek : PySem.W.keepIn K (.ref f_R_peek) = true)
    (at_R_peek : PySem.W.findIn K (.ref C_R) "peek" = some (some (.ref f_R_peek))) (fn_R_peek : PySem.W.isFn K (.ref f_R_peek) = true)
    {f_R_sign : Addr} {od_R_sign an_R_sign : Option Addr} {sl_R_sign : Array (Option Value)} {oc_R_sign kV_R_sign dc_R_sign pm_R_sign cd_R_sign ct_R_sign : Value}
    (l_R_sign : K.lookup f_R_sign = some ⟨oc_R_sign, od_R_sign, .func (PySem.W.fnOf "sign" "Reader.sign" (defArgs s_Reader_sign) (defBody s_Reader_sign) (defScope s_Reader_sign) .none kV_R_sign dc_R_sign pm_R_sign an_R_sign cd_R_sign ct_R_sign), sl_R_sign⟩) (c_R_sign : PySem.W.codeIn K cd_R_sign "Reader.sign" = true) (k_R_sign : PySem.W.keepIn K (.ref f_R_sign) = true)
    (at_R_sign : PySem.W.findIn K (.ref C_R) "sign" = some (some (.ref f_R_sign))) (fn_R_sign : PySem.W.isFn K (.ref f_R_sign) = true)
    {f_R_word : Addr} {od_R_word an_R_word : Option Addr} {sl_R_word : Array (Option Value)} {oc_R_word kV_R_word dc_R_word pm_R_word cd_R_word ct_R_word : Value}
    (l_R_word : K.lookup f_R_word = some ⟨oc_R_word, od_R_word, .func (PySem.W.fnOf "word" "Reader.word" (defArgs s_Reader_word) (defBody s_Reader_word) (defScope s_Reader_word) .none kV_R_word dc_R_word pm_R_word an_R_word cd_R_word ct_R_word), sl_R_word⟩) (c_R_word : PySem.W.codeIn K cd_R_word "Reader.word" = true) (k_R_word : PySem.W.keepIn K (.ref f_R_word) = true)
    (at_R_word : PySem.W.findIn K (.ref C_R) "word" = some (some (.ref f_R_word))) (fn_R_word : PySem.W.isFn K (.ref f_R_word) = true)
    {f_R_number : Addr} {od_R_number an_R_number : Option Addr} {sl_R_number : Array (Option Value)} {oc_R_number kV_R_number dc_R_number pm_R_number cd_R_number ct_R_number : Value}
    (l_R_number : K.lookup f_R_number = some ⟨oc_R_number, od_R_number, .func (PySem.W.fnOf "number" "Reader.number" (defArgs s_Reader_number) (defBody s_Reader_number) (defScope s_Reader_number) .none kV_R_number dc_R_number pm_R_number an_R_number cd_R_number ct_R_number), sl_R_number⟩) (c_R_number : PySem.W.codeIn K cd_R_number "Reader.number" = true) (k_R_number : PySem.W.keepIn K (.ref f_R_number) = true)
    (at_R_number : PySem.W.findIn K (.ref C_R) "number" = some (some (.ref f_R_number))) (fn_R_number : PySem.W.isFn K (.ref f_R_number) = true)
    {f_R_run : Addr} {od_R_run an_R_run : Option Addr} {sl_R_run : Array (Option Value)} {oc_R_run kV_R_run dc_R_run pm_R_run cd_R_run ct_R_run : Value}
    (l_R_run : K.lookup f_R_run = some ⟨oc_R_run, od_R_run, .func (PySem.W.fnOf "run" "Reader.run" (defArgs s_Reader_run) (defBody s_Reader_run) (defScope s_Reader_run) .none kV_R_run dc_R_run pm_R_run an_R_run cd_R_run ct_R_run), sl_R_run⟩) (c_R_run : PySem.W.codeIn K cd_R_run "Reader.run" = true) (k_R_run : PySem.W.keepIn K (.ref f_R_run) = true)
    (at_R_run : PySem.W.findIn K (.ref C_R) "run" = some (some (.ref f_R_run))) (fn_R_run : PySem.W.isFn K (.ref f_R_run) = true)
    {t__GREATEST_NUMBER : Nat} (g__GREATEST_NUMBER : PySem.W.nsIn K mainGlobals "_GREATEST_NUMBER" = some (some (.int v__GREATEST_NUMBER t__GREATEST_NUMBER)))
    {t_MOST_SHOPS : Nat} (g_MOST_SHOPS : PySem.W.nsIn K mainGlobals "MOST_SHOPS" = some (some (.int v_MOST_SHOPS t_MOST_SHOPS)))
    {t__MOST_PARTS : Nat} (g__MOST_PARTS : PySem.W.nsIn K mainGlobals "_MOST_PARTS" = some (some (.int v__MOST_PARTS t__MOST_PARTS)))
    {t__MOST_TERMS : Nat} (g__MOST_TERMS : PySem.W.nsIn K mainGlobals "_MOST_TERMS" = some (some (.int v__MOST_TERMS t__MOST_TERMS)))
    {t__MOST_LEVELS : Nat} (g__MOST_LEVELS : PySem.W.nsIn K mainGlobals "_MOST_LEVELS" = some (some (.int v__MOST_LEVELS t__MOST_LEVELS)))
    {t__MOST_DIGITS : Nat} (g__MOST_DIGITS : PySem.W.nsIn K mainGlobals "_MOST_DIGITS" = some (some (.int 31 t__MOST_DIGITS)))
    {t_SHOPS : Nat} (g_SHOPS : PySem.W.nsIn K mainGlobals "SHOPS" = some (some (.str "abcdef" t_SHOPS)))
    {t__LETTERS : Nat} (g__LETTERS : PySem.W.nsIn K mainGlobals "_LETTERS" = some (some (.str "abcdefghijklmnopqrstuvwxyz" t__LETTERS)))
    {t_DIGITS : Nat} (g_DIGITS : PySem.W.nsIn K mainGlobals "DIGITS" = some (some (.str "0123456789" t_DIGITS)))
    (z_len : PySem.W.nsIn K mainGlobals "len" = some none)
    (z_isinstance : PySem.W.nsIn K mainGlobals "isinstance" = some none)
    (z_abs : PySem.W.nsIn K mainGlobals "abs" = some none)
    (z_range : PySem.W.nsIn K mainGlobals "range" = some none)
    (z_int : PySem.W.nsIn K mainGlobals "int" = some none)
    (z_bool : PySem.W.nsIn K mainGlobals "bool" = some none)
    (z_tuple : PySem.W.nsIn K mainGlobals "tuple" = some none)
    (z_str : PySem.W.nsIn K mainGlobals "str" = some none) :
    ∃ fd : FuncData, (∀ (s : Shared) (v : Value), BindsTo s fd ⟨[v], []⟩ [("script", v)]) ∧ ∀ base : Heap, K.In base → base.Ns mainGlobals mg → FnOk l.prog w K mg base CX0 10 fa fd ["script"] (spLaw K) := by
  have e := hfa.symm.trans (PySem.W.mg_of X G a_law)
  cases e
  let T : Top K mg := {
    is_int := { f := _, fd := _, F := fun_mk l_is_int c_is_int k_is_int, g := PySem.W.mg_of X G a_is_int, b := (fun_mk l_is_int c_is_int k_is_int).binds (ps := ["value"]) fun _ _ _ _ _ _ us hl => match us, hl with | [_], _ => rfl },
    is_int_from := { f := _, fd := _, F := fun_mk l_is_int_from c_is_int_from k_is_int_from, g := PySem.W.mg_of X G a_is_int_from, b := (fun_mk l_is_int_from c_is_int_from k_is_int_from).binds (ps := ["value", "least", "greatest"]) fun _ _ _ _ _ _ us hl => match us, hl with | [_, _, _], _ => rfl },
    is_number := { f := _, fd := _, F := fun_mk l_is_number c_is_number k_is_number, g := PySem.W.mg_of X G a_is_number, b := (fun_mk l_is_number c_is_number k_is_number).binds (ps := ["value"]) fun _ _ _ _ _ _ us hl => match us, hl with | [_], _ => rfl },
    is_leaf := { f := _, fd := _, F := fun_mk l_is_leaf c_is_leaf k_is_leaf, g := PySem.W.mg_of X G a_is_leaf, b := (fun_mk l_is_leaf c_is_leaf k_is_leaf).binds (ps := ["term"]) fun _ _ _ _ _ _ us hl => match us, hl with | [_], _ => rfl },
    parts_of := { f := _, fd := _, F := fun_mk l_parts_of c_parts_of k_parts_of, g := PySem.W.mg_of X G a_parts_of, b := (fun_mk l_parts_of c_parts_of k_parts_of).binds (ps := ["term"]) fun _ _ _ _ _ _ us hl => match us, hl with | [_], _ => rfl },
    is_term := { f := _, fd := _, F := fun_mk l_is_term c_is_term k_is_term, g := PySem.W.mg_of X G a_is_term, b := (fun_mk l_is_term c_is_term k_is_term).binds (ps := ["value"]) fun _ _ _ _ _ _ us hl => match us, hl with | [_], _ => rfl },
    check_term := { f := _, fd := _, F := fun_mk l_check_term c_check_term k_check_term, g := PySem.W.mg_of X G a_check_term, b := (fun_mk l_check_term c_check_term k_check_term).binds (ps := ["term"]) fun _ _ _ _ _ _ us hl => match us, hl with | [_], _ => rfl },
    _has_form := { f := _, fd := _, F := fun_mk l__has_form c__has_form k__has_form, g := PySem.W.mg_of X G a__has_form, b := (fun_mk l__has_form c__has_form k__has_form).binds (ps := ["term"]) fun _ _ _ _ _ _ us hl => match us, hl with | [_], _ => rfl },
    _are_parts := { f := _, fd := _, F := fun_mk l__are_parts c__are_parts k__are_parts, g := PySem.W.mg_of X G a__are_parts, b := (fun_mk l__are_parts c__are_parts k__are_parts).binds (ps := ["value"]) fun _ _ _ _ _ _ us hl => match us, hl with | [_], _ => rfl },
    _law_source := { f := _, fd := _, F := fun_mk l__law_source c__law_source k__law_source, g := PySem.W.mg_of X G a__law_source, b := (fun_mk l__law_source c__law_source k__law_source).binds (ps := ["script"]) fun _ _ _ _ _ _ us hl => match us, hl with | [_], _ => rfl },
    _law_draw := { f := _, fd := _, F := fun_mk l__law_draw c__law_draw k__law_draw, g := PySem.W.mg_of X G a__law_draw, b := (fun_mk l__law_draw c__law_draw k__law_draw).binds (ps := ["source", "limit"]) fun _ _ _ _ _ _ us hl => match us, hl with | [_, _], _ => rfl },
    _law_pick := { f := _, fd := _, F := fun_mk l__law_pick c__law_pick k__law_pick, g := PySem.W.mg_of X G a__law_pick, b := (fun_mk l__law_pick c__law_pick k__law_pick).binds (ps := ["source", "values"]) fun _ _ _ _ _ _ us hl => match us, hl with | [_, _], _ => rfl },
    _law_great := { f := _, fd := _, F := fun_mk l__law_great c__law_great k__law_great, g := PySem.W.mg_of X G a__law_great, b := (fun_mk l__law_great c__law_great k__law_great).binds (ps := ["source", "digits"]) fun _ _ _ _ _ _ us hl => match us, hl with | [_, _], _ => rfl },
    _law_add := { f := _, fd := _, F := fun_mk l__law_add c__law_add k__law_add, g := PySem.W.mg_of X G a__law_add, b := (fun_mk l__law_add c__law_add k__law_add).binds (ps := ["source", "most"]) fun _ _ _ _ _ _ us hl => match us, hl with | [_, _], _ => rfl },
    _law_term := { f := _, fd := _, F := fun_mk l__law_term c__law_term k__law_term, g := PySem.W.mg_of X G a__law_term, b := (fun_mk l__law_term c__law_term k__law_term).binds (ps := ["source", "shops", "most", "levels"]) fun _ _ _ _ _ _ us hl => match us, hl with | [_, _, _, _], _ => rfl },
    _written := { f := _, fd := _, F := fun_mk l__written c__written k__written, g := PySem.W.mg_of X G a__written, b := (fun_mk l__written c__written k__written).binds (ps := ["term"]) fun _ _ _ _ _ _ us hl => match us, hl with | [_], _ => rfl },
    _written_price := { f := _, fd := _, F := fun_mk l__written_price c__written_price k__written_price, g := PySem.W.mg_of X G a__written_price, b := (fun_mk l__written_price c__written_price k__written_price).binds (ps := ["shop", "add"]) fun _ _ _ _ _ _ us hl => match us, hl with | [_, _], _ => rfl },
    term_text := { f := _, fd := _, F := fun_mk l_term_text c_term_text k_term_text, g := PySem.W.mg_of X G a_term_text, b := (fun_mk l_term_text c_term_text k_term_text).binds (ps := ["term"]) fun _ _ _ _ _ _ us hl => match us, hl with | [_], _ => rfl },
    read_term := { f := _, fd := _, F := fun_mk l_read_term c_read_term k_read_term, g := PySem.W.mg_of X G a_read_term, b := (fun_mk l_read_term c_read_term k_read_term).binds (ps := ["text"]) fun _ _ _ _ _ _ us hl => match us, hl with | [_], _ => rfl },
    _read_whole := { f := _, fd := _, F := fun_mk l__read_whole c__read_whole k__read_whole, g := PySem.W.mg_of X G a__read_whole, b := (fun_mk l__read_whole c__read_whole k__read_whole).binds (ps := ["reader"]) fun _ _ _ _ _ _ us hl => match us, hl with | [_], _ => rfl },
    _close := { f := _, fd := _, F := fun_mk l__close c__close k__close, g := PySem.W.mg_of X G a__close, b := (fun_mk l__close c__close k__close).binds (ps := ["reader", "unclosed", "term"]) fun _ _ _ _ _ _ us hl => match us, hl with | [_, _, _], _ => rfl },
    _read_start := { f := _, fd := _, F := fun_mk l__read_start c__read_start k__read_start, g := PySem.W.mg_of X G a__read_start, b := (fun_mk l__read_start c__read_start k__read_start).binds (ps := ["reader"]) fun _ _ _ _ _ _ us hl => match us, hl with | [_], _ => rfl },
    _read_plain := { f := _, fd := _, F := fun_mk l__read_plain c__read_plain k__read_plain, g := PySem.W.mg_of X G a__read_plain, b := (fun_mk l__read_plain c__read_plain k__read_plain).binds (ps := ["reader"]) fun _ _ _ _ _ _ us hl => match us, hl with | [_], _ => rfl },
    _read_add := { f := _, fd := _, F := fun_mk l__read_add c__read_add k__read_add, g := PySem.W.mg_of X G a__read_add, b := (fun_mk l__read_add c__read_add k__read_add).binds (ps := ["reader"]) fun _ _ _ _ _ _ us hl => match us, hl with | [_], _ => rfl },
    _law_digits := { f := _, fd := _, F := fun_mk l__law_digits c__law_digits k__law_digits, g := PySem.W.mg_of X G a__law_digits, b := (fun_mk l__law_digits c__law_digits k__law_digits).binds (ps := ["number"]) fun _ _ _ _ _ _ us hl => match us, hl with | [_], _ => rfl },
    _law_words := { f := _, fd := _, F := fun_mk l__law_words c__law_words k__law_words, g := PySem.W.mg_of X G a__law_words, b := (fun_mk l__law_words c__law_words k__law_words).binds (ps := ["term"]) fun _ _ _ _ _ _ us hl => match us, hl with | [_], _ => rfl },
    _law_loose := { f := _, fd := _, F := fun_mk l__law_loose c__law_loose k__law_loose, g := PySem.W.mg_of X G a__law_loose, b := (fun_mk l__law_loose c__law_loose k__law_loose).binds (ps := ["source", "words"]) fun _ _ _ _ _ _ us hl => match us, hl with | [_, _], _ => rfl },
    law := { f := _, fd := _, F := fun_mk l_law c_law k_law, g := PySem.W.mg_of X G a_law, b := (fun_mk l_law c_law k_law).binds (ps := ["script"]) fun _ _ _ _ _ _ us hl => match us, hl with | [_], _ => rfl },
    InvalidTerm := { C := C_InvalidTerm, g := PySem.W.mg_of X G g_InvalidTerm, k := kC_InvalidTerm, q := q_InvalidTerm, ex := ex_InvalidTerm, ty := ty_InvalidTerm },
    R := { C := C_R, g := PySem.W.mg_of X G g_R, cl := ⟨pg_R, hd_R, po_R, sa_R⟩, nT := nT_R, nA := nA_R },
    R_init := { f := f_R_init, fd := _, F := fun_mk l_R_init c_R_init k_R_init, m := ⟨at_R_init, fn_R_init, k_R_init⟩, b := (fun_mk l_R_init c_R_init k_R_init).binds (ps := ["self", "text"]) fun _ _ _ _ _ _ us hl => match us, hl with | [_, _], _ => rfl },
    R_peek := { f := f_R_peek, fd := _, F := fun_mk l_R_peek c_R_peek k_R_peek, m := ⟨at_R_peek, fn_R_peek, k_R_peek⟩, b := (fun_mk l_R_peek c_R_peek k_R_peek).binds (ps := ["self"]) fun _ _ _ _ _ _ us hl => match us, hl with | [_], _ => rfl },
    R_sign := { f := f_R_sign, fd := _, F := fun_mk l_R_sign c_R_sign k_R_sign, m := ⟨at_R_sign, fn_R_sign, k_R_sign⟩, b := (fun_mk l_R_sign c_R_sign k_R_sign).binds (ps := ["self", "allowed"]) fun _ _ _ _ _ _ us hl => match us, hl with | [_, _], _ => rfl },
    R_word := { f := f_R_word, fd := _, F := fun_mk l_R_word c_R_word k_R_word, m := ⟨at_R_word, fn_R_word, k_R_word⟩, b := (fun_mk l_R_word c_R_word k_R_word).binds (ps := ["self"]) fun _ _ _ _ _ _ us hl => match us, hl with | [_], _ => rfl },
    R_number := { f := f_R_number, fd := _, F := fun_mk l_R_number c_R_number k_R_number, m := ⟨at_R_number, fn_R_number, k_R_number⟩, b := (fun_mk l_R_number c_R_number k_R_number).binds (ps := ["self"]) fun _ _ _ _ _ _ us hl => match us, hl with | [_], _ => rfl },
    R_run := { f := f_R_run, fd := _, F := fun_mk l_R_run c_R_run k_R_run, m := ⟨at_R_run, fn_R_run, k_R_run⟩, b := (fun_mk l_R_run c_R_run k_R_run).binds (ps := ["self", "allowed"]) fun _ _ _ _ _ _ us hl => match us, hl with | [_, _], _ => rfl },
    R_mk := ⟨mk_R, at_R_init, fn_R_init, kC_R⟩,
    g__GREATEST_NUMBER := ⟨_, PySem.W.mg_of X G g__GREATEST_NUMBER⟩,
    g_MOST_SHOPS := ⟨_, PySem.W.mg_of X G g_MOST_SHOPS⟩,
    g__MOST_PARTS := ⟨_, PySem.W.mg_of X G g__MOST_PARTS⟩,
    g__MOST_TERMS := ⟨_, PySem.W.mg_of X G g__MOST_TERMS⟩,
    g__MOST_LEVELS := ⟨_, PySem.W.mg_of X G g__MOST_LEVELS⟩,
    g__MOST_DIGITS := ⟨_, PySem.W.mg_of X G g__MOST_DIGITS⟩,
    g_SHOPS := ⟨_, PySem.W.mg_of X G g_SHOPS⟩,
    g__LETTERS := ⟨_, PySem.W.mg_of X G g__LETTERS⟩,
    g_DIGITS := ⟨_, PySem.W.mg_of X G g_DIGITS⟩,
    n_len := PySem.W.mg_none_of X G z_len,
    n_isinstance := PySem.W.mg_none_of X G z_isinstance,
    n_abs := PySem.W.mg_none_of X G z_abs,
    n_range := PySem.W.mg_none_of X G z_range,
    n_int := PySem.W.mg_none_of X G z_int,
    n_bool := PySem.W.mg_none_of X G z_bool,
    n_tuple := PySem.W.mg_none_of X G z_tuple,
    n_str := PySem.W.mg_none_of X G z_str }
  exact ⟨_, fun s v => .of_eq rfl, fun base _ _ => ok_law T⟩
end K03
open PySem PySem.W PyProof.Rows
set_option maxHeartbeats 0 in
theorem PySem.Challenge.cw_pricespin_k03_whole_texts_holds : PySem.Challenge.rw_pricespin_k03_whole_texts.Holds := by
  w_on; o_law; k_head; (case hw => w_witness2)
  k_fill
  refine L2.walk_of (l := PySem.Challenge.rw_pricespin_k03_whole_texts) (n := 63) (k := 10) (x := "script") (CX := fun _ => L2.CX0) (sp := fun w => K03.spLaw _) rfl (by decide) rfl ⟨rfl, by decide, by decide⟩ (fun w h Y => PySem.W.kIn_of Y) ?F (fun _ _ a ns hl _ hS => ⟨a, ns, rfl, hS, hl, fun _ => rfl⟩) (fun _ _ _ _ _ h => h)
  case F =>
    intro w mg fa h KX G hmg
    refine' K03.all_mk KX G hmg ?a_is_int ?l_is_int ?c_is_int ?k_is_int ?a_is_int_from ?l_is_int_from ?c_is_int_from ?k_is_int_from ?a_is_number ?l_is_number ?c_is_number ?k_is_number ?a_is_leaf ?l_is_leaf ?c_is_leaf ?k_is_leaf ?a_parts_of ?l_parts_of ?c_parts_of ?k_parts_of ?a_is_term ?l_is_term ?c_is_term ?k_is_term ?a_check_term ?l_check_term ?c_check_term ?k_check_term ?a__has_form ?l__has_form ?c__has_form ?k__has_form ?a__are_parts ?l__are_parts ?c__are_parts ?k__are_parts ?a__law_source ?l__law_source ?c__law_source ?k__law_source ?a__law_draw ?l__law_draw ?c__law_draw ?k__law_draw ?a__law_pick ?l__law_pick ?c__law_pick ?k__law_pick ?a__law_great ?l__law_great ?c__law_great ?k__law_great ?a__law_add ?l__law_add ?c__law_add ?k__law_add ?a__law_term ?l__law_term ?c__law_term ?k__law_term ?a__written ?l__written ?c__written ?k__written ?a__written_price ?l__written_price ?c__written_price ?k__written_price ?a_term_text ?l_term_text ?c_term_text ?k_term_text ?a_read_term ?l_read_term ?c_read_term ?k_read_term ?a__read_whole ?l__read_whole ?c__read_whole ?k__read_whole ?a__close ?l__close ?c__close ?k__close ?a__read_start ?l__read_start ?c__read_start ?k__read_start ?a__read_plain ?l__read_plain ?c__read_plain ?k__read_plain ?a__read_add ?l__read_add ?c__read_add ?k__read_add ?a__law_digits ?l__law_digits ?c__law_digits ?k__law_digits ?a__law_words ?l__law_words ?c__law_words ?k__law_words ?a__law_loose ?l__law_loose ?c__law_loose ?k__law_loose ?a_law ?l_law ?c_law ?k_law ?g_InvalidTerm ?kC_InvalidTerm ?q_InvalidTerm ?ex_InvalidTerm ?ty_InvalidTerm ?g_R ?pg_R ?hd_R ?po_R ?sa_R ?nT_R ?nA_R ?mk_R ?kC_R ?l_R_init ?c_R_init ?k_R_init ?at_R_init ?fn_R_init ?l_R_peek ?c_R_peek ?k_R_peek ?at_R_peek ?fn_R_peek ?l_R_sign ?c_R_sign ?k_R_sign ?at_R_sign ?fn_R_sign ?l_R_word ?c_R_word ?k_R_word ?at_R_word ?fn_R_word ?l_R_number ?c_R_number ?k_R_number ?at_R_number ?fn_R_number ?l_R_run ?c_R_run ?k_R_run ?at_R_run ?fn_R_run ?g__GREATEST_NUMBER ?g_MOST_SHOPS ?g__MOST_PARTS ?g__MOST_TERMS ?g__MOST_LEVELS ?g__MOST_DIGITS ?g_SHOPS ?g__LETTERS ?g_DIGITS ?z_len ?z_isinstance ?z_abs ?z_range ?z_int ?z_bool ?z_tuple ?z_str
    (case g_InvalidTerm => k_is)
    (case g_R => k_is)
    (case at_R_init => k_is)
    (case at_R_peek => k_is)
    (case at_R_sign => k_is)
    (case at_R_word => k_is)
    (case at_R_number => k_is)
    (case at_R_run => k_is)
    (case a_is_int => k_is)
    (case l_is_int => k_is)
    (case c_is_int => k_is)
    (case k_is_int => k_is)
    (case a_is_int_from => k_is)
    (case l_is_int_from => k_is)
    (case c_is_int_from => k_is)
    (case k_is_int_from => k_is)
    (case a_is_number => k_is)
    (case l_is_number => k_is)
    (case c_is_number => k_is)
    (case k_is_number => k_is)
    (case a_is_leaf => k_is)
    (case l_is_leaf => k_is)
    (case c_is_leaf => k_is)
    (case k_is_leaf => k_is)
    (case a_parts_of => k_is)
    (case l_parts_of => k_is)
    (case c_parts_of => k_is)
    (case k_parts_of => k_is)
    (case a_is_term => k_is)
    (case l_is_term => k_is)
    (case c_is_term => k_is)
    (case k_is_term => k_is)
    (case a_check_term => k_is)
    (case l_check_term => k_is)
    (case c_check_term => k_is)
    (case k_check_term => k_is)
    (case a__has_form => k_is)
    (case l__has_form => k_is)
    (case c__has_form => k_is)
    (case k__has_form => k_is)
    (case a__are_parts => k_is)
    (case l__are_parts => k_is)
    (case c__are_parts => k_is)
    (case k__are_parts => k_is)
    (case a__law_source => k_is)
    (case l__law_source => k_is)
    (case c__law_source => k_is)
    (case k__law_source => k_is)
    (case a__law_draw => k_is)
    (case l__law_draw => k_is)
    (case c__law_draw => k_is)
    (case k__law_draw => k_is)
    (case a__law_pick => k_is)
    (case l__law_pick => k_is)
    (case c__law_pick => k_is)
    (case k__law_pick => k_is)
    (case a__law_great => k_is)
    (case l__law_great => k_is)
    (case c__law_great => k_is)
    (case k__law_great => k_is)
    (case a__law_add => k_is)
    (case l__law_add => k_is)
    (case c__law_add => k_is)
    (case k__law_add => k_is)
    (case a__law_term => k_is)
    (case l__law_term => k_is)
    (case c__law_term => k_is)
    (case k__law_term => k_is)
    (case a__written => k_is)
    (case l__written => k_is)
    (case c__written => k_is)
    (case k__written => k_is)
    (case a__written_price => k_is)
    (case l__written_price => k_is)
    (case c__written_price => k_is)
    (case k__written_price => k_is)
    (case a_term_text => k_is)
    (case l_term_text => k_is)
    (case c_term_text => k_is)
    (case k_term_text => k_is)
    (case a_read_term => k_is)
    (case l_read_term => k_is)
    (case c_read_term => k_is)
    (case k_read_term => k_is)
    (case a__read_whole => k_is)
    (case l__read_whole => k_is)
    (case c__read_whole => k_is)
    (case k__read_whole => k_is)
    (case a__close => k_is)
    (case l__close => k_is)
    (case c__close => k_is)
    (case k__close => k_is)
    (case a__read_start => k_is)
    (case l__read_start => k_is)
    (case c__read_start => k_is)
    (case k__read_start => k_is)
    (case a__read_plain => k_is)
    (case l__read_plain => k_is)
    (case c__read_plain => k_is)
    (case k__read_plain => k_is)
    (case a__read_add => k_is)
    (case l__read_add => k_is)
    (case c__read_add => k_is)
    (case k__read_add => k_is)
    (case a__law_digits => k_is)
    (case l__law_digits => k_is)
    (case c__law_digits => k_is)
    (case k__law_digits => k_is)
    (case a__law_words => k_is)
    (case l__law_words => k_is)
    (case c__law_words => k_is)
    (case k__law_words => k_is)
    (case a__law_loose => k_is)
    (case l__law_loose => k_is)
    (case c__law_loose => k_is)
    (case k__law_loose => k_is)
    (case a_law => k_is)
    (case l_law => k_is)
    (case c_law => k_is)
    (case k_law => k_is)
    (case kC_InvalidTerm => k_is)
    (case q_InvalidTerm => k_exc)
    (case ex_InvalidTerm => k_is)
    (case ty_InvalidTerm => k_is)
    (case pg_R => k_is)
    (case hd_R => k_is)
    (case po_R => k_is)
    (case sa_R => k_is)
    (case nT_R => k_is)
    (case nA_R => k_is)
    (case mk_R => k_is)
    (case kC_R => k_is)
    (case l_R_init => k_is)
    (case c_R_init => k_is)
    (case k_R_init => k_is)
    (case fn_R_init => k_is)
    (case l_R_peek => k_is)
    (case c_R_peek => k_is)
    (case k_R_peek => k_is)
    (case fn_R_peek => k_is)
    (case l_R_sign => k_is)
    (case c_R_sign => k_is)
    (case k_R_sign => k_is)
    (case fn_R_sign => k_is)
    (case l_R_word => k_is)
    (case c_R_word => k_is)
    (case k_R_word => k_is)
    (case fn_R_word => k_is)
    (case l_R_number => k_is)
    (case c_R_number => k_is)
    (case k_R_number => k_is)
    (case fn_R_number => k_is)
    (case l_R_run => k_is)
    (case c_R_run => k_is)
    (case k_R_run => k_is)
    (case fn_R_run => k_is)
    (case g__GREATEST_NUMBER => k_is)
    (case g_MOST_SHOPS => k_is)
    (case g__MOST_PARTS => k_is)
    (case g__MOST_TERMS => k_is)
    (case g__MOST_LEVELS => k_is)
    (case g__MOST_DIGITS => k_is)
    (case g_SHOPS => k_is)
    (case g__LETTERS => k_is)
    (case g_DIGITS => k_is)
    (case z_len => k_is)
    (case z_isinstance => k_is)
    (case z_abs => k_is)
    (case z_range => k_is)
    (case z_int => k_is)
    (case z_bool => k_is)
    (case z_tuple => k_is)
    (case z_str => k_is)

