import PyProof.Rows.All
import Wide.All
import OpenK.AllK
import Wide.FinOn
import HandS.ForMost
import HandS.ForExc
import HandS.NoneIn
import HandS.Evl
import KE.KEqSeq
import PyProof.StrBlock2
import HandS.IsInst
import HandS.FStr
import HandS.Codes
import KE.KIntText
import PyProof.Rows.StrIntSpec
import HandS.TupAny
import HandS.ExcInit
import HandS.ExcValue
import KE.KExcIs
import HandS.Replace
import PyProof.ListStr
import HandS.SetFor
import HandS.Strs
import HandS.TupLen
import HandS.Walk
import HandS.StrMore
import HandS.Star
import PyProof.NeKinds
import PyProof.FactsAll.dict
import PyProof.IsiHeapPairs
import HandS.Wide
import HandS.Deep
import HandS.SortInts
import HandS.TupMul
import HandS.Zip
import PyProof.ZipIter
import PyProof.EnumIter
import KE.KUnpackStar
import HandS.Base
import HandS.List
import HandS.Iter
import KE.DataFind
import PySem.Challenge.RW_pricespin_k68_doors_of_what_was_seen
set_option Elab.async false
set_option linter.all false
set_option maxRecDepth 100000
namespace DK
open PySem PySem.Spec PyProof.Rows L2
theorem hu64 {k : Nat} {A : Around} (hr : Room k A) : A.units + 64 < cLine := by
  have := hr.un
  omega
def CPowW (i j : Int) : Prop := 0 ≤ j ∧ (Builtin.Int.intBits i : Int) * j ≤ 2 ^ 27
theorem op_powW {X : Cx} : OpR X (binaryOp .Pow) (rI CPowW fun i j => .int (i ^ j.toNat)) := opI fun _ _ _ _ _ _ _ hc q => pow_int hc.1 hc.2 q
/-- a text times a number -/
theorem op_mulS {X : Cx} : OpR X (binaryOp .Mult) (fun x y H Q => ∃ z n, x = .str z ∧ y = .int n ∧ PySem.MulOk z n ∧ Q (.str (PySem.Txt.mul z n)) H) := by
  intro pins s σ H x y v u Q I rx ry h
  obtain ⟨z, n, rfl, rfl, hc, q⟩ := h
  obtain ⟨t, rfl⟩ := rx
  obtain ⟨t', rfl⟩ := ry
  exact PySem.SB.mul hc fun t2 k => ⟨.str _, H, I.tok _, ⟨_, rfl⟩, q⟩
/-- where a def of the top stands -/
structure At (K : PySem.W.Frag) (mg : Str → Option Value) (x : Str) (st : Stmt) (ps : List Str) where
  f : Addr
  fd : FuncData
  F : Fun K x x st f fd
  g : mg x = some (.ref f)
  b : Binds K fd ps []
/-- all but the addresses of M stay -/
def ExM (M : List Addr) (H H' : Hp) : Prop := ∀ a o, a ∉ M → H a = some o → H' a = some o
theorem ExM.refl (M : List Addr) (H : Hp) : ExM M H H := fun _ _ _ h => h
theorem ExM.trans {M : List Addr} {H H1 H2 : Hp} (a : ExM M H H1) (b : ExM M H1 H2) : ExM M H H2 := fun x o n h => b x o n (a x o n h)
theorem ExM.new {M : List Addr} {H : Hp} {p : Addr} {o : HO} (h : H p = none) : ExM M H (upd H p o) := fun a u _ e => by
  rw [upd_ne (ne_of_none e h)]
  exact e
theorem ExM.mut {M : List Addr} {H : Hp} {p : Addr} {o : HO} (h : p ∈ M) : ExM M H (upd H p o) := fun a u n e => by
  rw [upd_ne (show a ≠ p from fun z => n (by rw [z]; exact h))]
  exact e
theorem ExM.of {M : List Addr} {H H' : Hp} (e : Evl.Ex H H') : ExM M H H' := fun a o _ h => e a o h
/-- the source of a law's draws: at s the list of the cells' list (at c) and of the turn, at most n -/
def big : Int := 10 ^ 1200
structure Src (H : Hp) (s c : Addr) (n : Nat) : Prop where
  ne : c ≠ s
  ex : ∃ (ks : List Int) (t : Nat), H s = some (.lst [.ref c, .int (t : Int)]) ∧ H c = some (.lst (ks.map V.int)) ∧ 1 ≤ ks.length ∧ ks.length ≤ 63 ∧ t ≤ n
theorem Src.mono {H : Hp} {s c : Addr} {n m : Nat} (h : Src H s c n) (l : n ≤ m) : Src H s c m := by
  obtain ⟨a, ks, t, e1, e2, e3, e4, e5⟩ := h
  exact ⟨a, ks, t, e1, e2, e3, e4, Nat.le_trans e5 l⟩
theorem Src.ex1 {H H' : Hp} {s c : Addr} {n : Nat} (h : Src H s c n) (e : Evl.Ex H H') : Src H' s c n := by
  obtain ⟨a, ks, t, e1, e2, e3, e4, e5⟩ := h
  exact ⟨a, ks, t, e _ _ e1, e _ _ e2, e3, e4, e5⟩
theorem Src.new {H : Hp} {s c p : Addr} {o : HO} {n : Nat} (h : Src H s c n) (hp : H p = none) : Src (upd H p o) s c n := h.ex1 (Evl.Ex.new hp)
/-- _law_source(script) -/
def spSource (K : PySem.W.Frag) : Sp := fun vs H Q _ => ∃ (a : Addr) (ns : List Int), vs = [.ref a] ∧ SqL K H a (ns.map V.int) ∧ ns.length ≤ 63 ∧
  ∀ s c H', Evl.Ex H H' → H s = none → H c = none → Src H' s c 0 → Q (.ref s) H'
/-- _law_draw(source, limit) -/
def spDraw : Sp := fun vs H Q _ => ∃ (s c : Addr) (n : Nat) (l : Int), vs = [.ref s, .int l] ∧ Src H s c n ∧ n < 2 ^ 60 ∧ 0 < l ∧ l < 2 ^ 30 ∧
  ∀ (d : Int) H', 0 ≤ d → d < l → ExM [s, c] H H' → Src H' s c (n + 1) → Q (.int d) H'
/-- _law_pick(source, values) -/
def spPick (K : PySem.W.Frag) : Sp := fun vs H Q _ => ∃ (s c p : Addr) (n : Nat) (xs : List V), vs = [.ref s, .ref p] ∧ Src H s c n ∧ n < 2 ^ 60 ∧ SqL K H p xs ∧ p ≠ s ∧ p ≠ c ∧ 1 ≤ xs.length ∧ xs.length ≤ 1000 ∧
  ∀ v H', v ∈ xs → ExM [s, c] H H' → Src H' s c (n + 1) → Q v H'
theorem sqm {K : PySem.W.Frag} {M : List Addr} {H H' : Hp} {a : Addr} {xs : List V} (e : ExM M H H') (n : a ∉ M) (h : SqL K H a xs) : SqL K H' a xs := by
  rcases h with (h | ⟨o, h⟩) | h
  · exact .inl (.inl (e a _ n h))
  · exact .inl (.inr ⟨o, e a _ n h⟩)
  · exact .inr h
end DK

set_option Elab.async false
set_option linter.all false
set_option maxRecDepth 100000
set_option maxHeartbeats 2000000
/-! Data over the layer: a value that bears a datum (Dp), away from the addresses M that may be written; what an expression gives, as a datum. -/
namespace DD
open PySem PySem.Spec PyProof.Rows L2 Evl DK
def mi (H : Hp) (M : List Addr) : Hp := fun a => if a ∈ M then none else H a
theorem mi_some {H : Hp} {M : List Addr} {a : Addr} {o : HO} (h : mi H M a = some o) : a ∉ M ∧ H a = some o := by
  unfold mi at h
  split at h
  · cases h
  · rename_i n
    exact ⟨n, h⟩
theorem mi_of {H : Hp} {M : List Addr} {a : Addr} {o : HO} (n : a ∉ M) (h : H a = some o) : mi H M a = some o := by
  unfold mi
  rw [if_neg n]
  exact h
def Dom (M : List Addr) (H : Hp) : Prop := ∀ m ∈ M, H m ≠ none
theorem Dom.ex {M : List Addr} {H H' : Hp} (d : Dom M H) (e : Ex H H') : Dom M H' := fun m hm => by
  cases q : H m with
  | none => exact absurd q (d m hm)
  | some o =>
    rw [e m o q]
    exact fun z => nomatch z
theorem Dom.nin {M : List Addr} {H : Hp} {p : Addr} (d : Dom M H) (h : H p = none) : p ∉ M := fun z => d p z h
theorem Dom.cons {M : List Addr} {H : Hp} {p : Addr} (d : Dom M H) (h : H p ≠ none) : Dom (p :: M) H := fun m hm => by
  rcases List.mem_cons.mp hm with rfl | hm
  · exact h
  · exact d m hm
theorem Dom.exM {M : List Addr} {H H' : Hp} {s c : Addr} {n : Nat} (d : Dom M H) (e : ExM [s, c] H H') (S : Src H' s c n) : Dom M H' := fun m hm => by
  obtain ⟨_, ks, t, e1, e2, _⟩ := S
  by_cases h1 : m = s
  · rw [h1, e1]
    exact fun z => nomatch z
  by_cases h2 : m = c
  · rw [h2, e2]
    exact fun z => nomatch z
  cases q : H m with
  | none => exact absurd q (d m hm)
  | some o =>
    rw [e m o (by simp [h1, h2]) q]
    exact fun z => nomatch z
theorem _root_.DK.ExM.sub {M M' : List Addr} {H H' : Hp} (e : ExM M H H') (s : ∀ m, m ∈ M → m ∈ M') : ExM M' H H' := fun a o n h => e a o (fun z => n (s a z)) h
theorem _root_.DK.ExM.mut0 {M : List Addr} {H H' : Hp} {p : Addr} {o : HO} (e : ExM M H H') (n : H p = none) : ExM M H (upd H' p o) := fun a u na h => by
  rw [upd_ne (ne_of_none h n)]
  exact e a u na h
theorem _root_.DK.Src.upd {H : Hp} {s c p : Addr} {n : Nat} {o : HO} (S : Src H s c n) (h1 : p ≠ s) (h2 : p ≠ c) : Src (L2.upd H p o) s c n := by
  obtain ⟨ne, ks, t, e1, e2, e3⟩ := S
  exact ⟨ne, ks, t, by rw [upd_ne (Ne.symm h1)]; exact e1, by rw [upd_ne (Ne.symm h2)]; exact e2, e3⟩
theorem _root_.DK.Src.nes' {H : Hp} {s c p : Addr} {n : Nat} (S : Src H s c n) (h : H p = none) : p ≠ s ∧ p ≠ c := by
  obtain ⟨_, ks, t, e1, e2, _⟩ := S
  exact ⟨(ne_of_none e1 h).symm, (ne_of_none e2 h).symm⟩
theorem ex_full (H : Hp) (M : List Addr) : Ex (mi H M) H := fun a o h => (mi_some h).2
theorem ex_mi {H H' : Hp} {M : List Addr} (e : Ex H H') : Ex (mi H M) (mi H' M) := fun a o h => mi_of (mi_some h).1 (e a o (mi_some h).2)
theorem exM_mi {H H' : Hp} {M : List Addr} (e : ExM M H H') : Ex (mi H M) (mi H' M) := fun a o h => mi_of (mi_some h).1 (e a o (mi_some h).1 (mi_some h).2)
theorem ex_less {H : Hp} {M M' : List Addr} (s : ∀ m, m ∈ M → m ∈ M') : Ex (mi H M') (mi H M) := fun a o h => mi_of (fun z => (mi_some h).1 (s a z)) (mi_some h).2
theorem ex_add {H : Hp} {M : List Addr} {p : Addr} (n : H p = none) : Ex (mi H M) (mi H (p :: M)) := fun a o h => by
  obtain ⟨h1, h2⟩ := mi_some h
  refine mi_of (fun z => ?_) h2
  rcases List.mem_cons.mp z with rfl | z
  · rw [n] at h2
    cases h2
  · exact h1 z
section
variable {K : PySem.W.Frag} {H H' : Hp} {M : List Addr}
mutual
theorem dpx (e : Ex H H') : ∀ (d : PyData) (v : V), Dp K H v d → Dp K H' v d
  | .none, _, h => by cases h; exact .non
  | .bool _, _, h => by cases h; exact .bl _
  | .int _, _, h => by cases h; exact .int _
  | .str _, _, h => by cases h; exact .str _
  | .list ds, _, h => by
    cases h with
    | lst h1 h2 => exact .lst (ex_l e h1) (dpxs e ds _ h2)
  | .tuple ds, _, h => by
    cases h with
    | tup h1 h2 => exact .tup (ex_t e h1) (dpxs e ds _ h2)
  | .dict _, _, h => by cases h
theorem dpxs (e : Ex H H') : ∀ (ds : List PyData) (vs : List V), DpAll K H vs ds → DpAll K H' vs ds
  | [], _, h => by cases h; exact .nil
  | d :: ds, _, h => by
    cases h with
    | cons h1 h2 => exact .cons (dpx e d _ h1) (dpxs e ds _ h2)
end
end
abbrev Dm (K : PySem.W.Frag) (M : List Addr) (H : Hp) (v : V) (d : PyData) : Prop := Dp K (mi H M) v d
abbrev Dms (K : PySem.W.Frag) (M : List Addr) (H : Hp) (vs : List V) (ds : List PyData) : Prop := DpAll K (mi H M) vs ds
section
variable {K : PySem.W.Frag} {H H' : Hp} {M M' : List Addr} {v : V} {d : PyData} {vs : List V} {ds : List PyData}
theorem dm_ex (e : Ex H H') (h : Dm K M H v d) : Dm K M H' v d := dpx (ex_mi e) d v h
theorem dms_ex (e : Ex H H') (h : Dms K M H vs ds) : Dms K M H' vs ds := dpxs (ex_mi e) ds vs h
theorem dm_exM (e : ExM M H H') (h : Dm K M H v d) : Dm K M H' v d := dpx (exM_mi e) d v h
theorem dms_exM (e : ExM M H H') (h : Dms K M H vs ds) : Dms K M H' vs ds := dpxs (exM_mi e) ds vs h
theorem dm_add {p : Addr} (n : H p = none) (h : Dm K M H v d) : Dm K (p :: M) H v d := dpx (ex_add n) d v h
theorem dms_add {p : Addr} (n : H p = none) (h : Dms K M H vs ds) : Dms K (p :: M) H vs ds := dpxs (ex_add n) ds vs h
theorem dm_less {p : Addr} (h : Dm K (p :: M) H v d) : Dm K M H v d := dpx (ex_less fun m hm => List.mem_cons_of_mem p hm) d v h
theorem dms_less {p : Addr} (h : Dms K (p :: M) H vs ds) : Dms K M H vs ds := dpxs (ex_less fun m hm => List.mem_cons_of_mem p hm) ds vs h
theorem dm_full (h : Dm K M H v d) : Dp K H v d := dpx (ex_full H M) d v h
theorem dms_full (h : Dms K M H vs ds) : DpAll K H vs ds := dpxs (ex_full H M) ds vs h
theorem dm_none (h : Dp K H v d) : Dm K [] H v d := dpx (fun a o q => mi_of (by simp) q) d v h
theorem dpa_len : ∀ {vs : List V} {ds : List PyData}, DpAll K H vs ds → vs.length = ds.length
  | _, _, .nil => rfl
  | _, _, .cons _ t => congrArg (· + 1) (dpa_len t)
theorem dpa_get : ∀ {vs : List V} {ds : List PyData} {i : Nat} {d : PyData}, DpAll K H vs ds → ds[i]? = some d → ∃ v, vs[i]? = some v ∧ Dp K H v d
  | _, _, _, _, .nil, e => by simp at e
  | _, _, 0, _, .cons r _, e => by
    simp at e
    subst e
    exact ⟨_, rfl, r⟩
  | _, _, i + 1, d, .cons _ t, e => by
    obtain ⟨v, h1, h2⟩ := dpa_get (i := i) (d := d) t (by simpa using e)
    exact ⟨v, by simpa using h1, h2⟩
theorem dpa_get' : ∀ {vs : List V} {ds : List PyData} {i : Nat} {v : V}, DpAll K H vs ds → vs[i]? = some v → ∃ d, ds[i]? = some d ∧ Dp K H v d
  | _, _, _, _, .nil, e => by simp at e
  | _, _, 0, _, .cons r _, e => by
    simp at e
    subst e
    exact ⟨_, rfl, r⟩
  | _, _, i + 1, d, .cons _ t, e => by
    obtain ⟨v, h1, h2⟩ := dpa_get' (i := i) t (by simpa using e)
    exact ⟨v, by simpa using h1, h2⟩
theorem dpa_at {i : Int} (h : DpAll K H vs ds) (e : atI ds i = some d) : ∃ v, atI vs i = some v ∧ Dp K H v d := by
  unfold atI at e ⊢
  rw [dpa_len h]
  cases q : ixN ds.length i with
  | none => rw [q] at e; cases e
  | some j =>
    rw [q] at e
    exact dpa_get h e
theorem dpa_app : ∀ {vs us : List V} {ds es : List PyData}, DpAll K H vs ds → DpAll K H us es → DpAll K H (vs ++ us) (ds ++ es)
  | _, _, _, _, .nil, s => s
  | _, _, _, _, .cons r t, s => .cons r (dpa_app t s)
theorem dpa1 {d : PyData} (h : DpAll K H vs [d]) : ∃ v, vs = [v] ∧ Dp K H v d := by
  cases h with | cons h1 h2 => cases h2; exact ⟨_, rfl, h1⟩
theorem dpa2 {d e : PyData} (h : DpAll K H vs [d, e]) : ∃ v u, vs = [v, u] ∧ Dp K H v d ∧ Dp K H u e := by
  cases h with | cons h1 h2 => obtain ⟨u, rfl, h3⟩ := dpa1 h2; exact ⟨_, u, rfl, h1, h3⟩
theorem dpa3 {d e f : PyData} (h : DpAll K H vs [d, e, f]) : ∃ v u t, vs = [v, u, t] ∧ Dp K H v d ∧ Dp K H u e ∧ Dp K H t f := by
  cases h with | cons h1 h2 => obtain ⟨u, t, rfl, h4, h3⟩ := dpa2 h2; exact ⟨_, u, t, rfl, h1, h4, h3⟩
theorem dpInt {v : V} {i : Int} (h : Dp K H v (.int i)) : v = .int i := by cases h; rfl
theorem dpStr {v : V} {x : Str} (h : Dp K H v (.str x)) : v = .str x := by cases h; rfl
/-- the value of a scalar datum -/
def scV : PyData → Option V
  | .none => some .non
  | .bool b => some (.bl b)
  | .int i => some (.int i)
  | .str x => some (.str x)
  | _ => none
theorem sc_val (h : Dp K H v d) {u : V} (e : scV d = some u) : v = u := by
  cases h <;> first | (cases e; rfl) | cases e
theorem sc_dp {u : V} (e : scV d = some u) : Dp K H u d := by
  cases d <;> first | (cases e; constructor) | cases e
end
def DE (K : PySem.W.Frag) (M : List Addr) (te : TE) (σ : L2.St) (H : Hp) (d : PyData) : Prop := ∀ H1, Ex H H1 → ∀ Q : VK, (∀ v H2, Ex H1 H2 → Dm K M H2 v d → Q v H2) → te σ H1 Q
def DA (K : PySem.W.Frag) (M : List Addr) (ta : TA) (σ : L2.St) (H : Hp) (ds : List PyData) : Prop := ∀ H1, Ex H H1 → ∀ Q : List V → Hp → Prop, (∀ vs H2, Ex H1 H2 → Dms K M H2 vs ds → Q vs H2) → ta σ H1 Q
/-- a new list -/
def DL (K : PySem.W.Frag) (M : List Addr) (te : TE) (σ : L2.St) (H : Hp) (ds : List PyData) : Prop := ∀ H1, Ex H H1 → ∀ Q : VK, (∀ p vs H2, H1 p = none → Ex H1 H2 → H2 p = some (.lst vs) → Dms K (p :: M) H2 vs ds → Q (.ref p) H2) → te σ H1 Q
section
variable {K : PySem.W.Frag} {M : List Addr} {σ : L2.St} {H H' : Hp} {te ta tb : TE} {t : TA} {d e : PyData} {ds es : List PyData} {v : V}
theorem DE.mono (x : Ex H H') (h : DE K M te σ H d) : DE K M te σ H' d := fun H1 a Q q => h H1 (x.trans a) Q q
theorem DA.mono (x : Ex H H') (h : DA K M t σ H ds) : DA K M t σ H' ds := fun H1 a Q q => h H1 (x.trans a) Q q
theorem de_ev (h : Ev te σ H v) (hd : Dm K M H v d) : DE K M te σ H d := fun H1 x Q q => h H1 x Q fun H2 x2 => q v H2 x2 (dm_ex (x.trans x2) hd)
theorem de_v {i : Nat} (hd : Dm K M H v d) (h : σ[i]? = some (some v)) : DE K M (tVar i) σ H d := de_ev (ev_var h) hd
theorem de_sc {u : V} (h : Ev te σ H u) (e : scV d = some u) : DE K M te σ H d := fun H1 x Q q => h H1 x Q fun H2 x2 => q u H2 x2 (sc_dp e)
theorem ev_sc {u : V} (h : DE K M te σ H d) (e : scV d = some u) : Ev te σ H u := fun H1 x Q q => h H1 x Q fun v H2 x2 hd => by
  rw [sc_val hd e]
  exact q H2 x2
theorem da_nil : DA K M tNil σ H [] := fun H1 _ _ q => q [] H1 (Ex.refl H1) .nil
theorem da_cons (h : DE K M te σ H d) (hr : DA K M t σ H ds) : DA K M (tCons te t) σ H (d :: ds) := fun H1 x _ q =>
  h H1 x _ fun v H2 x2 hd => hr H2 (x.trans x2) _ fun vs H3 x3 hs => q _ H3 (x2.trans x3) (.cons (dm_ex x3 hd) hs)
theorem da_dl (h : DL K M te σ H es) (hM : Dom M H) (hr : DA K M t σ H ds) : DA K M (tCons te t) σ H (.list es :: ds) := fun H1 x _ q =>
  h H1 x _ fun p vs H2 n x2 hp hd => hr H2 (x.trans x2) _ fun us H3 x3 hs => q _ H3 (x2.trans x3)
    (.cons (.lst (sq_of (mi_of ((hM.ex x).nin n) (x3 _ _ hp))) (dms_ex x3 (dms_less hd))) hs)
theorem de_tup (hM : Dom M H) (h : DA K M t σ H ds) (hl : ds.length ≤ 1000) : DE K M (tTup t) σ H (.tuple ds) := fun H1 x _ q =>
  h H1 x _ fun vs H2 x2 hd => ⟨sz_of (by rw [dpa_len hd]; omega), fun p hp => q _ _ (x2.trans (Ex.new hp)) (.tup (st_of (mi_of ((hM.ex (x.trans x2)).nin hp) upd_same)) (dms_ex (Ex.new hp) hd))⟩
theorem dl_lst (h : DA K M t σ H ds) (hl : ds.length ≤ 1000) : DL K M (tLst t) σ H ds := fun H1 x _ q =>
  h H1 x _ fun vs H2 x2 hd => ⟨sz_of (by rw [dpa_len hd]; omega), fun p hp => q p vs _ (fresh_back x2 hp) (x2.trans (Ex.new hp)) upd_same (dms_ex (Ex.new hp) (dms_add hp hd))⟩
theorem de_dl (hM : Dom M H) (h : DL K M te σ H ds) : DE K M te σ H (.list ds) := fun H1 x Q q =>
  h H1 x Q fun p vs H2 n x2 hp hd => q _ H2 x2 (.lst (sq_of (mi_of ((hM.ex x).nin n) hp)) (dms_less hd))
/-- t[i], xs[i] -/
theorem de_ixT {i : Int} (ha : DE K M ta σ H (.tuple ds)) (hb : Ev tb σ H (.int i)) (e : atI ds i = some d) : DE K M (tOp (rIxT K) ta tb) σ H d := fun H1 x Q q =>
  ha H1 x _ fun v H2 x2 hd => hb H2 (x.trans x2) _ fun H3 x3 => by
    have hd3 := dm_ex x3 hd
    cases hd3 with
    | tup hs hv =>
      rename_i p xs
      obtain ⟨u, hu, du⟩ := dpa_at hv e
      exact ⟨p, xs, i, u, rfl, rfl, ex_t (ex_full _ _) hs, hu, q u H3 (x2.trans x3) du⟩
theorem de_ixL {i : Int} (ha : DE K M ta σ H (.list ds)) (hb : Ev tb σ H (.int i)) (e : atI ds i = some d) : DE K M (tOp (rIxL K) ta tb) σ H d := fun H1 x Q q =>
  ha H1 x _ fun v H2 x2 hd => hb H2 (x.trans x2) _ fun H3 x3 => by
    have hd3 := dm_ex x3 hd
    cases hd3 with
    | lst hs hv =>
      rename_i p xs
      obtain ⟨u, hu, du⟩ := dpa_at hv e
      exact ⟨p, xs, i, u, rfl, rfl, ex_l (ex_full _ _) hs, hu, q u H3 (x2.trans x3) du⟩
/-- len -/
theorem ev_lenD {ys : List PyData} (ha : DE K M ta σ H d) (e : d = .tuple ys ∨ d = .list ys) : Ev (tCB (rLenS K) (tCons ta tNil)) σ H (.int (ys.length : Int)) := fun H1 x Q q =>
  ha H1 x _ fun v H2 x2 hd => by
    have hf := dm_full hd
    rcases e with rfl | rfl
    · cases hf with
      | tup hs hv =>
        refine ⟨_, _, rfl, .inr hs, ?_⟩
        rw [dpa_len hv]
        exact q H2 x2
    · cases hf with
      | lst hs hv =>
        refine ⟨_, _, rfl, .inl hs, ?_⟩
        rw [dpa_len hv]
        exact q H2 x2
/-- a call of a def that gives a datum -/
def SpD (K : PySem.W.Frag) (M : List Addr) (sp : Sp) (ds : List PyData) (H : Hp) (r : PyData) : Prop := ∀ H1, Ex H H1 → ∀ vs, Dms K M H1 vs ds → ∀ Q : VK, (∀ v H2, Ex H1 H2 → Dm K M H2 v r → Q v H2) → ∀ E : XK, sp vs H1 Q E
theorem de_call {sp : Sp} {E : XK} {r : PyData} (h : DA K M t σ H ds) (hs : SpD K M sp ds H r) : DE K M (tCall sp [] E t) σ H r := fun H1 x Q q =>
  h H1 x _ fun vs H2 x2 hd => by
    rw [List.append_nil]
    exact hs H2 (x.trans x2) vs hd Q (fun v H3 x3 h3 => q v H3 (x2.trans x3) h3) E
/-- the promise of a def upon data: R ds r -/
def spR (K : PySem.W.Frag) (R : List PyData → PyData → Prop) : Sp := fun vs H Q _ => ∃ M ds r, Dom M H ∧ Dms K M H vs ds ∧ R ds r ∧ ∀ v H', Ex H H' → Dm K M H' v r → Q v H'
theorem spD_R {R : List PyData → PyData → Prop} {r : PyData} (hM : Dom M H) (h : R ds r) : SpD K M (spR K R) ds H r := fun H1 x vs hv Q q E => ⟨M, ds, r, hM.ex x, hv, h, q⟩
theorem de_callR {R : List PyData → PyData → Prop} {E : XK} {r : PyData} (hM : Dom M H) (h : DA K M t σ H ds) (hR : R ds r) : DE K M (tCall (spR K R) [] E t) σ H r := de_call h (spD_R hM hR)
/-- .. a new list of data -/
def spRL (K : PySem.W.Frag) (R : List PyData → List PyData → Prop) : Sp := fun vs H Q _ => ∃ M ds rs, Dom M H ∧ Dms K M H vs ds ∧ R ds rs ∧ ∀ p us H', H p = none → Ex H H' → H' p = some (.lst us) → Dms K (p :: M) H' us rs → Q (.ref p) H'
theorem dl_callR {R : List PyData → List PyData → Prop} {E : XK} {rs : List PyData} (hM : Dom M H) (h : DA K M t σ H ds) (hR : R ds rs) : DL K M (tCall (spRL K R) [] E t) σ H rs := fun H1 x Q q =>
  h H1 x _ fun vs H2 x2 hd => by
    rw [List.append_nil]
    exact ⟨M, ds, rs, hM.ex (x.trans x2), hd, hR, fun p us H3 n x3 hp h3 => q p us H3 (fresh_back x2 n) (x2.trans x3) hp h3⟩
/-- isinstance -/
def tyN : PyData → String
  | .none => "NoneType" | .bool _ => "bool" | .int _ => "int" | .str _ => "str" | .list _ => "list" | .tuple _ => "tuple" | .dict _ => "dict"
theorem tyx_of (h : Dp K H v d) : TyX K H v (.type (tyN d)) := by
  cases h with
  | non => exact .base .non
  | bl b => exact .base (.bl b)
  | int i => exact .base (.int i)
  | str x => exact .base (.str x)
  | lst hs _ =>
    rcases hs with (h | ⟨o, h⟩) | ⟨o, its, n, h, c, _⟩
    · exact .base (.lst h)
    · exact .base (.frz h)
    · exact .kList h c
  | tup hs _ =>
    rcases hs with (h | ⟨o, h⟩) | ⟨o, its, n, h, c, _⟩
    · exact .base (.tup h)
    · exact .fTuple h
    · exact .kTuple h c
theorem ev_isi {T : String} {b : Bool} (h : DE K M ta σ H d) (hb : kitB (tyN d) T = some b) : Ev (tCB (rIsi K) (tCons ta (tCons (tC (.ty T)) tNil))) σ H (.bl b) := fun H1 x Q q =>
  h H1 x _ fun v H2 x2 hd => ⟨v, .ty T, .type (tyN d), .type T, b, rfl, .ty T, tyx_of (dm_full hd), kit_ty hb, q H2 x2⟩
/-! ### statements -/
variable {D : Ends} {tz : TS} {i : Nat}
theorem q_asgD (h : DE K M te σ H d) (k : ∀ v H1, Ex H H1 → Dm K M H1 v d → tz D (σ.set i (some v)) H1) : tSeq (tAsg te (gName i)) tz D σ H := h H (Ex.refl H) _ fun v H1 x hd => k v H1 x hd
theorem q_asgDL (h : DL K M te σ H ds) (k : ∀ p vs H1, H p = none → Ex H H1 → H1 p = some (.lst vs) → Dms K (p :: M) H1 vs ds → tz D (σ.set i (some (.ref p))) H1) : tSeq (tAsg te (gName i)) tz D σ H := h H (Ex.refl H) _ fun p vs H1 n x hp hd => k p vs H1 n x hp hd
theorem s_retD (h : DE K M te σ H d) (k : ∀ v H1, Ex H H1 → Dm K M H1 v d → D.rt v H1) : tRet te D σ H := h H (Ex.refl H) _ fun v H1 x hd => k v H1 x hd
theorem s_retDL (h : DL K M te σ H ds) (k : ∀ p vs H1, H p = none → Ex H H1 → H1 p = some (.lst vs) → Dms K (p :: M) H1 vs ds → D.rt (.ref p) H1) : tRet te D σ H := h H (Ex.refl H) _ fun p vs H1 n x hp hd => k p vs H1 n x hp hd
/-! ### comprehensions -/
/-- [e for x in t], t a tuple of (l.map enc) -/
theorem dl_lcT {α : Type} {l : List α} {enc f : α → PyData} {tl : TE} {j : Nat} {ws : List Nat} (hM : Dom M H) (h : DE K M tl σ H (.tuple (l.map enc))) (hl : l.length ≤ 1000) (hw : ∀ x, wipe ((wipe σ ws).set j (some x)) ws = wipe σ ws)
    (he : ∀ a ∈ l, ∀ x H1 D, H D = none → Ex H H1 → Dom (D :: M) H1 → Dm K (D :: M) H1 x (enc a) → DE K (D :: M) te ((wipe σ ws).set j (some x)) H1 (f a)) : DL K M (tLc (iTup K tl) (gName j) tYes te ws) σ H (l.map f) := fun H0 x0 Q q => h H0 x0 _ fun v H1 x1 hd => by
  have hd' := hd
  cases hd' with
  | tup hs hv =>
  rename_i a xs
  refine ⟨a, rfl, ⟨xs, ex_t (ex_full _ _) hs⟩, fun Dl hD => ?_⟩
  have hD0 : H0 Dl = none := fresh_back x1 hD
  have hDH : H Dl = none := fresh_back x0 hD0
  have lenx : xs.length = l.length := by rw [dpa_len hv, List.length_map]
  refine lc_tup (xs := xs) (fun i H' => Ex H1 H' ∧ ∃ acc, H' Dl = some (.lst acc) ∧ Dms K (Dl :: M) H' acc ((l.take i).map f)) ⟨Ex.new hD, [], upd_same, .nil⟩ (fun i H' _ p => ex_t p.1 (ex_t (ex_full _ _) hs)) (fun i y H' hy p => ⟨hw y, ?_⟩) (fun H' p => ?_)
  · obtain ⟨p1, acc, p2, p3⟩ := p
    show te ((wipe σ ws).set j (some y)) H' _
    obtain ⟨ey, hey, dy⟩ := dpa_get' hv hy
    rw [List.getElem?_map] at hey
    cases hla : l[i]? with
    | none => rw [hla] at hey; cases hey
    | some la =>
      rw [hla] at hey
      obtain rfl : enc la = ey := Option.some.inj hey
      have hdom : Dom (Dl :: M) H' := ((hM.ex (x0.trans x1)).ex p1).cons (by rw [p2]; exact fun z => nomatch z)
      refine he la (List.mem_of_getElem? hla) y H' Dl hDH ((x0.trans x1).trans p1) hdom (dm_ex p1 (dm_add hD dy)) H' (Ex.refl _) _ fun w H2 x2 hw2 => ?_
      have eM : ExM (Dl :: M) H2 (upd H2 Dl (.lst (acc ++ [w]))) := ExM.mut (by simp)
      refine ⟨acc, x2 _ _ p2, sz_lt (by have := dpa_len p3; rw [List.length_map, List.length_take] at this; omega), (p1.trans x2).mut hD, acc ++ [w], upd_same, ?_⟩
      have e1 : (l.take (i + 1)).map f = (l.take i).map f ++ [f la] := by
        rw [List.take_add_one, hla, List.map_append]
        rfl
      rw [e1]
      exact dpa_app (dms_exM eM (dms_ex x2 p3)) (.cons (dm_exM eM hw2) .nil)
  · obtain ⟨p1, acc, p2, p3⟩ := p
    rw [lenx, List.take_length] at p3
    exact q Dl acc H' hD0 (x1.trans p1) p2 p3
end
/-! ### further words -/
section
variable {K : PySem.W.Frag} {M : List Addr} {σ : L2.St} {H : Hp} {ta tb tc : TE} {X : Cx}
theorem pe_globI {x : Str} {i : Int} {pos : Pos} (hg : Gl X x) (hm : ∃ t, X.mg x = some (.int i t)) (hd : (x == ("__debug__" : Str)) = false := by decide) : PE X (.Name x pos) (tC (.int i)) := by
  obtain ⟨t, hm⟩ := hm
  exact pe_glob hg hm ⟨t, rfl⟩ hd
theorem pe_globS {x : Str} {z : Str} {pos : Pos} (hg : Gl X x) (hm : ∃ t, X.mg x = some (.str z t)) (hd : (x == ("__debug__" : Str)) = false := by decide) : PE X (.Name x pos) (tC (.str z)) := by
  obtain ⟨t, hm⟩ := hm
  exact pe_glob hg hm ⟨t, rfl⟩ hd
/-- a statement that is not come to -/
theorem ps_never {st : Stmt} : PS X st (fun _ _ _ => False) := ⟨fun _ _ _ _ _ _ h => h.elim⟩
theorem ev_chain {f g : Int → Int → Bool} {x y z : Int} (ha : Ev ta σ H (.int x)) (hb : Ev tb σ H (.int y)) (hc : f x y = true → Ev tc σ H (.int z)) :
    Ev (tChain (rI0 fun i j => .bl (f i j)) (rI0 fun i j => .bl (g i j)) ta tb tc) σ H (.bl (f x y && g y z)) := fun H1 e Q q =>
  ha H1 e _ fun H2 e2 => hb H2 (e.trans e2) _ fun H3 e3 => ⟨x, y, rfl, rfl, f x y, rfl, by
    cases hf : f x y with
    | true =>
      rw [if_pos rfl]
      exact hc hf H3 ((e.trans e2).trans e3) _ fun H4 e4 => ⟨y, z, rfl, rfl, by
        have q' := q H4 ((e2.trans e3).trans e4)
        rw [hf] at q'
        exact q'⟩
    | false =>
      rw [if_neg Bool.false_ne_true]
      have q' := q H3 (e2.trans e3)
      rw [hf] at q'
      exact q'⟩
def isI : PyData → Bool
  | .int _ => true
  | _ => false
def isB : PyData → Bool
  | .bool _ => true
  | _ => false
def isTup : PyData → Bool
  | .tuple _ => true
  | _ => false
theorem kit_int (d : PyData) : kitB (tyN d) "int" = some (isI d || isB d) := by cases d <;> (simp only [tyN, isI, isB, isTup]; decide +kernel)
theorem kit_bool (d : PyData) : kitB (tyN d) "bool" = some (isB d) := by cases d <;> (simp only [tyN, isI, isB, isTup]; decide +kernel)
theorem kit_tuple (d : PyData) : kitB (tyN d) "tuple" = some (isTup d) := by cases d <;> (simp only [tyN, isI, isB, isTup]; decide +kernel)
theorem isI_eq (d : PyData) : ((isI d || isB d) && !isB d) = isI d := by cases d <;> rfl
theorem et_truL {p : Addr} {xs : List V} (ha : Ev ta σ H (.ref p)) (h : SqL K H p xs) : EvT (fun σ H Q => ta σ H fun x H' => ∃ k, TruV K x H' k ∧ Q k H') σ H (!xs.isEmpty) := fun H1 e Q q =>
  ha H1 e _ fun H2 e2 => ⟨!xs.isEmpty, .inl ⟨xs, ex_l (e.trans e2) h, rfl⟩, q H2 e2⟩
theorem dpa_snoc {d : PyData} : ∀ {ds : List PyData} {vs : List V}, DpAll K H vs (ds ++ [d]) → ∃ us y, vs = us ++ [y] ∧ DpAll K H us ds ∧ Dp K H y d
  | [], vs, h => by
    obtain ⟨v, rfl, hv⟩ := dpa1 h
    exact ⟨[], v, rfl, .nil, hv⟩
  | e :: ds, vs, h => by
    cases h with
    | cons h1 h2 =>
      obtain ⟨us, y, rfl, h3, h4⟩ := dpa_snoc h2
      exact ⟨_ :: us, y, rfl, .cons h1 h3, h4⟩
/-- f-strings -/
theorem ev_fmtS {y : Str} (h : Ev ta σ H (.str y)) (hl : y.length ≤ 100000) : Ev (tFmt ta) σ H (.str y) := fun H1 e Q q => h H1 e _ fun H2 e2 => .inl ⟨y, rfl, sz_of hl, q H2 e2⟩
theorem ev_fmtI {i : Int} (h : Ev ta σ H (.int i)) (hl : i.natAbs.log2 < 1920) : Ev (tFmt ta) σ H (.str (toString i)) := fun H1 e Q q => h H1 e _ fun H2 e2 => .inr ⟨i, rfl, hl, q H2 e2⟩
theorem js_all : ∀ {ts : List TE} {ys : List (List Nat)} {acc : List Nat}, Paired (fun (t : TE) (y : List Nat) => Ev t σ H (.str (SX.S y))) ts ys → (acc ++ ys.flatten).length ≤ 100000 →
    ∀ H1, Ex H H1 → ∀ Q : Str → Hp → Prop, (∀ H2, Ex H1 H2 → Q (SX.S (acc ++ ys.flatten)) H2) → tJs ts (SX.S acc) σ H1 Q
  | _, _, acc, .nil, _, H1, e, Q, q => by
    have q' := q H1 (Ex.refl _)
    simp only [List.flatten_nil, List.append_nil] at q'
    exact q'
  | _, _, acc, .cons (b := y) (l₂ := ys) r t, hl, H1, e, Q, q => by
    refine r H1 e _ fun H2 e2 => ⟨SX.S y, rfl, ?_, ?_⟩
    · rw [SX.S_cat, SX.S_len]
      refine sz_of ?_
      simp only [List.flatten_cons, List.length_append] at hl ⊢
      omega
    · rw [SX.S_cat]
      refine js_all (acc := acc ++ y) t ?_ H2 (e.trans e2) Q fun H3 e3 => ?_
      · rw [List.append_assoc, ← List.flatten_cons]
        exact hl
      · rw [List.append_assoc, ← List.flatten_cons]
        exact q H3 (e2.trans e3)
theorem ev_joined {ts : List TE} {ys : List (List Nat)} (h : Paired (fun (t : TE) (y : List Nat) => Ev t σ H (.str (SX.S y))) ts ys) (hl : ys.flatten.length ≤ 100000) :
    Ev (fun σ H Q => tJs ts Str.empty σ H fun out H1 => Q (.str out) H1) σ H (.str (SX.S ys.flatten)) := fun H1 e Q q =>
  js_all (acc := []) h hl H1 e _ fun H2 e2 => q H2 e2
/-- a text's item -/
theorem ev_ixS {z : List Nat} {i : Int} {c : Nat} (ha : Ev ta σ H (.str (SX.S z))) (hb : Ev tb σ H (.int i)) (hl : z.length ≤ 100000) (h : atI z i = some c) : Ev (tOp rIxS ta tb) σ H (.str (SX.S [c])) :=
  ev_op ha hb (rv_ixS (by rw [SX.S_len]; exact hl) h)
theorem dpa_strs {α : Type} {g : α → Str} : ∀ {l : List α} {vs : List V}, DpAll K H vs (l.map fun a => PyData.str (g a)) → vs = l.map fun a => V.str (g a)
  | [], _, h => by cases h; rfl
  | a :: l, _, h => by
    cases h with
    | cons h1 h2 =>
      obtain rfl := dpStr h1
      rw [dpa_strs h2]
      rfl
/-- sep.join([..]), the list new -/
theorem ev_join {sep : List Nat} {cs : List (List Nat)} (ho : Ev ta σ H (.str (SX.S sep))) (he : EvL tb σ H (cs.map fun y => V.str (SX.S y))) (hl : (cs.map List.length).sum + cs.length * sep.length ≤ 1000000) :
    Ev (tM1 (fun x xs H Q => ∃ a p, ∃ ys : List Str, x = .str a ∧ xs = [.ref p] ∧ (SqL K H p (ys.map V.str) ∨ SqT K H p (ys.map V.str)) ∧ (ys.map (·.length)).sum + ys.length * a.length ≤ 16777216 ∧ Q (.str (PySem.Txt.join a ys)) H) ta tb) σ H (.str (SX.S (TL.joinL sep cs))) := fun H1 e Q q =>
  ho H1 e _ fun H2 e2 => ⟨⟨_, rfl⟩, he H2 (e.trans e2) _ fun p H3 _ e3 hp => ⟨SX.S sep, p, cs.map SX.S, rfl, rfl, .inl (sq_of (by rw [hp, List.map_map]; rfl)), by rw [SX.lens, List.length_map, SX.S_len]; have e0 : (cs.map fun x => x.length).sum = (cs.map List.length).sum := rfl; omega, by
    rw [SX.join_S]
    exact q H3 (e2.trans e3)⟩⟩
end
end DD

set_option Elab.async false
set_option linter.all false
set_option maxRecDepth 100000
set_option maxHeartbeats 2000000
namespace DK
open PySem PySem.Spec PyProof.Rows L2 Evl
section
variable {K : PySem.W.Frag} {H H' : Hp}
mutual
theorem dp_ex (e : Ex H H') : ∀ (d : PyData) (v : V), Dp K H v d → Dp K H' v d
  | .none, _, h => by cases h; exact .non
  | .bool _, _, h => by cases h; exact .bl _
  | .int _, _, h => by cases h; exact .int _
  | .str _, _, h => by cases h; exact .str _
  | .list ds, _, h => by
    cases h with
    | lst h1 h2 => exact .lst (ex_l e h1) (dp_exAll e ds _ h2)
  | .tuple ds, _, h => by
    cases h with
    | tup h1 h2 => exact .tup (ex_t e h1) (dp_exAll e ds _ h2)
  | .dict _, _, h => by cases h
theorem dp_exAll (e : Ex H H') : ∀ (ds : List PyData) (vs : List V), DpAll K H vs ds → DpAll K H' vs ds
  | [], _, h => by cases h; exact .nil
  | d :: ds, _, h => by
    cases h with
    | cons h1 h2 => exact .cons (dp_ex e d _ h1) (dp_exAll e ds _ h2)
end
mutual
theorem eqv_same : ∀ d : PyData, d.canLay0 = true → PyData.eqv d d = true
  | .none, _ => rfl
  | .bool b, _ => by simp [PyData.eqv]
  | .int i, _ => by simp [PyData.eqv]
  | .str x, _ => by simp [PyData.eqv]
  | .list xs, h => by
    simp only [PyData.eqv]
    exact eqv_sameAll xs (by simpa [PyData.canLay0] using h)
  | .tuple xs, h => by
    simp only [PyData.eqv]
    exact eqv_sameAll xs (by simpa [PyData.canLay0] using h)
  | .dict _, h => by simp [PyData.canLay0] at h
theorem eqv_sameAll : ∀ ds : List PyData, PyData.canLayAll0 ds = true → PyData.eqvAll ds ds = true
  | [], _ => rfl
  | d :: ds, h => by
    have h' : d.canLay0 = true ∧ PyData.canLayAll0 ds = true := by simpa [PyData.canLayAll0] using h
    simp only [PyData.eqvAll]
    rw [eqv_same d h'.1, eqv_sameAll ds h'.2] <;> rfl
end
theorem rv_neD {x y : V} {d e : PyData} (hd : Dp K H x d) (he : Dp K H y e) (sd : SeqAt.shaped d = true) (se : SeqAt.shaped e = true) : RV (rNeD K) x y H (.bl (!PyData.eqv d e)) :=
  fun H1 e1 _ q => ⟨d, e, dp_ex e1 d _ hd, dp_ex e1 e _ he, sd, se, q H1 (Ex.refl H1)⟩
theorem rv_eqD {x y : V} {d e : PyData} (hd : Dp K H x d) (he : Dp K H y e) (sd : SeqAt.shaped d = true) (se : SeqAt.shaped e = true) : RV (rEqD K) x y H (.bl (PyData.eqv d e)) :=
  fun H1 e1 _ q => ⟨d, e, dp_ex e1 d _ hd, dp_ex e1 e _ he, sd, se, q H1 (Ex.refl H1)⟩
theorem rv_neS {x y : V} {d : PyData} (hd : Dp K H x d) (he : Dp K H y d) (sd : SeqAt.shaped d = true) : RV (rNeD K) x y H (.bl false) := by
  have h := rv_neD hd he sd sd
  rw [eqv_same d (SeqAt.canLay_of_shaped sd)] at h
  exact h
theorem dp_bools : ∀ bs : List Bool, DpAll K H (bs.map V.bl) (bs.map PyData.bool)
  | [] => .nil
  | b :: bs => .cons (.bl b) (dp_bools bs)
theorem shaped_bools (bs : List Bool) : SeqAt.shaped (.list (bs.map PyData.bool)) = true := by
  have h1 : ∀ bs : List Bool, PyData.canLayAll0 (bs.map PyData.bool) = true ∧ PyData.depthAll (bs.map PyData.bool) = 0 := fun bs => by
    induction bs with
    | nil => exact ⟨rfl, rfl⟩
    | cons b bs ih => simp [PyData.canLayAll0, PyData.canLay0, PyData.depthAll, PyData.depth, ih.1, ih.2]
  simp [SeqAt.shaped, PyData.canLay0, PyData.depth, (h1 bs).1, (h1 bs).2]
end
end DK

set_option Elab.async false
set_option linter.all false
set_option maxRecDepth 100000
set_option maxHeartbeats 1000000
/-! Terms as data. -/
namespace TM
open PySem PySem.Spec PyProof.Rows L2 Evl DK DD
inductive Hd where | least | most | rank (k : Nat)
inductive Trm where | price (s : Nat) (a : Int) | plain (n : Int) | node (h : Hd) (ps : List Trm)
mutual
def enc : Trm → PyData
  | .price s a => .tuple [.str "price", .int s, .int a]
  | .plain n => .tuple [.str "plain", .int n]
  | .node .least ps => .tuple [.str "least", .tuple (encs ps)]
  | .node .most ps => .tuple [.str "most", .tuple (encs ps)]
  | .node (.rank k) ps => .tuple [.str "rank", .int k, .tuple (encs ps)]
def encs : List Trm → List PyData
  | [] => []
  | t :: ts => enc t :: encs ts
end
theorem encs_map : ∀ ts : List Trm, encs ts = ts.map enc
  | [] => by simp [encs]
  | t :: ts => by simp [encs, encs_map ts]
mutual
def cnt : Trm → Nat
  | .price _ _ => 1
  | .plain _ => 1
  | .node _ ps => cnts ps + 1
def cnts : List Trm → Nat
  | [] => 0
  | t :: ts => cnt t + cnts ts
end
mutual
def dep : Trm → Nat
  | .price _ _ => 1
  | .plain _ => 1
  | .node _ ps => deps ps + 1
def deps : List Trm → Nat
  | [] => 0
  | t :: ts => max (dep t) (deps ts)
end
def big30 (n : Int) : Prop := -(10 ^ 30) ≤ n ∧ n ≤ 10 ^ 30
def hdOk (h : Hd) (m : Nat) : Prop := match h with
  | .rank k => 1 ≤ k ∧ k ≤ m
  | _ => True
mutual
/-- by the numbers of the document, but for the bounds of levels and terms -/
def wf : Trm → Prop
  | .price s a => s ≤ 5 ∧ big30 a
  | .plain n => big30 n
  | .node h ps => 1 ≤ ps.length ∧ ps.length ≤ 6 ∧ hdOk h ps.length ∧ wfs ps
def wfs : List Trm → Prop
  | [] => True
  | t :: ts => wf t ∧ wfs ts
end
theorem wfs_mem : ∀ {ts : List Trm} {t : Trm}, wfs ts → t ∈ ts → wf t
  | a :: ts, t, h, m => by
    simp only [wfs] at h
    rcases List.mem_cons.mp m with rfl | m
    · exact h.1
    · exact wfs_mem h.2 m
theorem wfs_all : ∀ {ts : List Trm}, (∀ t ∈ ts, wf t) → wfs ts
  | [], _ => by simp [wfs]
  | a :: ts, h => by
    simp only [wfs]
    exact ⟨h a (by simp), wfs_all fun t ht => h t (List.mem_cons_of_mem _ ht)⟩
theorem cnt_pos : ∀ t : Trm, 1 ≤ cnt t
  | .price _ _ => by simp [cnt]
  | .plain _ => by simp [cnt]
  | .node _ ps => by simp [cnt]
theorem dep_pos : ∀ t : Trm, 1 ≤ dep t
  | .price _ _ => by simp [dep]
  | .plain _ => by simp [dep]
  | .node _ ps => by simp [dep]
theorem deps_mem : ∀ {ts : List Trm} {t : Trm}, t ∈ ts → dep t ≤ deps ts
  | a :: ts, t, m => by
    simp only [deps]
    rcases List.mem_cons.mp m with rfl | m
    · omega
    · have := deps_mem m
      omega
theorem cnts_app : ∀ (xs ys : List Trm), cnts (xs ++ ys) = cnts xs + cnts ys
  | [], ys => by simp [cnts]
  | x :: xs, ys => by
    rw [List.cons_append]
    simp only [cnts, cnts_app xs ys]
    omega
def kids : Trm → List Trm
  | .node _ ps => ps
  | _ => []
def leaf : Trm → Bool
  | .node _ _ => false
  | _ => true
theorem cnt_kids (t : Trm) : cnt t = cnts (kids t) + 1 := by
  cases t <;> simp [cnt, kids, cnts]
theorem dep_kids {t u : Trm} (h : u ∈ kids t) : dep u + 1 ≤ dep t := by
  cases t with
  | node h' ps =>
    have := deps_mem (show u ∈ ps from h)
    simp only [dep]
    omega
  | price _ _ => cases h
  | plain _ => cases h
theorem wf_kids {t u : Trm} (w : wf t) (h : u ∈ kids t) : wf u := by
  cases t with
  | node h' ps =>
    simp only [wf] at w
    exact wfs_mem w.2.2.2 h
  | price _ _ => cases h
  | plain _ => cases h
/-- the word a term begins with -/
def word : Trm → Str
  | .price _ _ => "price"
  | .plain _ => "plain"
  | .node .least _ => "least"
  | .node .most _ => "most"
  | .node (.rank _) _ => "rank"
/-- the data of a term's tuple -/
def encL : Trm → List PyData
  | .price s a => [.str "price", .int s, .int a]
  | .plain n => [.str "plain", .int n]
  | .node .least ps => [.str "least", .tuple (ps.map enc)]
  | .node .most ps => [.str "most", .tuple (ps.map enc)]
  | .node (.rank k) ps => [.str "rank", .int k, .tuple (ps.map enc)]
theorem enc_eq (t : Trm) : enc t = .tuple (encL t) := by
  match t with
  | .price s a => simp only [enc, encL]
  | .plain n => simp only [enc, encL]
  | .node .least ps => simp only [enc, encL, encs_map]
  | .node .most ps => simp only [enc, encL, encs_map]
  | .node (.rank k) ps => simp only [enc, encL, encs_map]
theorem encL_word (t : Trm) : atI (encL t) 0 = some (.str (word t)) := by
  match t with
  | .price s a => rfl
  | .plain n => rfl
  | .node .least ps => rfl
  | .node .most ps => rfl
  | .node (.rank k) ps => rfl
theorem encL_kids {t : Trm} (h : leaf t = false) : atI (encL t) (-1) = some (.tuple ((kids t).map enc)) := by
  match t, h with
  | .node .least ps, _ => rfl
  | .node .most ps, _ => rfl
  | .node (.rank k) ps, _ => rfl
theorem leaf_word (t : Trm) : leaf t = (decide (V.str (word t) = V.str "price") || decide (V.str (word t) = V.str "plain")) := by
  match t with
  | .price s a => rfl
  | .plain n => rfl
  | .node .least ps => rfl
  | .node .most ps => rfl
  | .node (.rank k) ps => rfl
theorem leaf_kids {t : Trm} (h : leaf t = true) : kids t = [] := by
  cases t with
  | node h' ps => cases h
  | price _ _ => rfl
  | plain _ => rfl
def num (n : Int) : Bool := decide (-(10 ^ 30) ≤ n) && decide (n ≤ 10 ^ 30)
/-- is it of the form of a term, if its parts are terms -/
def form : Trm → Bool
  | .price s a => (decide ((0 : Int) ≤ (s : Int)) && decide ((s : Int) ≤ 5)) && num a
  | .plain n => num n
  | .node (.rank k) ps => (decide ((1 : Int) ≤ (ps.length : Int)) && decide ((ps.length : Int) ≤ 6)) && (decide ((1 : Int) ≤ (k : Int)) && decide ((k : Int) ≤ (ps.length : Int)))
  | .node _ ps => decide ((1 : Int) ≤ (ps.length : Int)) && decide ((ps.length : Int) ≤ 6)
theorem encL_len (t : Trm) : (encL t).length ≤ 3 ∧ 2 ≤ (encL t).length := by
  match t with
  | .price s a => exact ⟨by simp [encL], by simp [encL]⟩
  | .plain n => exact ⟨by simp [encL], by simp [encL]⟩
  | .node .least ps => exact ⟨by simp [encL], by simp [encL]⟩
  | .node .most ps => exact ⟨by simp [encL], by simp [encL]⟩
  | .node (.rank k) ps => exact ⟨by simp [encL], by simp [encL]⟩
mutual
/-- each term in it has the form -/
def fr : Trm → Bool
  | .price s a => form (.price s a)
  | .plain n => form (.plain n)
  | .node h ps => form (.node h ps) && frs ps
def frs : List Trm → Bool
  | [] => true
  | t :: ts => fr t && frs ts
end
theorem frs_iff : ∀ {ts : List Trm}, frs ts = true ↔ ∀ t ∈ ts, fr t = true
  | [] => by simp [frs]
  | a :: ts => by
    simp only [frs, Bool.and_eq_true, List.mem_cons, forall_eq_or_imp]
    exact and_congr Iff.rfl frs_iff
theorem fr_iff (t : Trm) : fr t = true ↔ form t = true ∧ ∀ u ∈ kids t, fr u = true := by
  cases t with
  | price s a => simp [fr, kids]
  | plain n => simp [fr, kids]
  | node h ps =>
    simp only [fr, Bool.and_eq_true, kids]
    exact and_congr Iff.rfl frs_iff
theorem deps_le {n : Nat} : ∀ {ts : List Trm}, deps ts ≤ n ↔ ∀ t ∈ ts, dep t ≤ n
  | [] => by simp [deps]
  | a :: ts => by
    simp only [deps, List.mem_cons, forall_eq_or_imp]
    have := deps_le (n := n) (ts := ts)
    constructor
    · intro h
      exact ⟨by omega, this.mp (by omega)⟩
    · intro h
      have := this.mpr h.2
      omega
theorem dep_iff (t : Trm) (n : Nat) : dep t ≤ n + 1 ↔ ∀ u ∈ kids t, dep u ≤ n := by
  cases t with
  | price s a => simp [dep, kids]
  | plain n => simp [dep, kids]
  | node h ps =>
    simp only [dep, kids]
    rw [← deps_le]
    omega
theorem form_kids {t : Trm} (h : form t = true) : (kids t).length ≤ 6 := by
  match t, h with
  | .price s a, _ => simp [kids]
  | .plain n, _ => simp [kids]
  | .node (.rank k) ps, h => simp [form] at h; simp only [kids]; omega
  | .node .least ps, h => simp [form] at h; simp only [kids]; omega
  | .node .most ps, h => simp [form] at h; simp only [kids]; omega
/-- the document's bounds -/
def okT (t : Trm) : Prop := cnt t ≤ 40 ∧ dep t ≤ 6 ∧ fr t = true
def good (e : Trm × Nat) : Prop := e.2 + dep e.1 ≤ 7 ∧ fr e.1 = true
theorem good_iff (t : Trm) (lv : Nat) : good (t, lv) ↔ lv ≤ 6 ∧ form t = true ∧ ∀ u ∈ kids t, good (u, lv + 1) := by
  unfold good
  have h1 := fr_iff t
  have hd := dep_pos t
  constructor
  · rintro ⟨a, b⟩
    obtain ⟨b1, b2⟩ := h1.mp b
    refine ⟨by simp only at a; omega, b1, fun u hu => ⟨?_, b2 u hu⟩⟩
    have := dep_kids hu
    simp only at a ⊢
    omega
  · rintro ⟨a, b, c⟩
    refine ⟨?_, h1.mpr ⟨b, fun u hu => (c u hu).2⟩⟩
    have : dep t ≤ (6 - lv) + 1 := (dep_iff t (6 - lv)).mpr fun u hu => by
      have := (c u hu).1
      simp only at this
      omega
    simp only
    omega
mutual
/-- its shops are below sh, its numbers within mo -/
def inB (sh mo : Int) : Trm → Prop
  | .price s a => (s : Int) < sh ∧ -mo ≤ a ∧ a ≤ mo
  | .plain n => -mo ≤ n ∧ n ≤ mo
  | .node _ ps => inBs sh mo ps
def inBs (sh mo : Int) : List Trm → Prop
  | [] => True
  | t :: ts => inB sh mo t ∧ inBs sh mo ts
end
theorem inBs_iff {sh mo : Int} : ∀ {ts : List Trm}, inBs sh mo ts ↔ ∀ t ∈ ts, inB sh mo t
  | [] => by simp [inBs]
  | a :: ts => by
    simp only [inBs, List.mem_cons, forall_eq_or_imp]
    exact and_congr Iff.rfl inBs_iff
/-- how many terms a term of so many levels has at most, each with at most three parts -/
def cap : Nat → Nat
  | 0 => 0
  | l + 1 => 1 + 3 * cap l
/-- what a law draws -/
structure Gen (sh mo : Int) (l : Nat) (t : Trm) : Prop where
  fr : fr t = true
  dep : dep t ≤ l
  cnt : cnt t ≤ cap l
  inB : inB sh mo t
theorem cnts_le {m : Nat} : ∀ {ts : List Trm}, (∀ t ∈ ts, cnt t ≤ m) → cnts ts ≤ ts.length * m
  | [], _ => by simp [cnts]
  | a :: ts, h => by
    have h1 := h a (by simp)
    have h2 := cnts_le (ts := ts) (m := m) fun t ht => h t (List.mem_cons_of_mem _ ht)
    simp only [cnts, List.length_cons, Nat.succ_mul]
    omega
theorem num_of {mo a : Int} (h1 : -mo ≤ a) (h2 : a ≤ mo) (hm : mo ≤ 10 ^ 30) : num a = true := by
  unfold num
  rw [decide_eq_true (by omega), decide_eq_true (by omega)] <;> rfl
theorem Gen.plain {sh mo a : Int} {l : Nat} (h1 : -mo ≤ a) (h2 : a ≤ mo) (hm : mo ≤ 10 ^ 30) : Gen sh mo (l + 1) (.plain a) :=
  ⟨by simp only [TM.fr, form]; exact num_of h1 h2 hm, by simp [TM.dep], by simp only [TM.cnt, cap]; omega, by simp only [TM.inB]; exact ⟨h1, h2⟩⟩
theorem Gen.price {sh mo a : Int} {s l : Nat} (h0 : (s : Int) < sh) (h6 : sh ≤ 6) (h1 : -mo ≤ a) (h2 : a ≤ mo) (hm : mo ≤ 10 ^ 30) : Gen sh mo (l + 1) (.price s a) :=
  ⟨by
    simp only [TM.fr, form]
    rw [num_of h1 h2 hm, decide_eq_true (by omega), decide_eq_true (by omega)] <;> rfl, by simp [TM.dep], by simp only [TM.cnt, cap]; omega, by simp only [TM.inB]; exact ⟨h0, h1, h2⟩⟩
theorem Gen.node {sh mo : Int} {l : Nat} {h : Hd} {ps : List Trm} (h1 : 1 ≤ ps.length) (h3 : ps.length ≤ 3) (hh : hdOk h ps.length) (hp : ∀ t ∈ ps, Gen sh mo l t) : Gen sh mo (l + 1) (.node h ps) := by
  refine ⟨?_, ?_, ?_, ?_⟩
  · rw [fr_iff]
    refine ⟨?_, fun u hu => (hp u hu).fr⟩
    cases h with
    | least => simp only [form]; rw [decide_eq_true (by omega), decide_eq_true (by omega)] <;> rfl
    | most => simp only [form]; rw [decide_eq_true (by omega), decide_eq_true (by omega)] <;> rfl
    | rank k =>
      simp only [hdOk] at hh
      simp only [form]
      rw [decide_eq_true (by omega), decide_eq_true (by omega), decide_eq_true (by omega), decide_eq_true (by omega)] <;> rfl
  · rw [dep_iff]
    exact fun u hu => (hp u hu).dep
  · have := cnts_le (m := cap l) fun t ht => (hp t ht).cnt
    simp only [TM.cnt, cap]
    have h4 : ps.length * cap l ≤ 3 * cap l := Nat.mul_le_mul_right _ h3
    omega
  · simp only [TM.inB]
    exact inBs_iff.mpr fun u hu => (hp u hu).inB
theorem Gen.okT {sh mo : Int} {l : Nat} {t : Trm} (h : Gen sh mo l t) (hl : l ≤ 4) : okT t := by
  refine ⟨?_, by have := h.dep; omega, h.fr⟩
  have := h.cnt
  have hc : cap l ≤ 40 := by
    match l, hl with
    | 0, _ => decide
    | 1, _ => decide
    | 2, _ => decide
    | 3, _ => decide
    | 4, _ => decide
  omega
theorem cnts_mem : ∀ {ts : List Trm} {t : Trm}, t ∈ ts → cnt t ≤ cnts ts
  | a :: ts, t, h => by
    simp only [cnts]
    rcases List.mem_cons.mp h with rfl | h
    · omega
    · have := cnts_mem h
      omega
end TM

set_option Elab.async false
set_option linter.all false
set_option maxRecDepth 100000
set_option maxHeartbeats 1000000
/-! Terms as texts: codes of what is written. -/
namespace TX
open PySem PySem.Spec PyProof.Rows L2 Evl DK DD TM SX PySem.W
/-- the digits of a number -/
def dg (n : Nat) : List Nat := (Nat.toDigits 10 n).map Char.toNat
theorem str_nat (n : Nat) : Str.ofString (toString ((n : Nat) : Int)) = S (dg n) := by
  rw [← S_tl (Str.ofString (toString ((n : Nat) : Int))), KIN.signs_num]
  rfl
def intc (n : Int) : List Nat := (if n < 0 then [45] else []) ++ dg n.natAbs
theorem str_int (n : Int) : Str.ofString (toString n) = S (intc n) := by
  cases n with
  | ofNat m =>
    have h := str_nat m
    have e : intc (Int.ofNat m) = dg m := by
      unfold intc
      rw [if_neg (by simp)]
      rfl
    rw [e]
    exact h
  | negSucc m =>
    have e : intc (Int.negSucc m) = 45 :: dg (m + 1) := by
      unfold intc
      rw [if_pos (by omega)]
      rfl
    rw [e, Str.ofString_eq_toList]
    show (⟨(("-" ++ Nat.repr (m + 1)).toList.map Char.toNat).toArray⟩ : Str) = _
    rw [String.toList_append, List.map_append, Nat.toList_repr]
    rfl
def addc (a : Int) : List Nat := if a = 0 then [] else [32, (if a < 0 then 45 else 43), 32] ++ dg a.natAbs
def hdc : Hd → List Nat
  | .least => [108, 101, 97, 115, 116]
  | .most => [109, 111, 115, 116]
  | .rank k => [114, 97, 110, 107, 32] ++ dg k
mutual
/-- the text of a term -/
def wrc : Trm → List Nat
  | .price s a => (97 + s) :: addc a
  | .plain n => intc n
  | .node h ps => hdc h ++ ([40] ++ (TL.joinL [44, 32] (wrcs ps) ++ [41]))
def wrcs : List Trm → List (List Nat)
  | [] => []
  | t :: ts => wrc t :: wrcs ts
end
theorem wrcs_map : ∀ ts : List Trm, wrcs ts = ts.map wrc
  | [] => by simp [wrcs]
  | t :: ts => by simp [wrcs, wrcs_map ts]
theorem dg_len {n : Nat} (h : n ≤ 10 ^ 30) : (dg n).length ≤ 31 := by
  unfold dg
  rw [List.length_map]
  exact PyProof.Rows.digits10_le (by decide) (by omega)
theorem joinL_len (s : List Nat) : ∀ ys : List (List Nat), (TL.joinL s ys).length ≤ (ys.map List.length).sum + ys.length * s.length
  | [] => by simp [TL.joinL]
  | [p] => by simp [TL.joinL]
  | p :: q :: r => by
    have := joinL_len s (q :: r)
    simp only [TL.joinL, List.length_append, List.map_cons, List.sum_cons, List.length_cons, Nat.succ_mul] at this ⊢
    omega
theorem num_abs {a : Int} (h : num a = true) : a.natAbs ≤ 10 ^ 30 := by
  simp only [num, Bool.and_eq_true, decide_eq_true_eq] at h
  omega
mutual
theorem wrc_len : ∀ t : Trm, fr t = true → (wrc t).length ≤ 60 * cnt t
  | .price s a, h => by
    simp only [TM.fr, form, Bool.and_eq_true] at h
    have := dg_len (num_abs h.2)
    simp only [wrc, addc, TM.cnt]
    split
    · simp
    · simp only [List.length_cons, List.length_append, List.length_nil]
      omega
  | .plain n, h => by
    simp only [TM.fr, form] at h
    have := dg_len (num_abs h)
    simp only [wrc, intc, TM.cnt]
    split
    · simp only [List.length_cons, List.length_append, List.length_nil]
      omega
    · simp only [List.length_append, List.length_nil]
      omega
  | .node hd ps, h => by
    have hf := (fr_iff (.node hd ps)).mp h
    have kl := form_kids hf.1
    simp only [kids] at kl
    have h2 := wrcs_len ps (TM.frs_iff.mpr hf.2)
    have hj := joinL_len [44, 32] (wrcs ps)
    have hl : (wrcs ps).length = ps.length := by rw [wrcs_map, List.length_map]
    rw [hl] at hj
    have hh : (hdc hd).length ≤ 36 := by
      cases hd with
      | least => decide
      | most => decide
      | rank k =>
        have hk : k ≤ 6 := by
          have := hf.1
          simp only [form, Bool.and_eq_true, decide_eq_true_eq] at this
          omega
        have := dg_len (n := k) (by omega)
        simp only [hdc, List.length_append, List.length_cons, List.length_nil]
        omega
    simp only [wrc, TM.cnt, List.length_append, List.length_cons, List.length_nil] at hj ⊢
    omega
theorem wrcs_len : ∀ ts : List Trm, TM.frs ts = true → ((wrcs ts).map List.length).sum ≤ 60 * cnts ts
  | [], _ => by simp [wrcs, cnts]
  | t :: ts, h => by
    simp only [TM.frs, Bool.and_eq_true] at h
    have h1 := wrc_len t h.1
    have h2 := wrcs_len ts h.2
    simp only [wrcs, cnts, List.map_cons, List.sum_cons]
    omega
end
/-! ### the law's words -/
mutual
def lw : Trm → List (List Nat)
  | .price s a => if a = 0 then [[97 + s]] else [[97 + s], [32], [if a > 0 then 43 else 45], [32], dg a.natAbs]
  | .plain n => (if n < 0 then [[45]] else []) ++ [dg n.natAbs]
  | .node .least ps => [[108, 101, 97, 115, 116], [40]] ++ (lws ps ++ [[41]])
  | .node .most ps => [[109, 111, 115, 116], [40]] ++ (lws ps ++ [[41]])
  | .node (.rank k) ps => [[114, 97, 110, 107], [32], dg k, [40]] ++ (lws ps ++ [[41]])
def lws : List Trm → List (List Nat)
  | [] => []
  | [t] => lw t
  | t :: u :: ts => lw t ++ ([[44], [32]] ++ lws (u :: ts))
end
mutual
theorem lw_flat : ∀ t : Trm, (lw t).flatten = wrc t
  | .price s a => by
    simp only [lw, wrc, addc]
    split
    · simp
    · rename_i h
      have : (if a > 0 then 43 else 45) = (if a < 0 then 45 else 43) := by
        split <;> split <;> omega
      simp [this]
  | .plain n => by
    simp only [lw, wrc, intc]
    split <;> simp
  | .node .least ps => by simp [lw, wrc, hdc, lws_flat ps]
  | .node .most ps => by simp [lw, wrc, hdc, lws_flat ps]
  | .node (.rank k) ps => by simp [lw, wrc, hdc, lws_flat ps]
theorem lws_flat : ∀ ts : List Trm, (lws ts).flatten = TL.joinL [44, 32] (wrcs ts)
  | [] => by simp [lws, wrcs, TL.joinL]
  | [t] => by simp [lws, wrcs, TL.joinL, lw_flat t]
  | t :: u :: ts => by
    have := lws_flat (u :: ts)
    simp only [wrcs] at this
    simp [lws, wrcs, TL.joinL, lw_flat t, this]
end
theorem joinL_nil : ∀ ys : List (List Nat), TL.joinL [] ys = ys.flatten
  | [] => rfl
  | [p] => by simp [TL.joinL]
  | p :: q :: r => by
    have := joinL_nil (q :: r)
    simp only [TL.joinL, this]
    simp
end TX

set_option Elab.async false
set_option linter.all false
set_option maxRecDepth 100000
set_option maxHeartbeats 1000000
/-! A reader of a text: an object with the text and the place. -/
namespace RD
open PySem PySem.Spec PyProof.Rows L2 Evl DK DD TM TX SX PySem.W
/-- all but r is as it was -/
def But (r : Addr) (H H' : Hp) : Prop := ∀ a, a ≠ r → H' a = H a
theorem But.refl (r : Addr) (H : Hp) : But r H H := fun _ _ => rfl
theorem But.trans {r : Addr} {H H1 H2 : Hp} (a : But r H H1) (b : But r H1 H2) : But r H H2 := fun x n => (b x n).trans (a x n)
theorem But.upd {r : Addr} {H : Hp} {o : HO} : But r H (L2.upd H r o) := fun a n => upd_ne n
def flds (cs : List Nat) (n : Nat) : List (Str × V) := [("text", .str (S cs)), ("at", .int (n : Int))]
def rdr (C dx : Addr) (cs : List Nat) (n : Nat) : HO := .ins C dx (flds cs n)
theorem lk_text (cs : List Nat) (n : Nat) : (flds cs n).lookup (Str.ofString "text") = some (.str (S cs)) := by simp [flds, List.lookup]
theorem lk_at (cs : List Nat) (n : Nat) : (flds cs n).lookup (Str.ofString "at") = some (.int (n : Int)) := by
  have z : (Str.ofString "at" == Str.ofString "text") = false := by decide +kernel
  simp [flds, List.lookup, z]
theorem put_at (cs : List Nat) (n : Nat) (m : Int) (k : Nat) (h : m = (k : Int)) : putF (Str.ofString "at") (.int m) (flds cs n) = flds cs k := by
  have z : ¬ (Str.ofString "text" = Str.ofString "at") := by decide +kernel
  subst h
  simp [flds, putF, z]
theorem cut1 {cs : List Nat} {n : Nat} (h : n ≤ cs.length) : cutS (S cs) (some (n : Int)) (some ((n : Int) + 1)) = S ((cs.drop n).take 1) := by
  have e : ((n : Int) + 1) = ((n + 1 : Nat) : Int) := by omega
  unfold cutS
  rw [e, HT.sIx_nat, HT.sIx_nat, S_len]
  show S _ = _
  rw [Nat.min_eq_left h]
  by_cases h1 : n + 1 ≤ cs.length
  · rw [Nat.min_eq_left h1, show n + 1 - n = 1 by omega]
  · have : n = cs.length := by omega
    rw [Nat.min_eq_right (by omega), this, List.drop_length]
    simp
theorem cutN {cs : List Nat} {n k : Nat} (h : n + k ≤ cs.length) : cutS (S cs) (some (n : Int)) (some ((n + k : Nat) : Int)) = S ((cs.drop n).take k) := by
  unfold cutS
  rw [HT.sIx_nat, HT.sIx_nat, S_len]
  show S _ = _
  rw [Nat.min_eq_left h, Nat.min_eq_left (show n ≤ cs.length by omega), show n + k - n = k by omega]
theorem cut0 {cs : List Nat} {k : Nat} : cutS (S cs) none (some (k : Int)) = S (cs.take k) := by
  unfold cutS
  rw [HT.sIx_none, HT.sIx_nat, S_len]
  show S ((cs.drop 0).take (min k cs.length - 0)) = _
  rw [List.drop_zero, Nat.sub_zero]
  by_cases h : k ≤ cs.length
  · rw [Nat.min_eq_left h]
  · rw [Nat.min_eq_right (by omega), List.take_of_length_le (by omega), List.take_of_length_le (by omega)]
/-- how many blanks stand ahead -/
def skip : List Nat → Nat
  | [] => 0
  | c :: cs => if c = 32 then skip cs + 1 else 0
theorem skip_le : ∀ cs : List Nat, skip cs ≤ cs.length
  | [] => by simp [skip]
  | c :: cs => by
    simp only [skip]
    split
    · have := skip_le cs
      simp only [List.length_cons]
      omega
    · simp
theorem skip_take : ∀ (cs : List Nat) (k : Nat), k ≤ skip cs → (((cs.drop k).take 1 = [32]) ↔ k < skip cs)
  | [], k, h => by simp [skip] at h ⊢
  | c :: cs, 0, h => by
    simp only [skip]
    by_cases hc : c = 32 <;> simp [hc]
  | c :: cs, k + 1, h => by
    simp only [skip] at h ⊢
    by_cases hc : c = 32
    · rw [if_pos hc] at h ⊢
      have := skip_take cs k (by omega)
      simp only [List.drop_succ_cons]
      rw [this]
      omega
    · rw [if_neg hc] at h
      omega
section
variable {K : PySem.W.Frag} {σ : L2.St} {H : Hp} {ta tb : TE} {C dx r : Addr} {cs : List Nat} {n : Nat}
theorem ev_fld {fs : List (Str × V)} {f : Str} {v : V} (ha : Ev ta σ H (.ref r)) (ho : H r = some (.ins C dx fs)) (cl : Cls K C) (hn : NoAttr K C f) (hl : fs.lookup f = some v) : Ev (tFld K ta f) σ H v := fun H1 e Q q =>
  ha H1 e _ fun H2 e2 => ⟨r, C, dx, fs, v, rfl, (e.trans e2) _ _ ho, cl, hn, hl, q H2 e2⟩
theorem ev_slS {tl th : TO} {z : List Nat} {lo hi : Option Int} {y : Str} (h : Ev ta σ H (.str (S z))) (h1 : EvO tl σ H lo) (h2 : EvO th σ H hi) (hl : z.length ≤ 100000) (e : cutS (S z) lo hi = y) : Ev (tSl rSlS ta tl th) σ H (.str y) := fun H1 x Q q =>
  h H1 x _ fun H2 x2 => h1 H2 (x.trans x2) _ fun H3 x3 => h2 H3 ((x.trans x2).trans x3) _ fun H4 x4 => ⟨S z, rfl, sz_of (by rw [S_len]; exact hl), by
    rw [e]
    exact q H4 ((x2.trans x3).trans x4)⟩
theorem ev_lenS {y : List Nat} (h : Ev ta σ H (.str (S y))) (hl : y.length ≤ 100000) : Ev (tCB (fun xs H Q => ∃ z, xs = [.str z] ∧ z.length ≤ sizeLine ∧ Q (.int z.length) H) (tCons ta tNil)) σ H (.int (y.length : Int)) := fun H1 x Q q =>
  h H1 x _ fun H2 x2 => ⟨S y, rfl, sz_of (by rw [S_len]; exact hl), by
    rw [S_len]
    exact q H2 x2⟩
theorem ev_inS {c : Nat} {z : List Nat} (ha : Ev ta σ H (.str (S [c]))) (hb : Ev tb σ H (.str (S z))) : Ev (tOp (fun x y H Q => ∃ (c : Nat) (z : Str), x = .str ⟨#[c]⟩ ∧ y = .str z ∧ Q (.bl (decide (c ∈ z.cps.toList))) H) ta tb) σ H (.bl (decide (c ∈ z))) := fun H1 e Q q =>
  ha H1 e _ fun H2 e2 => hb H2 (e.trans e2) _ fun H3 e3 => ⟨c, S z, rfl, rfl, q H3 (e2.trans e3)⟩
theorem ev_ninS {c : Nat} {z : List Nat} (ha : Ev ta σ H (.str (S [c]))) (hb : Ev tb σ H (.str (S z))) : Ev (tOp (fun x y H Q => ∃ (c : Nat) (z : Str), x = .str ⟨#[c]⟩ ∧ y = .str z ∧ Q (.bl (!decide (c ∈ z.cps.toList))) H) ta tb) σ H (.bl (!decide (c ∈ z))) := fun H1 e Q q =>
  ha H1 e _ fun H2 e2 => hb H2 (e.trans e2) _ fun H3 e3 => ⟨c, S z, rfl, rfl, q H3 (e2.trans e3)⟩
end
/-- the signs of al that stand ahead -/
def runL (al : List Nat) : List Nat → Nat
  | [] => 0
  | c :: cs => if c ∈ al then runL al cs + 1 else 0
theorem runL_le (al : List Nat) : ∀ cs : List Nat, runL al cs ≤ cs.length
  | [] => by simp [runL]
  | c :: cs => by
    simp only [runL]
    split
    · have := runL_le al cs
      simp only [List.length_cons]
      omega
    · simp
theorem runL_at (al : List Nat) : ∀ (cs : List Nat) (k c : Nat), k ≤ runL al cs → cs[k]? = some c → (c ∈ al ↔ k < runL al cs)
  | [], k, c, h, e => by simp at e
  | d :: cs, 0, c, h, e => by
    simp at e
    subst e
    simp only [runL]
    by_cases hc : d ∈ al <;> simp [hc]
  | d :: cs, k + 1, c, h, e => by
    simp only [runL] at h ⊢
    by_cases hc : d ∈ al
    · rw [if_pos hc] at h ⊢
      have := runL_at al cs k c (by omega) (by simpa using e)
      rw [this]
      omega
    · rw [if_neg hc] at h
      omega
theorem runL_end (al : List Nat) : ∀ (cs : List Nat), cs.length ≤ runL al cs → runL al cs = cs.length := fun cs h => Nat.le_antisymm (runL_le al cs) h
theorem lk_no {f : Str} (cs : List Nat) (n : Nat) (h1 : (f == Str.ofString "text") = false) (h2 : (f == Str.ofString "at") = false) : (flds cs n).lookup f = none := by simp [flds, List.lookup, h1, h2]
/-! ### words with blanks between them -/
def Lo : List (List Nat) → List Nat → Prop
  | [], l => skip l = l.length
  | w :: ws, l => ∃ l', l.drop (skip l) = w ++ l' ∧ Lo ws l'
theorem skip_drop : ∀ l : List Nat, skip (l.drop (skip l)) = 0
  | [] => rfl
  | c :: l => by
    simp only [skip]
    by_cases h : c = 32
    · rw [if_pos h]
      exact skip_drop l
    · rw [if_neg h]
      simp [skip, h]
theorem lo_skip : ∀ {ts : List (List Nat)} {l : List Nat}, Lo ts l → Lo ts (l.drop (skip l))
  | [], l, h => by
    have h' : skip l = l.length := h
    show skip (l.drop (skip l)) = (l.drop (skip l)).length
    rw [skip_drop, List.length_drop]
    omega
  | w :: ws, l, ⟨l', h1, h2⟩ => ⟨l', by rw [skip_drop, List.drop_zero]; exact h1, h2⟩
/-- what may stand behind a word of signs of al -/
def nx (al : List Nat) : List (List Nat) → Prop
  | [] => True
  | w :: _ => ∃ c w', w = c :: w' ∧ c ∉ al
theorem lo_head {al : List Nat} (h32 : 32 ∉ al) : ∀ {ws : List (List Nat)} {l : List Nat}, Lo ws l → nx al ws → ∀ c l', l = c :: l' → c ∉ al
  | [], l, h, _, c, l', e => by
    subst e
    have h' : skip (c :: l') = (c :: l').length := h
    simp only [skip] at h'
    by_cases hc : c = 32
    · rw [hc]
      exact h32
    · rw [if_neg hc] at h'
      simp at h'
  | w :: ws, l, ⟨l2, h1, _⟩, hn, c, l', e => by
    subst e
    by_cases hc : c = 32
    · rw [hc]
      exact h32
    · obtain ⟨d, w', rfl, hd⟩ := hn
      simp only [skip, if_neg hc, List.drop_zero, List.cons_append, List.cons.injEq] at h1
      rw [h1.1]
      exact hd
theorem runL_app {al : List Nat} : ∀ {w l : List Nat}, (∀ c ∈ w, c ∈ al) → (∀ c l', l = c :: l' → c ∉ al) → runL al (w ++ l) = w.length
  | [], l, _, h2 => by
    cases l with
    | nil => rfl
    | cons c l' =>
      show runL al (c :: l') = 0
      simp only [runL]
      rw [if_neg (h2 c l' rfl)]
  | a :: w, l, h1, h2 => by
    show runL al (a :: (w ++ l)) = w.length + 1
    simp only [runL]
    rw [if_pos (h1 a (by simp)), runL_app (fun c hc => h1 c (by simp [hc])) h2]
theorem lo_run {al : List Nat} {w : List Nat} {ws : List (List Nat)} {l : List Nat} (h : Lo (w :: ws) l) (hw : ∀ c ∈ w, c ∈ al) (h32 : 32 ∉ al) (hn : nx al ws) :
    (l.drop (skip l)).take (runL al (l.drop (skip l))) = w ∧ Lo ws ((l.drop (skip l)).drop w.length) := by
  obtain ⟨l', h1, h2⟩ := h
  rw [h1, runL_app hw (lo_head h32 h2 hn)]
  exact ⟨by simp, by simpa using h2⟩
theorem lo_run0 {al : List Nat} {ws : List (List Nat)} {l : List Nat} (h : Lo ws l) (h32 : 32 ∉ al) (hn : nx al ws) : runL al (l.drop (skip l)) = 0 := by
  have := runL_app (al := al) (w := []) (l := l.drop (skip l)) (by simp) (lo_head h32 (lo_skip h) hn)
  simpa using this
theorem lo_take {c : Nat} {w : List Nat} {ws : List (List Nat)} {l : List Nat} (h : Lo ((c :: w) :: ws) l) : (l.drop (skip l)).take 1 = [c] ∧ skip l < l.length := by
  obtain ⟨l', h1, _⟩ := h
  refine ⟨by rw [h1]; rfl, ?_⟩
  have h2 : (l.drop (skip l)).length = w.length + 1 + l'.length := by
    rw [h1]
    simp only [List.length_append, List.length_cons]
  rw [List.length_drop] at h2
  omega
def letters : List Nat := (List.range 26).map (97 + ·)
def digs : List Nat := (List.range 10).map (48 + ·)
theorem dg_digs (m : Nat) : ∀ c ∈ dg m, c ∈ digs := fun c hc => by
  unfold dg at hc
  obtain ⟨ch, hch, e⟩ := List.mem_map.mp hc
  have r := PyProof.Rows.digit_range (Nat.isDigit_of_mem_toDigits (by decide) (by decide) hch)
  rw [← e]
  unfold digs
  rw [List.mem_map]
  exact ⟨ch.toNat - 48, by rw [List.mem_range]; omega, by omega⟩
theorem dg_ne (m : Nat) : dg m ≠ [] := fun e => by
  have h := PySem.toDigits_len_ge 10 m
  unfold dg at e
  rw [List.map_eq_nil_iff.mp e] at h
  exact absurd h (by decide)
theorem dg_zero {m : Nat} {r : List Nat} (h : dg m = 48 :: r) : m = 0 := by
  induction m using Nat.strongRecOn generalizing r with
  | _ m ih =>
    by_cases h1 : m < 10
    · unfold dg at h
      rw [Nat.toDigits_of_lt_base h1] at h
      simp only [List.map_cons, List.map_nil, List.cons.injEq] at h
      have : ∀ d : Nat, d < 10 → (Nat.digitChar d).toNat = 48 → d = 0 := by decide
      exact this m h1 h.1
    · have hm : m % 10 < 10 := Nat.mod_lt m (by decide)
      have t : Nat.toDigits 10 (m / 10) ++ Nat.toDigits 10 (m % 10) = Nat.toDigits 10 (10 * (m / 10) + m % 10) := Nat.toDigits_append_toDigits (by decide) (by omega) hm
      rw [Nat.div_add_mod] at t
      have h2 : dg m = dg (m / 10) ++ dg (m % 10) := by
        unfold dg
        rw [← t, List.map_append]
      rw [h2] at h
      cases hq : dg (m / 10) with
      | nil => exact absurd hq (dg_ne _)
      | cons c q =>
        rw [hq] at h
        simp only [List.cons_append, List.cons.injEq] at h
        rw [h.1] at hq
        have := ih (m / 10) (by omega) hq
        omega
theorem dg_read {m : Nat} (h : m ≤ 10 ^ 30) : PySem.intText? (S (dg m)) = some (m : Int) := by
  have hl := dg_len h
  have e := PySem.intText_digits (x := S (dg m)) (by
    intro c hc
    have := dg_digs m c hc
    unfold digs at this
    obtain ⟨k, hk, rfl⟩ := List.mem_map.mp this
    rw [List.mem_range] at hk
    exact ⟨by omega, by omega⟩) (dg_ne m) (by rw [S_len]; omega)
  rw [e]
  show some (((PySem.NumText.digitsVal (dg m) : Nat) : Int)) = _
  unfold dg
  rw [KIN.val_back]
end RD

set_option Elab.async false
set_option linter.all false
set_option maxRecDepth 100000
set_option maxHeartbeats 2000000
/-! An error that a clause caught and a name keeps: behind the clause its object is told of. All that the body raises is caught. -/
namespace XC2
open PySem PySem.Spec PyProof.Rows L2 DK
/-- an error's class, as isinstance and the reading of fields ask it -/
structure XC (K : PySem.W.Frag) (C : Addr) : Prop where
  isCls : (PySem.W.clsIn K C).isSome = true
  getA : PySem.W.findIn K (.ref C) "__getattribute__" = .some (.some (.builtin "BaseException.__getattribute__"))
  getB : PySem.W.findIn K (.ref C) "__getattr__" = .some Option.none
  sub : PySem.W.subIn K (.ref C) (.type "BaseException") = .some true
  dict : PySem.W.hasDictIn K C = true
  clsA : PySem.W.findIn K (.ref C) "__class__" = .some (.some (.builtin "object.__class__"))
  clsG : PySem.W.specialIn K (.builtin "object.__class__") "__get__" = .some (.some (.builtin "getset_descriptor.__get__"))
  clsT : PySem.W.takesIn K (.builtin "object.__class__") = .some true
  obj : PySem.W.mroIn K C (.type "object") = .some true
def xcB (K : PySem.W.Frag) (C : Addr) : Bool :=
  [(PySem.W.clsIn K C).isSome, decide (PySem.W.findIn K (.ref C) "__getattribute__" = .some (.some (.builtin "BaseException.__getattribute__"))), decide (PySem.W.findIn K (.ref C) "__getattr__" = .some Option.none),
   decide (PySem.W.subIn K (.ref C) (.type "BaseException") = .some true), PySem.W.hasDictIn K C, decide (PySem.W.findIn K (.ref C) "__class__" = .some (.some (.builtin "object.__class__"))),
   decide (PySem.W.specialIn K (.builtin "object.__class__") "__get__" = .some (.some (.builtin "getset_descriptor.__get__"))), decide (PySem.W.takesIn K (.builtin "object.__class__") = .some true), decide (PySem.W.mroIn K C (.type "object") = .some true)].all id
theorem xcB_ok {K : PySem.W.Frag} {C : Addr} (h : xcB K C = true) : XC K C := by
  simp only [xcB, List.all_cons, List.all_nil, id, Bool.and_eq_true, decide_eq_true_eq] at h
  exact ⟨h.1, h.2.1, h.2.2.1, h.2.2.2.1, h.2.2.2.2.1, h.2.2.2.2.2.1, h.2.2.2.2.2.2.1, h.2.2.2.2.2.2.2.1, h.2.2.2.2.2.2.2.2.1⟩
/-- at a: a caught error of the class cls, its own dict at d or none -/
def ExC (cls : Value) (d : Option Addr) (a : Addr) : HO := .ext fun h => ∃ (oe : Obj) (vs : Array Value), h.get? a = some oe ∧ Zc cls d oe ∧ oe.data = .fields vs
/-- what is known of a caught error, at a, towards the def's entry and what is pinned -/
structure Own (X : Cx) (pins : List (Addr × Obj)) (a : Addr) : Prop where
  loc : a ≠ X.env.locals
  frm : a ∉ X.fs
  new : X.s_0.heap.get? a = none
  pin : ∀ p ∈ X.pn ++ pins, p.1 ≠ a
section
variable {X : Cx} {pins : List (Addr × Obj)} {σ : L2.St} {H : Hp} {s : Shared}
/-- an object of ours is told of from here on -/
theorem track {a : Addr} {oe : Obj} {vs : Array Value} {cls : Value} {d : Option Addr} (I : Inv X pins σ H s) (O : Own X pins a) (na : H a = none) (there : s.heap.get? a = some oe) (z : Zc cls d oe) (data : oe.data = .fields vs) :
    Inv X pins σ (upd H a (ExC cls d a)) s := by
  have old : ∀ {b : Addr} {o : HO}, H b = some o → upd H a (ExC cls d a) b = some o := fun {b o} q => (upd_ne (ne_of_none q na)).trans q
  have away : ∀ {b : Addr}, b ≠ a → H b = none → upd H a (ExC cls d a) b = none := fun {b} hb q => (upd_ne hb).trans q
  have B := I.base
  exact {
    ok := I.ok
    os := I.os
    bare := I.bare
    base := { B with
      free := fun b o q n hx => away (fun e => by rw [e, O.new] at q; cases q) (B.free b o q n hx)
      tups := fun b xs q => old (B.tups b xs q)
      frzs := fun b o u q => old (B.frzs b o u q)
      tbls := fun b ps q => (B.tbls b ps q).elim fun m r => ⟨m, old r⟩ }
    loc := I.loc
    cell := I.cell
    free := away (Ne.symm O.loc) I.free
    freeC := fun x c q => away (fun e => by
      obtain ⟨v, o, ho, hv⟩ := I.cell x c q
      rw [e, there, Option.some.injEq] at ho
      rw [← ho, data] at hv
      cases hv) (I.freeC x c q)
    pin := fun p hp => ⟨(I.pin p hp).1, away (O.pin p hp) (I.pin p hp).2.1, (I.pin p hp).2.2⟩
    hok := HOk.laidN I.hok (fun _ _ q => q) na ⟨⟨oe, vs, there, z, data⟩, ⟨oe, there⟩, fun _ _ w k => w.elim fun o w => w.elim fun v w => ⟨o, v, k o w.1, w.2⟩⟩
    len := I.len }
/-- an error in the air is no frame of ours, was not there at the entry and is not pinned -/
theorem own_of {a : Addr} {B h : Heap} {Z : Obj → Prop} {sI : Shared} (hs : X.stack = X.env :: X.outer) (hf : X.env.frame = some X.env.locals) (hx : X.ex = []) (J : Inv X pins σ H sI)
    (ground : ∀ b o, sI.heap.get? b = some o → b ∉ frs X.stack → B.get? b = some o) (F : HandSPX.FlyingZ B (X.env :: X.outer) a Z h) : Own X pins a := by
  obtain ⟨_, bare, frames, _⟩ := id F
  obtain ⟨oe, vs, at_a, _, flds⟩ := F.there
  have off : a ∉ frs (X.env :: X.outer) := fun hm => (frames.mem hm).elim fun _ w => w.elim fun o w => w.2 vs (by
    have e : oe = o := Option.some.inj (at_a.symm.trans w.1)
    rw [← e]
    exact flds)
  have frL : ∀ {b : Addr}, b = X.env.locals → b ∈ frs (X.env :: X.outer) := fun {b} e => List.mem_filterMap.mpr ⟨X.env, .head _, by rw [hf, e]⟩
  have frO : ∀ {b : Addr}, b ∈ X.fs → b ∈ frs (X.env :: X.outer) := fun {b} hm => (List.mem_filterMap.mp hm).elim fun e w => List.mem_filterMap.mpr ⟨e, .tail _ w.1, w.2⟩
  have split : ∀ {b : Addr}, b ∈ frs X.stack → b = X.env.locals ∨ b ∈ X.fs := fun {b} hm => by
    rw [hs] at hm
    obtain ⟨e, he, q⟩ := List.mem_filterMap.mp hm
    cases he with
    | head => exact .inl (Option.some.inj (q.symm.trans hf))
    | tail _ he => exact .inr (List.mem_filterMap.mpr ⟨e, he, q⟩)
  have gone : ∀ {o : Obj}, sI.heap.get? a = some o → False := fun {o} q => by
    have := ground a o q (by rw [hs]; exact off)
    rw [bare] at this
    cases this
  refine ⟨fun e => off (frL e), fun hm => off (frO hm), ?_, fun p hp e => ?_⟩
  · rcases hq : X.s_0.heap.get? a with _ | o
    · rfl
    · exact (J.base.there a o hq (by rw [hx]; exact List.not_mem_nil)).elim fun _ q => (gone q).elim
  · have P := J.pin p hp
    rw [← e] at gone
    exact gone P.1
end
/-- a try's body, by what is wished of its errors; a clause's suite -/
def Body (X : Cx) (body : List Stmt) (tb : WX → TS) : Prop := ∀ (W : WX) (pn : List (Addr × Obj)) (xe : Value → Shared → Prop), Takes (X.tr pn xe) W → PassesOwn (model X.prog X.w) X.A X.env xe → PSs (X.tr pn xe) body (tb W)
def Suite (X : Cx) (rows : List Stmt) (ts : Addr → Value → Option Addr → TS) : Prop := ∀ (a : Addr) (oe : Obj) (cls : Value) (d : Option Addr) (pn : List (Addr × Obj)), Zc cls d oe → (∃ vs, oe.data = .fields vs) → PSs (X.suite a ((a, oe) :: pn)) rows (ts a cls d)
/-- the ends of a suite, the error's name in slot i gone behind it, the error told of where it goes on -/
def endsK (i : Nat) (a : Addr) (cls : Value) (d : Option Addr) (D : Ends) : Ends where
  nx := fun σ H => D.nx (σ.set i none) (upd H a (ExC cls d a))
  rt := D.rt
  bk := fun σ H => D.bk (σ.set i none) H
  ct := fun σ H => D.ct (σ.set i none) H
/-- what is wished of an error in the body: the clause's class takes it, and the suite goes well -/
def wKept (K : PySem.W.Frag) (c : Value) (i : Nat) (ts : Addr → Value → Option Addr → TS) (D : Ends) : WX := fun cls d σ H =>
  PySem.W.exmOne K cls c = some true ∧ ∀ a, H a = none → ts a cls d (endsK i a cls d D) (σ.set i (some (.ref a))) H
section
variable {X : Cx} {pins : List (Addr × Obj)}
/-- behind the suite -/
theorem suite_end {a : Addr} {oe : Obj} {vs : Array Value} {cls : Value} {d : Option Addr} {n : Str} {i : Nat} {at_ : Pos} (ok : X.Ok) (hN : X.N.Nodup) (hi : X.N[i]? = some n) (hl : X.env.kindOf n = some .local) (O : Own X pins a) (z : Zc cls d oe) (data : oe.data = .fields vs) {D : Ends} {s6 : Shared} :
    ∀ f : Flow, SP (X.suite a ((a, oe) :: (X.pn ++ pins))) [] (endsK i a cls d D) f s6 → wpAny (model X.prog X.w) X.A (do bindName X.env n .none; unbindBehindTheSuite X.env n at_) (fun _ s7 => SP X pins D f s7) X.xe s6 := fun f hsp => by
  have go : ∀ {σ6 : L2.St} {H6 : Hp} {R : Shared → Prop}, Inv (X.suite a ((a, oe) :: (X.pn ++ pins))) [] σ6 H6 s6 → (∀ s7, Inv X pins (σ6.set i none) H6 s7 → Inv X pins (σ6.set i none) (upd H6 a (ExC cls d a)) s7 → R s7) →
      wpAny (model X.prog X.w) X.A (do bindName X.env n .none; unbindBehindTheSuite X.env n at_) (fun _ s7 => R s7) X.xe s6 := fun I k =>
    gone_ok (X := X.suite a ((a, oe) :: (X.pn ++ pins))) I hN hi hl fun s7 I7 => by
      have P := I7.pin (a, oe) (by simp)
      exact k s7 (I7.unsuite ok) (track (I7.unsuite ok) O P.2.1 P.1 z data)
  match f, hsp with
  | .next, ⟨_, _, I, q⟩ => exact go I fun s7 _ T => ⟨_, _, T, q⟩
  | .brk, ⟨_, _, I, q⟩ => exact go I fun s7 T _ => ⟨_, _, T, q⟩
  | .cont, ⟨_, _, I, q⟩ => exact go I fun s7 T _ => ⟨_, _, T, q⟩
  | .ret _, ⟨_, _, _, I, r, q⟩ => exact go I fun s7 T _ => ⟨_, _, _, T, r, q⟩
/-- the clause takes an error of the body -/
theorem clause {x n : Str} {c : Value} {i : Nat} {b₀ : Stmt} {suite : List Stmt} {np p1 : Pos} {ts : Addr → Value → Option Addr → TS} {D : Ends} (hs : X.stack = X.env :: X.outer) (hf : X.env.frame = some X.env.locals) (hN : X.N.Nodup) (hi : X.N[i]? = some n) (hl : X.env.kindOf n = some .local)
    (hg : Gl X x) (hdb : (x == ("__debug__" : Str)) = false) (hm : X.mg x = some c) (hx : X.ex = []) (ok : X.Ok) (hsu : Suite X (b₀ :: suite) ts) {u : Value} {s1 : Shared} {xe : Value → Shared → Prop} (E : XE (X.tr (X.pn ++ pins) xe) (wKept X.K c i ts D) u s1) :
    wpAny (model X.prog X.w) X.A (noteFrame u X.env) (fun _ s₂ => wpAny (model X.prog X.w) X.A (setFlight u none) (fun _ s₃ => wpAny (model X.prog X.w) X.A (handleBy u X.env [.ExceptHandler (some (.Name x np)) (some n) (b₀ :: suite) p1]) (SP X pins D) X.xe s₃) X.xe s₂) X.xe s1 := by
  obtain ⟨a, B, sI, pins', σ', H', cls, d, rfl, J', ground, slots, sky, na, sameOs, gens, takes, well⟩ := E
  have J := J'.ofTry (X := X) ok
  refine Sky.land Zc.steady (ok.frames.trans (congrArg some hs)) hf (hs ▸ sky) fun h3 F3 up3 => ?_
  have at3 : ∀ {h : Heap}, HandSPX.FlyingZ B (X.env :: X.outer) a (Zc cls d) h → s1.heap.UpToSlots h → ∃ oe vs, h.get? a = some oe ∧ Zc cls d oe ∧ oe.data = .fields vs ∧ Inv (X.suite a ((a, oe) :: (X.pn ++ pins))) [] σ' H' { s1 with heap := h } := fun {h} F up => by
    have O := own_of hs hf hx J ground F
    obtain ⟨oe, vs, h1, h2, h3⟩ := F.there
    have I : Inv X pins σ' H' { s1 with heap := h } := J.landed ground F.1 (slots.trans up) sameOs gens
    exact ⟨oe, vs, h1, h2, h3, I.suite h1 h3 na O.loc O.frm⟩
  obtain ⟨oe, vs, g1, g2, g3, I3⟩ := at3 F3 up3
  refine wpAny_handleBy_cons (codeAny_handlers_test ?_) fun q => nomatch q
  refine ld_glob (X := X.suite a ((a, oe) :: (X.pn ++ pins))) I3 hg hm ?_ hdb
  have look : PySem.W.Looks (model X.prog X.w) h3 (typeOf (.ref a)) cls := fun _ _ _ _ keeps q => wpAny_typeOf_ref (keeps _ _ g1) (g2.1.symm ▸ q)
  refine (PySem.W.exm_one (M := model X.prog X.w) I3.kIn look takes).here (codeAny_handlers_suite_as ?_)
  refine HandSPX.lands_againZ F3 fun h4 F4 up4 => ?_
  obtain ⟨oe4, vs4, k1, k2, k3, I4⟩ := at3 F4 (up3.trans up4)
  refine store_ok (X := X.suite a ((a, oe4) :: (X.pn ++ pins))) (v := .ref a) I4 hN hi (.inl hl) rfl (fun s5 I5 => ?_) (.inr hl)
  exact wpAny_mono ((hsu a oe4 cls d (X.pn ++ pins) k2 ⟨_, k3⟩).run [] s5 _ H' _ I5 (well a na)) (fun f s6 hsp => suite_end ok hN hi hl (own_of hs hf hx J ground F4) k2 k3 f hsp) fun _ _ z => z.elim
theorem ps_kept {x n : Str} {c : Value} {i : Nat} {body suite : List Stmt} {b₀ : Stmt} {np p1 p2 : Pos} {tb : WX → TS} {ts : Addr → Value → Option Addr → TS} (hs : X.stack = X.env :: X.outer) (hf : X.env.frame = some X.env.locals) (hN : X.N.Nodup) (hi : X.N[i]? = some n) (hl : X.env.kindOf n = some .local)
    (hg : Gl X x) (hdb : (x == ("__debug__" : Str)) = false) (hm : X.mg x = some c) (hx : X.ex = []) (hb : Body X body tb) (hsu : Suite X (b₀ :: suite) ts) :
    PS X (.Try body [.ExceptHandler (some (.Name x np)) (some n) (b₀ :: suite) p1] [] [] p2) fun D σ H => tb (wKept X.K c i ts D) D σ H := .mk fun pins s σ H D I well => by
  have ok := I.ok
  refine wpAny_Try_except (wpAny_mono ((hb (wKept X.K c i ts D) (X.pn ++ pins) _ (fun u s1 E => clause (np := np) (p1 := p1) hs hf hN hi hl hg hdb hm hx ok hsu E) PassesOwn.looking).run [] s σ H D (I.toTry _) well) (fun f s1 hsp => ?_) fun _ _ q => q)
  match f, hsp with
  | .next, ⟨_, _, T, q⟩ => exact wpAny_execs_nil ⟨_, _, T.ofTry ok, q⟩
  | .brk, ⟨_, _, T, q⟩ => exact ⟨_, _, T.ofTry ok, q⟩
  | .cont, ⟨_, _, T, q⟩ => exact ⟨_, _, T.ofTry ok, q⟩
  | .ret _, ⟨_, _, _, T, r, q⟩ => exact ⟨_, _, _, T.ofTry ok, r, q⟩
end
/-- a kept error with its fields -/
def CxV (H : Hp) (a C : Addr) (fs : List (Str × V)) : Prop :=
  (fs = [] ∧ H a = some (ExC (.ref C) none a)) ∨ ∃ d, H a = some (ExC (.ref C) (some d) a) ∧ H d = some (.xd fs)
theorem CxV.ex {H H' : Hp} {a C : Addr} {fs : List (Str × V)} (h : CxV H a C fs) (e : Evl.Ex H H') : CxV H' a C fs :=
  h.imp (fun w => ⟨w.1, e _ _ w.2⟩) fun w => w.elim fun d w => ⟨d, e _ _ w.1, e _ _ w.2⟩
section
variable {X : Cx} {pins : List (Addr × Obj)} {σ : L2.St} {H : Hp} {s : Shared}
theorem exc_at {cls : Value} {a : Addr} {d : Option Addr} (I : Inv X pins σ H s) (h : H a = some (ExC cls d a)) : ∃ oe, s.heap.get? a = some oe ∧ Zc cls d oe ∧ PySem.W.notCls oe = true := by
  obtain ⟨oe, vs, e, z, data⟩ := (I.hok a _ h).1
  exact ⟨oe, e, z, by simp only [PySem.W.notCls, data]⟩
theorem CxV.inst {a C : Addr} {fs : List (Str × V)} (I : Inv X pins σ H s) (h : CxV H a C fs) : ∃ ox od, PySem.W.InstAt s.heap a ox C od := by
  rcases h with ⟨_, h⟩ | ⟨d, h, hd⟩
  · obtain ⟨oe, e, z, n⟩ := exc_at I h
    exact ⟨oe, none, e, z.1, n, by rw [z.2]; trivial⟩
  · obtain ⟨oe, e, z, n⟩ := exc_at I h
    obtain ⟨mA, ns, _⟩ := show ObjOk X.prog X.w H s.heap d (.xd fs) from I.hok d _ hd
    obtain ⟨od, eo, _⟩ := lookIn_ns ns
    exact ⟨oe, some od, e, z.1, n, by rw [z.2]; exact eo⟩
end
/-- isinstance(error, class) -/
def rIsC (K : PySem.W.Frag) : List V → Hp → VK → Prop := fun xs H Q => ∃ (a C : Addr) (fs : List (Str × V)) (c : V) (cv : Value) (b : Bool),
  xs = [.ref a, c] ∧ CxV H a C fs ∧ XC K C ∧ ClsV c cv ∧ PySem.W.kitOne K (.ref C) cv = some b ∧ Q (.bl b) H
/-- error.n -/
def tXc (K : PySem.W.Frag) (n : Str) (te : TE) : TE := fun σ H Q => te σ H fun x H1 => ∃ (a C : Addr) (fs : List (Str × V)) (v : V),
  x = .ref a ∧ CxV H1 a C fs ∧ XC K C ∧ PySem.W.findIn K (.ref C) n = .some Option.none ∧ fs.lookup n = some v ∧ Q v H1
section
variable {X : Cx}
theorem call_isC : CallR X (.builtin "isinstance") (rIsC X.K) := fun pins s σ H xs us Q I r h => by
  obtain ⟨a, C, fs, c, cv, b, rfl, hv, T, k, e, q⟩ := h
  obtain ⟨_, u2, rfl, rfl, r2⟩ := vals2 r
  obtain ⟨ox, od, J⟩ := hv.inst I
  rw [k.eq r2]
  exact PySem.W.kia_one (PySem.W.kitx_exc T.isCls T.getA T.getB T.sub T.clsA T.clsG T.clsT T.obj) I.kIn J e Value.noConfusion fun tk => ⟨.bl b, H, I.tok tk, rfl, q⟩
theorem pe_xc {e : Expr} {te : TE} {pos : Pos} {n : Str} (he : PE X e te) (hb : attributeBase e n X.env (eval e X.env) = eval e X.env := by rfl) : PE X (.Attribute e n pos) (tXc X.K n te) := .mk fun pins s σ H Q I h =>
  attr_of hb <| thn (he.run pins s σ H _ I h) fun u s1 hh => by
    obtain ⟨_, H1, I1, rx, a, C, fs, v, rfl, hv, T, hno, l, q⟩ := hh
    obtain rfl : u = Value.ref a := rx
    rcases hv with ⟨rfl, _⟩ | ⟨d, h1, h2⟩
    · cases l
    obtain ⟨oe, e1, z, nc⟩ := exc_at I1 h1
    obtain ⟨mA, ns, row⟩ := show ObjOk X.prog X.w H1 s1.heap d (.xd fs) from I1.hok d _ h2
    obtain ⟨od, e2, find⟩ := lookIn_ns ns
    obtain ⟨w, hw, rw_⟩ := RelO.some_of (v := v) (o := mA n) (l ▸ row n)
    have J : PySem.W.InstAt s1.heap a oe C (some od) := ⟨e1, z.1, nc, by rw [z.2]; exact e2⟩
    exact HandSPX.exc_get I1.kIn J T.getA T.getB T.sub (PySem.W.findObj_own T.dict hno rfl ((find n).trans (congrArg some hw))) (handed_of rw_) ⟨v, H1, I1.tok _, rw_, q⟩
end
section
variable {K : PySem.W.Frag} {σ : L2.St} {H : Hp} {ta : TE} {C : Addr}
theorem ev_isC {a : Addr} {fs : List (Str × V)} {cx : V} {cv : Value} {b : Bool} (ha : Evl.Ev ta σ H (.ref a)) (hx : CxV H a C fs) (T : XC K C) (k : ClsV cx cv) (e : PySem.W.kitOne K (.ref C) cv = some b) : Evl.Ev (tCB (rIsC K) (tCons ta (tCons (tC cx) tNil))) σ H (.bl b) := fun H1 e1 Q q =>
  ha H1 e1 _ fun H2 e2 => ⟨a, C, fs, cx, cv, b, rfl, hx.ex (e1.trans e2), T, k, e, q H2 e2⟩
theorem ev_xc {a : Addr} {fs : List (Str × V)} {n : Str} {v : V} (ha : Evl.Ev ta σ H (.ref a)) (hx : CxV H a C fs) (T : XC K C) (hn : PySem.W.findIn K (.ref C) n = .some Option.none) (hl : fs.lookup n = some v) : Evl.Ev (tXc K n ta) σ H v := fun H1 e1 Q q =>
  ha H1 e1 _ fun H2 e2 => ⟨a, C, fs, v, rfl, hx.ex (e1.trans e2), T, hn, hl, q H2 e2⟩
end
end XC2

set_option Elab.async false
set_option linter.all false
set_option maxRecDepth 100000
set_option maxHeartbeats 2000000
/-! Which error is of which kind. -/
namespace XC2
open PySem PySem.Spec PyProof.Rows L2 DK
structure Kit (K : PySem.W.Frag) (L : List Addr) (S : Addr) : Prop where
  ll : ∀ (i j : Nat) (C D : Addr), L[i]? = some C → L[j]? = some D → PySem.W.kitOne K (.ref C) (.ref D) = some (decide (i = j))
  lv : ∀ (i : Nat) (C : Addr), L[i]? = some C → PySem.W.kitOne K (.ref C) (.type "ValueError") = some true
  xc : ∀ (i : Nat) (C : Addr), L[i]? = some C → XC K C
  em : ∀ (i : Nat) (C : Addr), L[i]? = some C → PySem.W.exmOne K (.ref C) (.ref S) = some true
def kitTab (K : PySem.W.Frag) (L : List Addr) (S : Addr) : Bool := (List.range L.length).all fun i => match L[i]? with
  | none => true
  | some C => xcB K C && (decide (PySem.W.exmOne K (.ref C) (.ref S) = some true) && (decide (PySem.W.kitOne K (.ref C) (.type "ValueError") = some true) &&
    (List.range L.length).all fun j => match L[j]? with
      | none => true
      | some D => decide (PySem.W.kitOne K (.ref C) (.ref D) = some (decide (i = j)))))
theorem kit_of_tab {K : PySem.W.Frag} {L : List Addr} {S : Addr} (h : kitTab K L S = true) : Kit K L S := by
  unfold kitTab at h
  have hL : ∀ (i : Nat) (C : Addr), L[i]? = some C → i ∈ List.range L.length := fun i C e => List.mem_range.mpr (List.getElem?_eq_some_iff.mp e).1
  have row : ∀ (i : Nat) (C : Addr), L[i]? = some C → xcB K C = true ∧ PySem.W.exmOne K (.ref C) (.ref S) = some true ∧ PySem.W.kitOne K (.ref C) (.type "ValueError") = some true ∧
      ∀ (j : Nat) (D : Addr), L[j]? = some D → PySem.W.kitOne K (.ref C) (.ref D) = some (decide (i = j)) := fun i C e => by
    have z := List.all_eq_true.mp h i (hL i C e)
    simp only [e, Bool.and_eq_true, decide_eq_true_eq] at z
    obtain ⟨z1, z2, z4, z5⟩ := z
    refine ⟨z1, z2, z4, fun j D e2 => ?_⟩
    have y := List.all_eq_true.mp z5 j (hL j D e2)
    simp only [e2, decide_eq_true_eq] at y
    exact y
  exact ⟨fun i j C D e1 e2 => (row i C e1).2.2.2 j D e2, fun i C e => (row i C e).2.2.1, fun i C e => xcB_ok (row i C e).1, fun i C e => (row i C e).2.1⟩
/-- one def, two promises -/
theorem fn_or {P : Program} {w : World} {K : PySem.W.Frag} {mg : Str → Option Value} {base : Heap} {CX : CXT} {k : Nat} {f : Addr} {fd : FuncData} {ps : List Str} {sp sp' : Sp} (F : FnOk P w K mg base CX k f fd ps sp) (G : FnOk P w K mg base CX k f fd ps sp') :
    FnOk P w K mg base CX k f fd ps (fun vs H Q E => sp vs H Q E ∨ sp' vs H Q E) :=
  ⟨fun vs H Q E h => h.elim (F.len vs H Q E) (G.len vs H Q E), fun A outer s H args us vs Q E hr he hb hv h => h.elim (F.run A outer s H args us vs Q E hr he hb hv) (G.run A outer s H args us vs Q E hr he hb hv)⟩
end XC2

set_option Elab.async false
set_option linter.all false
set_option maxRecDepth 100000
set_option maxHeartbeats 2000000
/-! Loops over texts, list(text), index of a sign in a text. -/
namespace LS
open PySem PySem.Spec PyProof.Rows L2 Evl DK DD SX RD
/-- for c in a text -/
theorem for_str {g : TG} {tb : TS} {D : Ends} {σ : L2.St} {H : Hp} {cs : List Nat} (Pv : Nat → L2.St → Hp → Prop) (h0 : Pv 0 σ H)
    (hs : ∀ i c σ H, cs[i]? = some c → Pv i σ H → g (.str (S [c])) σ H fun σ2 H2 => tb { D with nx := Pv (i + 1), ct := Pv (i + 1), bk := D.nx } σ2 H2) (hd : ∀ σ H, Pv cs.length σ H → D.nx σ H) :
    ∃ W : Nat → Nat → L2.St → Hp → Prop, (∃ m, W 0 m σ H) ∧ ∀ i m σ H, W i m σ H →
      ((Its (S cs)).stop i H ∧ D.nx σ H) ∨ ((Its (S cs)).go i H ∧ ∃ N : L2.St → Hp → Prop, (∀ σ' H', N σ' H' → ∃ m', m' < m ∧ W (i + 1) m' σ' H') ∧ ∀ x H', (Its (S cs)).yld i H x H' → g x σ H' fun σ2 H2 => tb { D with nx := N, ct := N, bk := D.nx } σ2 H2) := by
  have hsz : (S cs).cps.size = cs.length := by simp [S]
  refine ⟨fun i m σ H => m = cs.length - i ∧ i ≤ cs.length ∧ Pv i σ H, ⟨cs.length, by simp, Nat.zero_le _, h0⟩, ?_⟩
  rintro i m σ H ⟨rfl, hi, p⟩
  by_cases hlt : i < cs.length
  · refine .inr ⟨(show i < (S cs).cps.size by omega), Pv (i + 1), fun σ' H' p' => ⟨cs.length - (i + 1), by omega, rfl, hlt, p'⟩, fun x H' y => ?_⟩
    obtain ⟨e, c, hc, rfl⟩ := y
    subst e
    have hc' : cs[i]? = some c := by
      have : (S cs).cps = cs.toArray := rfl
      rw [this] at hc
      simpa using hc
    exact hs i c σ _ hc' p
  · have e : i = cs.length := by omega
    subst e
    exact .inl ⟨(show (S cs).cps.size ≤ cs.length by omega), hd σ H p⟩
section
variable {K : PySem.W.Frag} {M : List Addr} {σ : L2.St} {H : Hp} {ta tb : TE} {D : Ends} {tz tu : TS} {g : TG}
theorem s_forS {cs : List Nat} (h : Ev ta σ H (.str (S cs))) (Pv : Nat → L2.St → Hp → Prop) (h0 : ∀ H1, Ex H H1 → Pv 0 σ H1)
    (hs : ∀ i c σ' H', cs[i]? = some c → Pv i σ' H' → g (.str (S [c])) σ' H' fun σ2 H2 => tu { D with nx := Pv (i + 1), ct := Pv (i + 1), bk := D.nx } σ2 H2) (hd : ∀ σ' H', Pv cs.length σ' H' → D.nx σ' H') : tFor (iStr ta) g tu D σ H :=
  h H (Ex.refl H) _ fun H1 e => ⟨S cs, rfl, for_str Pv (h0 H1 e) hs hd⟩
theorem q_forS {cs : List Nat} (h : Ev ta σ H (.str (S cs))) (Pv : Nat → L2.St → Hp → Prop) (h0 : ∀ H1, Ex H H1 → Pv 0 σ H1)
    (hs : ∀ i c σ' H', cs[i]? = some c → Pv i σ' H' → g (.str (S [c])) σ' H' fun σ2 H2 => tu { D with nx := Pv (i + 1), ct := Pv (i + 1), bk := tz D } σ2 H2) (hd : ∀ σ' H', Pv cs.length σ' H' → tz D σ' H') : tSeq (tFor (iStr ta) g tu) tz D σ H :=
  s_forS (D := { D with nx := tz D }) h Pv h0 hs hd
end
section
variable {σ : L2.St} {H : Hp} {D : Ends} {tz tu : TS} {t : TT}
/-- a statement, a word behind it -/
theorem q_word {t : TS} (W : L2.St → Hp → Prop) (h : ∀ N : L2.St → Hp → Prop, (∀ σ' H', W σ' H' → N σ' H') → t { D with nx := N } σ H) (k : ∀ σ' H', W σ' H' → tz D σ' H') : tSeq t tz D σ H := h (tz D) k
/-- an if without else, a word behind it -/
theorem q_ifW {b : Bool} (W : L2.St → Hp → Prop) (h : EvT t σ H b) (h1 : b = true → ∀ H1, Ex H H1 → ∀ N : L2.St → Hp → Prop, (∀ σ' H', W σ' H' → N σ' H') → tu { D with nx := N } σ H1) (h2 : b = false → ∀ H1, Ex H H1 → W σ H1) (k : ∀ σ' H', W σ' H' → tz D σ' H') :
    tSeq (tIfS t tu tNext) tz D σ H := q_when h (fun hb H1 e => h1 hb H1 e (tz D) k) (fun hb H1 e => k _ _ (h2 hb H1 e))
end
/-- list(text) -/
def rListStr : List V → Hp → VK → Prop := fun xs H Q => ∃ cs : List Nat, xs = [.str (S cs)] ∧ cs.length ≤ 100000 ∧ ∀ l, H l = none → Q (.ref l) (upd H l (.lst (cs.map fun c => V.str (S [c]))))
theorem vals_signs {x : Str} : ∀ (cs : List Nat) (its : List Value), its.length = cs.length → (∀ (i c : Nat), cs[i]? = some c → ∃ t, its[i]? = some (Value.str (S [c]) t)) → Vals (cs.map fun c => V.str (S [c])) its
  | [], [], _, _ => .nil
  | c :: cs, v :: its, hl, h => by
    obtain ⟨t, ht⟩ := h 0 c rfl
    simp at ht
    subst ht
    exact .cons ⟨t, rfl⟩ (vals_signs (x := x) cs its (by simpa using hl) fun i d hd => h (i + 1) d (by simpa using hd))
theorem call_list_strR {X : Cx} (hc : X.calm = true) : CallR X (.type "list") rListStr := by
  intro pins s σ H xs us Q I r h
  obtain ⟨cs, rfl, hl, q⟩ := h
  obtain ⟨u, rfl, rx⟩ := vals1 r
  obtain ⟨t, rfl⟩ := rx
  have hsz : (S cs).cps.size = cs.length := by simp [S]
  refine call_list_str (I.ok.hd hc) (S cs) t (fun h' tk acc c' hk e hi => ?_) (by rw [hsz, sizeLine_eq]; omega)
  have hv : Vals (cs.map fun c => V.str (S [c])) acc.toList := by
    refine vals_signs (x := S cs) cs acc.toList (by rw [Array.length_toList, hi.1, hsz]) fun i c hci => ?_
    have hi' : i < (S cs).cps.size := by
      rw [hsz]
      exact (List.getElem?_eq_some_iff.mp hci).1
    obtain ⟨v, hv⟩ : ∃ v, acc[i]? = some v := ⟨_, Array.getElem?_eq_getElem (by rw [hi.1]; exact hi')⟩
    obtain ⟨c2, u, h1, h2⟩ := hi.2 i v hv
    have h3 : c2 = c := by
      have : (S cs).cps = cs.toArray := rfl
      rw [this] at h1
      have h1' : cs[i]? = some c2 := by simpa using h1
      rw [h1'] at hci
      exact Option.some.inj hci
    subst h3
    exact ⟨u, by rw [h2] at hv; simpa using hv⟩
  refine ⟨.ref s.heap.objs.size, _, I.laid (t' := tk) hk (Nat.le_refl _) (show ObjOk X.prog X.w _ h' _ (.lst (cs.map fun c => V.str (S [c]))) from ⟨by rw [List.length_map, sizeLine_eq]; omega, acc.toList, c', hv, by rw [Array.toArray_toList]; exact e⟩), rfl, q _ (I.hok.fresh (Nat.le_refl _))⟩
theorem el_listS {σ : L2.St} {H : Hp} {ta : TE} {cs : List Nat} (ha : Ev ta σ H (.str (S cs))) (hl : cs.length ≤ 100000) : EvL (tCB rListStr (tCons ta tNil)) σ H (cs.map fun c => V.str (S [c])) := fun H1 e Q q =>
  ha H1 e _ fun H2 e2 => ⟨cs, rfl, hl, fun l hn => q l _ (fresh_back e2 hn) (e2.trans (Ex.new hn)) upd_same⟩
end LS

set_option Elab.async false
set_option linter.all false
set_option maxRecDepth 100000
set_option maxHeartbeats 2000000
/-! More data: == of data one of which is flat, t + u, appended data, slices. -/
namespace DD
open PySem PySem.Spec PyProof.Rows L2 Evl DK
/-- ==, != where one side is not deep -/
def rEqM (K : PySem.W.Frag) : R2 := fun x y H Q => ∃ d e, Dp K H x d ∧ Dp K H y e ∧ d.canLay0 = true ∧ e.canLay0 = true ∧ min d.depth e.depth ≤ 64 ∧ Q (.bl (PyData.eqv d e)) H
def rNeM (K : PySem.W.Frag) : R2 := fun x y H Q => ∃ d e, Dp K H x d ∧ Dp K H y e ∧ d.canLay0 = true ∧ e.canLay0 = true ∧ min d.depth e.depth ≤ 64 ∧ Q (.bl (!PyData.eqv d e)) H
section
variable {X : Cx}
theorem op_eqM (hu : X.A.units + 64 < cLine) : OpR X (compareOp .Eq) (rEqM X.K) := by
  intro pins s σ H x y v u Q I rx ry h
  obtain ⟨d, e, hd, he, sd, se, hm, q⟩ := h
  obtain ⟨as, r1⟩ := Dp.reads I d x v hd rx
  obtain ⟨bs, r2⟩ := Dp.reads I e y u he ry
  exact SeqAt.compareEq_reads r1 r2 sd se (by omega) ⟨.bl _, H, I, rfl, q⟩
theorem op_neM (hu : X.A.units + 64 < cLine) : OpR X (compareOp .NotEq) (rNeM X.K) := by
  intro pins s σ H x y v u Q I rx ry h
  obtain ⟨d, e, hd, he, sd, se, hm, q⟩ := h
  obtain ⟨as, r1⟩ := Dp.reads I d x v hd rx
  obtain ⟨bs, r2⟩ := Dp.reads I e y u he ry
  exact SeqAt.compareNe_reads r1 r2 sd se (by omega) ⟨.bl _, H, I, rfl, q⟩
end
section
variable {K : PySem.W.Frag} {M : List Addr} {σ : L2.St} {H H' : Hp} {te ta tb : TE} {t : TA} {d e : PyData} {ds es : List PyData} {v : V} {D : Ends} {tz : TS} {i : Nat}
theorem ev_eqM (ha : DE K M ta σ H d) (hb : DE K M tb σ H e) (sd : d.canLay0 = true) (se : e.canLay0 = true) (hm : min d.depth e.depth ≤ 64) : Ev (tOp (rEqM K) ta tb) σ H (.bl (PyData.eqv d e)) := fun H1 x Q q =>
  ha H1 x _ fun v1 H2 e2 d1 => hb H2 (x.trans e2) _ fun v2 H3 e3 d2 => ⟨d, e, dm_full (dm_ex e3 d1), dm_full d2, sd, se, hm, q H3 (e2.trans e3)⟩
theorem ev_neM (ha : DE K M ta σ H d) (hb : DE K M tb σ H e) (sd : d.canLay0 = true) (se : e.canLay0 = true) (hm : min d.depth e.depth ≤ 64) : Ev (tOp (rNeM K) ta tb) σ H (.bl (!PyData.eqv d e)) := fun H1 x Q q =>
  ha H1 x _ fun v1 H2 e2 d1 => hb H2 (x.trans e2) _ fun v2 H3 e3 d2 => ⟨d, e, dm_full (dm_ex e3 d1), dm_full d2, sd, se, hm, q H3 (e2.trans e3)⟩
theorem ev_eqD (ha : DE K M ta σ H d) (hb : DE K M tb σ H e) (sd : SeqAt.shaped d = true) (se : SeqAt.shaped e = true) : Ev (tOp (rEqD K) ta tb) σ H (.bl (PyData.eqv d e)) := fun H1 x Q q =>
  ha H1 x _ fun v1 H2 e2 d1 => hb H2 (x.trans e2) _ fun v2 H3 e3 d2 => ⟨d, e, dm_full (dm_ex e3 d1), dm_full d2, sd, se, q H3 (e2.trans e3)⟩
theorem ev_neD (ha : DE K M ta σ H d) (hb : DE K M tb σ H e) (sd : SeqAt.shaped d = true) (se : SeqAt.shaped e = true) : Ev (tOp (rNeD K) ta tb) σ H (.bl (!PyData.eqv d e)) := fun H1 x Q q =>
  ha H1 x _ fun v1 H2 e2 d1 => hb H2 (x.trans e2) _ fun v2 H3 e3 d2 => ⟨d, e, dm_full (dm_ex e3 d1), dm_full d2, sd, se, q H3 (e2.trans e3)⟩
/-- t + u -/
theorem de_catA (hM : Dom M H) (ha : DE K M ta σ H (.tuple ds)) (hb : DE K M tb σ H (.tuple es)) (hl : ds.length + es.length ≤ 100000) : DE K M (tOp (rCatA K) ta tb) σ H (.tuple (ds ++ es)) := fun H1 x Q q =>
  ha H1 x _ fun v1 H2 e2 d1 => hb H2 (x.trans e2) _ fun v2 H3 e3 d2 => by
    have d1' := dm_ex e3 d1
    have e23 := e2.trans e3
    cases d1' with
    | tup hs1 hv1 =>
      cases d2 with
      | tup hs2 hv2 =>
        rename_i a xs b ys
        have l1 := dpa_len hv1
        have l2 := dpa_len hv2
        refine ⟨a, b, xs, ys, rfl, rfl, ex_t (ex_full _ _) hs1, ex_t (ex_full _ _) hs2, sz_of (by omega), fun hx => ?_, fun hx hy => ?_, fun hx hy p hp => ?_⟩
        · have : ds = [] := by
            rw [hx] at l1
            exact List.length_eq_zero_iff.mp l1.symm
          rw [this] at q
          exact q _ H3 e23 (.tup hs2 hv2)
        · have : es = [] := by
            rw [hy] at l2
            exact List.length_eq_zero_iff.mp l2.symm
          rw [this, List.append_nil] at q
          exact q _ H3 e23 (.tup hs1 hv1)
        · have eX : Ex H3 (upd H3 p (.tup (xs ++ ys))) := Ex.new hp
          exact q _ _ (e23.trans eX) (.tup (st_of (mi_of ((hM.ex (x.trans e23)).nin hp) upd_same)) (dms_ex eX (dpa_app hv1 hv2)))
theorem da_dl2 {es fs : List PyData} (hM : Dom M H) (h1 : DL K M ta σ H es) (h2 : DL K M tb σ H fs) : DL K M (tLst (tCons ta (tCons tb tNil))) σ H [.list es, .list fs] :=
  dl_lst (da_cons (de_dl hM h1) (da_cons (de_dl hM h2) da_nil)) (show 2 ≤ 1000 by decide)
theorem dpa_ints : ∀ {is : List Int} {vs : List V}, DpAll K H vs (is.map PyData.int) → vs = is.map V.int
  | [], _, h => by cases h; rfl
  | i :: is, _, h => by
    cases h with
    | cons h1 h2 =>
      obtain rfl := dpInt h1
      rw [dpa_ints h2]
      rfl
/-- sum of a new list of ints -/
theorem ev_sumL {is : List Int} (h : DL K M te σ H (is.map PyData.int)) : Ev (tCB (rSum K) (tCons te tNil)) σ H (.int is.sum) := fun H1 x Q q =>
  h H1 x _ fun p us H2 n e2 hp hd => ⟨p, is, rfl, sq_of (by rw [hp, dpa_ints (dms_full hd)]), q H2 e2⟩
/-- l.append(e), l tracked at an address of M -/
theorem q_appD {l : Addr} {xs : List V} (hl : H l = some (.lst xs)) (hv : σ[i]? = some (some (.ref l))) (h : DE K M te σ H d) (hz : xs.length < 100000) (k : ∀ v H1, Ex H H1 → Dm K M H1 v d → tz D σ (upd H1 l (.lst (xs ++ [v])))) :
    tSeq (tDrop (tBM K "list" rAppend (tVar i) (tCons te tNil))) tz D σ H :=
  ⟨_, hv, .inl ⟨rfl, _, sq_of hl⟩, h H (Ex.refl H) _ fun v H1 e1 hd => ⟨l, xs, v, rfl, rfl, e1 _ _ hl, sz_lt hz, k v H1 e1 hd⟩⟩
theorem s_appD {l : Addr} {xs : List V} (hl : H l = some (.lst xs)) (hv : σ[i]? = some (some (.ref l))) (h : DE K M te σ H d) (hz : xs.length < 100000) (k : ∀ v H1, Ex H H1 → Dm K M H1 v d → D.nx σ (upd H1 l (.lst (xs ++ [v])))) :
    tDrop (tBM K "list" rAppend (tVar i) (tCons te tNil)) D σ H :=
  ⟨_, hv, .inl ⟨rfl, _, sq_of hl⟩, h H (Ex.refl H) _ fun v H1 e1 hd => ⟨l, xs, v, rfl, rfl, e1 _ _ hl, sz_lt hz, k v H1 e1 hd⟩⟩
theorem ixN_last (n : Nat) : ixN (n + 1) (-1) = some n := by
  unfold ixN
  rw [if_neg (by decide), if_pos (by omega)]
  exact congrArg some (by omega)
/-- l[-1] = e -/
theorem q_setLast {l : Addr} {us' : List V} {vt : V} (hl : H l = some (.lst (us' ++ [vt]))) (hv : σ[i]? = some (some (.ref l))) (h : DE K M te σ H d) (k : ∀ v H1, Ex H H1 → Dm K M H1 v d → tz D σ (upd H1 l (.lst (us' ++ [v])))) :
    tSeq (tAsg te (gSub (tVar i) (tUn (rU fun i => .int (-i)) (tC (.int 1))) rSetL)) tz D σ H :=
  h H (Ex.refl H) _ fun v H1 e1 hd => ⟨_, hv, 1, rfl, l, us' ++ [vt], -1, us'.length, rfl, rfl, e1 _ _ hl, by rw [List.length_append, List.length_singleton]; exact ixN_last _, by
    have e : (us' ++ [vt]).set us'.length v = us' ++ [v] := by simp
    rw [e]
    exact k v H1 e1 hd⟩
theorem dl_list {a : Addr} {vs : List V} (hM : Dom M H) (ha : Ev ta σ H (.ref a)) (h : H a = some (.lst vs)) (hd : Dms K (a :: M) H vs ds) {lo hi : Option Int} {tl th : TO} (h1 : EvO tl σ H lo) (h2 : EvO th σ H hi) {es : List PyData} {ws : List V} (hc : cutV vs lo hi = ws) (hw : Dms K (a :: M) H ws es) :
    DL K M (tSl (rSlL K) ta tl th) σ H es := fun H1 x Q q =>
  ha H1 x _ fun H2 e2 => h1 H2 (x.trans e2) _ fun H3 e3 => h2 H3 ((x.trans e2).trans e3) _ fun H4 e4 => by
    have e24 := (e2.trans e3).trans e4
    refine ⟨a, vs, rfl, sq_of ((x.trans e24) _ _ h), fun p hp => ?_⟩
    rw [hc]
    have eX : Ex H4 (upd H4 p (.lst ws)) := Ex.new hp
    exact q p ws _ (fresh_back e24 hp) (e24.trans eX) upd_same (dms_ex eX (dms_add hp (dms_less (dms_ex (x.trans e24) hw))))
end
end DD

set_option Elab.async false
set_option linter.all false
set_option maxRecDepth 100000
set_option maxHeartbeats 4000000
namespace TM
open PySem PySem.Spec PyProof.Rows L2 DK DD
mutual
theorem lay_enc : ∀ t : Trm, PyData.canLay0 (enc t) = true ∧ (enc t).depth ≤ 2 * dep t
  | .price s a => by
    simp only [enc, PyData.canLay0, PyData.canLayAll0, PyData.depth, PyData.depthAll, TM.dep]
    exact ⟨by decide +kernel, by decide⟩
  | .plain n => by
    simp only [enc, PyData.canLay0, PyData.canLayAll0, PyData.depth, PyData.depthAll, TM.dep]
    exact ⟨by decide +kernel, by decide⟩
  | .node .least ps => by
    obtain ⟨h1, h2⟩ := lay_encs ps
    simp only [enc, PyData.canLay0, PyData.canLayAll0, PyData.depth, PyData.depthAll, TM.dep, h1]
    exact ⟨by decide +kernel, by omega⟩
  | .node .most ps => by
    obtain ⟨h1, h2⟩ := lay_encs ps
    simp only [enc, PyData.canLay0, PyData.canLayAll0, PyData.depth, PyData.depthAll, TM.dep, h1]
    exact ⟨by decide +kernel, by omega⟩
  | .node (.rank k) ps => by
    obtain ⟨h1, h2⟩ := lay_encs ps
    simp only [enc, PyData.canLay0, PyData.canLayAll0, PyData.depth, PyData.depthAll, TM.dep, h1]
    exact ⟨by decide +kernel, by omega⟩
theorem lay_encs : ∀ ts : List Trm, PyData.canLayAll0 (encs ts) = true ∧ PyData.depthAll (encs ts) ≤ 2 * deps ts
  | [] => by simp [encs, PyData.canLayAll0, PyData.depthAll]
  | t :: ts => by
    obtain ⟨h1, h2⟩ := lay_enc t
    obtain ⟨h3, h4⟩ := lay_encs ts
    simp only [encs, PyData.canLayAll0, PyData.depthAll, h1, h3, deps]
    exact ⟨rfl, by omega⟩
end
theorem shaped_enc {t : Trm} (h : dep t ≤ 6) : SeqAt.shaped (enc t) = true := by
  obtain ⟨h1, h2⟩ := lay_enc t
  unfold SeqAt.shaped
  rw [h1, decide_eq_true (by omega)]
  rfl
theorem canLay_encs (ps : List Trm) : PyData.canLayAll0 (ps.map enc) = true := by
  rw [← encs_map]
  exact (lay_encs ps).1
end TM

set_option Elab.async false
set_option linter.all false
set_option maxRecDepth 100000
set_option maxHeartbeats 4000000
/-! set(xs), xs a list of ints: a set with its members' places kept, so that sorted() may read it. -/
namespace SE
open PySem PySem.Spec PyProof.Rows L2
section
variable {P : Program} {w : World} {A : Around} {E : Value → Shared → Prop} {s : Shared}
theorem mem_at {items : Array Value} {ns : List Int} (hi : IntsAre items.toList ns) (i : Nat) (v : Value) (e : items[i]? = some v) : ∃ k t, ns[i]? = some k ∧ v = .int k t := by
  have hn : items.size = ns.length := by
    have q := IntsAre.length hi
    rwa [Array.length_toList] at q
  have hlt : i < ns.length := hn ▸ (Array.getElem?_eq_some_iff.mp e).1
  obtain ⟨t, rfl⟩ := IntsAre.int_at hi i v (by rw [Array.getElem?_toList]; exact e)
  exact ⟨ns[i], t, List.getElem?_eq_getElem hlt, by rw [List.getD_eq_getElem?_getD, List.getElem?_eq_getElem hlt] <;> rfl⟩
/-- T(args): made by __new__, then filled by __init__, whose check may read the heap -/
theorem call_type_run {T newId initId : String} {args : List Value} {Q M : Value → Shared → Prop} (ft : TypeCalled T newId initId) (fits : checkTypeCall T ⟨args, []⟩ = pure ())
    (make : codeAny (model P w) A.in1 (.call (.builtin newId) ⟨.type T :: args, []⟩) (wants M E) s)
    (fill : ∀ r t, M r t → t.TypeIs r T ∧ codeAny (model P w) A.in1 (.call (.builtin initId) ⟨r :: args, []⟩) (wants (fun v t' => v = .none ∧ Q r t') E) t) :
    wpAny (model P w) A (call (.type T) args) Q E s := by
  have ⟨c, tl, mro⟩ := ft.mro
  have := ft.made
  have := ft.sub
  have := ft.notType
  have := ft.canCreate
  refine wpAny_call (codeAny_of_tree (wpAny_pure ⟨Code.quiet_builtin _ (by decide +kernel), codeAny_builtin F.entry_type_call ?_⟩))
  rw [Around.under_plain (weight_type_call_type _ _ _) rfl]
  repeat (any_goals (first | assumption | wp_step))

  refine codeAny_mono make fun q t hq => ?_
  match q, hq with
  | .ok (.ret r), hq =>
    have ⟨hT, run⟩ := fill _ _ hq
    have := ft.init.lookup
    have := ft.init.bind r
    repeat (any_goals (first | assumption | wp_step))

    refine codeAny_mono run fun q2 t2 h2 => ?_
    match q2, h2 with
    | .ok (.ret v), h2 =>
      have ⟨e, fin⟩ := h2
      subst e
      repeat (any_goals (first | assumption | wp_step))
    | .error _, h2 => exact h2
    | .ok .next, h2 => exact h2.elim
    | .ok .brk, h2 => exact h2.elim
    | .ok .cont, h2 => exact h2.elim
  | .error _, hq => exact hq
  | .ok .next, hq => exact hq.elim
  | .ok .brk, hq => exact hq.elim
  | .ok .cont, hq => exact hq.elim
abbrev emptyAt (w : World) : Obj := { cls := .type "set", dict := none, data := .set #[] 0 (.fresh 0 0 (!w.params.followText "set-order")) }
theorem set_of_ints {l : Addr} {items : Array Value} {ns : List Int} {Q : Value → Shared → Prop} (calm : A.handled = none) (hl : s.heap.IsList l items) (hi : IntsAre items.toList ns) (room : ns.length + 1 < scanBound)
    (k : ∀ (h' : Heap) (tk c : Nat), SetR w h' s.heap.objs.size (fun j => decide (j ∈ ns)) c → c ≤ ns.length → (∀ b o, s.heap.get? b = some o → h'.get? b = some o) → Q (.ref s.heap.objs.size) { s with heap := h', toks := tk }) :
    wpAny (model P w) A (call (.type "set") [.ref l]) Q E s := by
  have size : items.size = ns.length := by
    have q := IntsAre.length hi
    rwa [Array.length_toList] at q
  obtain ⟨hp, g, d, tk, os⟩ := s
  refine call_type_run (M := fun r t => r = .ref hp.objs.size ∧ t = { heap := hp.push (emptyAt w), gens := g, drawn := d, toks := tk, os := os }) F.called_set (F.typeCall_set_1 _) (code_set_led1 _ ⟨rfl, rfl⟩) fun r t z => ?_
  obtain ⟨rfl, rfl⟩ := z
  have new : (hp.push (emptyAt w)).get? hp.objs.size = some (emptyAt w) := Heap.get?_push_size _ rfl
  have hT : Shared.TypeIs { heap := hp.push (emptyAt w), gens := g, drawn := d, toks := tk, os := os } (.ref hp.objs.size) "set" := ⟨_, new, rfl⟩
  refine ⟨hT, codeAny_call_builtin F.called_set.init.plain F.entry_set_init (check_set_init_1 hT ?_)⟩
  have old : (hp.push (emptyAt w)).IsList l items := hl.push _
  have h1 := F.sub_list_set
  have h2 := F.sub_list_frozenset
  have h3 : (Value.type "list" == Value.type "dict") = false := by decide
  obtain ⟨⟨_, dd, _, sl⟩, hol, hcl, nl, hdl⟩ := id old
  simp only at hcl hdl
  subst hcl hdl
  have lt : l < hp.objs.size := by
    obtain ⟨o, ho, _⟩ := hl
    exact Heap.lt_size ho
  unfold Builtin.«set.__init__»
  unfold noKeywords Builtin.Frozenset.updateFrom
  generalize ep : pyIter = PI
  wp_walk
  subst ep
  refine wpAny_pyIter_list old (wpAny_bind (wpAny_runValue ?_))
  have lt2 : l ≠ (hp.push (emptyAt w)).objs.size := by
    rw [Heap.size_push]
    exact Nat.ne_of_lt (Nat.lt_succ_of_lt lt)
  have far : hp.objs.size ∉ [(hp.push (emptyAt w)).objs.size, l] := by
    rw [Heap.size_push]
    simp only [List.mem_cons, List.not_mem_nil, or_false, not_or]
    exact ⟨Nat.ne_of_lt (Nat.lt_succ_self _), Nat.ne_of_gt lt⟩
  have W := (Walks.list (prog := P) (w := w) (A := A.in1.in1.in1) (by simp [calm]) (hp.push (emptyAt w)).objs.size l lt2 items).toS
  refine set_update_ints W hp.objs.size far ns size room (mem_at hi) (items.size - 0) 0 _ (by omega) (Nat.zero_le _) ⟨⟨_, Heap.get?_push_size _ rfl, rfl, rfl⟩, old.push _⟩ ⟨0, Nat.le_refl 0, setR_new_at (Heap.get?_push_of_some _ new)⟩ fun t c m hc R => ?_
  have e : t = { heap := t.heap, gens := g, drawn := d, toks := t.toks, os := os } := by
    have e1 := m.gens
    have e2 := m.drawn
    have e3 := m.os
    cases t
    simp only at e1 e2 e3
    subst e1 e2 e3
    rfl
  refine wpAny_pure (wpAny_pure ⟨rfl, ?_⟩)
  rw [e]
  refine k _ _ c R (size ▸ hc) fun b o eb => m.heap b o ?_ (Heap.get?_push_of_some _ (Heap.get?_push_of_some _ eb))
  have lb := Heap.lt_size eb
  simp only [List.mem_cons, List.not_mem_nil, or_false, not_or]
  rw [Heap.size_push]
  exact ⟨Nat.ne_of_lt lb, Nat.ne_of_lt (Nat.lt_succ_of_lt lb)⟩
end
section
variable {X : Cx}
def rSetI (K : PySem.W.Frag) (w : World) : List V → Hp → VK → Prop := fun xs H Q => ∃ (l : Addr) (ns : List Int), xs = [.ref l] ∧ SqL K H l (ns.map V.int) ∧ ns.length < 4000 ∧
  ∀ (p : Addr) (c : Nat), H p = none → c ≤ ns.length → Q (.ref p) (upd H p (SetO w p (fun j => decide (j ∈ ns)) c))
theorem cr_setI (hc : X.calm = true) : CallR X (.type "set") (rSetI X.K X.w) := by
  intro pins s σ H xs us Q I r h
  obtain ⟨l, ns, rfl, hq, hz, q⟩ := h
  obtain ⟨its, rv, hl, _⟩ := I.list hq
  rw [Vals.ref1 r]
  refine set_of_ints (I.ok.hd hc) hl.isList (ns := ns) (by simpa using rv.ints) (by unfold scanBound; omega) fun h' tk c R hcn k => ?_
  exact ⟨.ref _, upd H s.heap.objs.size (SetO X.w s.heap.objs.size (fun j => decide (j ∈ ns)) c), I.laid (t' := tk) k (Nat.le_refl _) (setO_new R), rfl, q _ c (I.hok.fresh (Nat.le_refl _)) hcn⟩
end
end SE

set_option Elab.async false
set_option linter.all false
set_option maxRecDepth 100000
set_option maxHeartbeats 2000000
/-! What a term tells of prices, in what order numbers stand, which shops a term names. -/
theorem _root_.DK.hu1 {k : Nat} {A : PySem.Around} (hr : L2.Room k A) : A.units + 1 < PySem.cLine := by
  have := DK.hu64 hr
  omega
namespace TM
open PySem PySem.Spec PyProof.Rows L2 DK DD
/-- ascending -/
def asc (l : List Int) : List Int := l.mergeSort fun a b => decide (a ≤ b)
theorem asc_perm (l : List Int) : (asc l).Perm l := List.mergeSort_perm l _
theorem asc_len (l : List Int) : (asc l).length = l.length := (asc_perm l).length_eq
theorem asc_pw (l : List Int) : (asc l).Pairwise (· ≤ ·) := by
  have h := List.pairwise_mergeSort (le := fun a b : Int => decide (a ≤ b)) (fun a b c h1 h2 => by simp at h1 h2 ⊢; omega) (fun a b => by simp; omega) l
  exact h.imp fun h => by simpa using h
theorem asc_uni {a b : List Int} (p : a.Perm b) (s : a.Pairwise (· ≤ ·)) : a = asc b :=
  List.Perm.eq_of_pairwise (fun x y _ _ h1 h2 => Int.le_antisymm h1 h2) s (asc_pw b) (p.trans (asc_perm b).symm)
/-- each number once -/
def ded : List Int → List Int
  | [] => []
  | x :: l => if x ∈ ded l then ded l else x :: ded l
theorem mem_ded {i : Int} : ∀ {l : List Int}, i ∈ ded l ↔ i ∈ l
  | [] => by simp [ded]
  | x :: l => by
    have ih := mem_ded (i := i) (l := l)
    rw [ded]
    split
    · rename_i h
      rw [ih, List.mem_cons]
      exact ⟨.inr, fun z => z.elim (fun e => e ▸ mem_ded.mp h) id⟩
    · rw [List.mem_cons, List.mem_cons, ih]
theorem nodup_ded : ∀ l : List Int, (ded l).Nodup
  | [] => by simp [ded]
  | x :: l => by
    rw [ded]
    split
    · exact nodup_ded l
    · exact List.nodup_cons.mpr ⟨by assumption, nodup_ded l⟩
theorem len_ded : ∀ l : List Int, (ded l).length ≤ l.length
  | [] => by simp [ded]
  | x :: l => by
    have := len_ded l
    rw [ded]
    split
    · rw [List.length_cons]; omega
    · rw [List.length_cons, List.length_cons]; omega
/-- ascending, each once -/
def uni (l : List Int) : List Int := asc (ded l)
theorem mem_uni {i : Int} {l : List Int} : i ∈ uni l ↔ i ∈ l := by
  unfold uni
  rw [(asc_perm _).mem_iff, mem_ded]
theorem uni_len (l : List Int) : (uni l).length ≤ l.length := by
  unfold uni
  rw [asc_len]
  exact len_ded l
theorem uni_lt (l : List Int) : (uni l).Pairwise (· < ·) := L2.lt_of_le_nodup _ (asc_pw _) ((asc_perm _).nodup_iff.mpr (nodup_ded l))
theorem lt_uni : ∀ {a b : List Int}, a.Pairwise (· < ·) → b.Pairwise (· < ·) → (∀ i, i ∈ a ↔ i ∈ b) → a = b
  | [], [], _, _, _ => rfl
  | [], y :: b, _, _, h => absurd ((h y).mpr (by simp)) (by simp)
  | x :: a, [], _, _, h => absurd ((h x).mp (by simp)) (by simp)
  | x :: a, y :: b, ha, hb, h => by
    obtain ⟨ha1, ha2⟩ := List.pairwise_cons.mp ha
    obtain ⟨hb1, hb2⟩ := List.pairwise_cons.mp hb
    have e : x = y := by
      have h1 := (h x).mp (by simp)
      have h2 := (h y).mpr (by simp)
      rw [List.mem_cons] at h1 h2
      rcases h1 with h1 | h1
      · exact h1
      · rcases h2 with h2 | h2
        · exact h2.symm
        · have := hb1 x h1
          have := ha1 y h2
          omega
    subst e
    rw [lt_uni ha2 hb2 fun i => ?_]
    have hi := h i
    rw [List.mem_cons, List.mem_cons] at hi
    constructor
    · intro m
      have := ha1 i m
      exact (hi.mp (.inr m)).elim (fun z => by omega) id
    · intro m
      have := hb1 i m
      exact (hi.mpr (.inr m)).elim (fun z => by omega) id
/-- the number that a word takes out of ascending ones -/
def pick (h : Hd) (l : List Int) : Int := match h with
  | .least => l.getD 0 0
  | .most => l.getD (l.length - 1) 0
  | .rank k => l.getD (k - 1) 0
mutual
def val (ps : List Int) : Trm → Int
  | .price s a => ps.getD s 0 + a
  | .plain n => n
  | .node h ts => pick h (asc (vals ps ts))
def vals (ps : List Int) : List Trm → List Int
  | [] => []
  | t :: ts => val ps t :: vals ps ts
end
theorem vals_map (ps : List Int) : ∀ ts : List Trm, vals ps ts = ts.map (val ps)
  | [] => rfl
  | t :: ts => by rw [vals, vals_map ps ts] <;> rfl
mutual
/-- the shops in a term, from left to right -/
def shs : Trm → List Int
  | .price s _ => [(s : Int)]
  | .plain _ => []
  | .node _ ts => shss ts
def shss : List Trm → List Int
  | [] => []
  | t :: ts => shs t ++ shss ts
end
theorem shss_mem {x : Int} : ∀ {ts : List Trm}, x ∈ shss ts ↔ ∃ t ∈ ts, x ∈ shs t
  | [] => by simp [shss]
  | t :: ts => by
    rw [shss, List.mem_append, shss_mem (ts := ts)]
    simp
theorem shss_flat : ∀ ts : List Trm, shss ts = ts.flatMap shs
  | [] => rfl
  | t :: ts => by rw [shss, shss_flat ts] <;> rfl
mutual
theorem shs_len : ∀ t : Trm, (shs t).length ≤ cnt t
  | .price s a => by simp [shs, cnt]
  | .plain n => by simp [shs, cnt]
  | .node h ts => by
    have := shss_len ts
    simp only [shs, cnt]
    omega
theorem shss_len : ∀ ts : List Trm, (shss ts).length ≤ cnts ts
  | [] => by simp [shss, cnts]
  | t :: ts => by
    have h1 := shs_len t
    have h2 := shss_len ts
    simp only [shss, cnts, List.length_append]
    omega
end
mutual
theorem shs_in {sh mo : Int} : ∀ {t : Trm}, inB sh mo t → ∀ x ∈ shs t, x < sh
  | .price s a, h, x, hx => by
    simp only [shs, List.mem_singleton] at hx
    subst hx
    exact h.1
  | .plain n, _, x, hx => by simp [shs] at hx
  | .node _ ts, h, x, hx => shss_in (ts := ts) h x hx
theorem shss_in {sh mo : Int} : ∀ {ts : List Trm}, inBs sh mo ts → ∀ x ∈ shss ts, x < sh
  | [], _, x, hx => by simp [shss] at hx
  | t :: ts, h, x, hx => by
    rw [shss, List.mem_append] at hx
    rcases hx with hx | hx
    · exact shs_in (t := t) h.1 x hx
    · exact shss_in (ts := ts) h.2 x hx
end
section
variable {K : PySem.W.Frag} {M : List Addr} {σ : L2.St} {H : Hp} {te : TE}
theorem ev_ixNewL {ta tb : TE} {xs : List V} {i : Int} {v : V} (ha : Evl.EvL ta σ H xs) (hb : Evl.Ev tb σ H (.int i)) (h : atI xs i = some v) : Evl.Ev (tOp (rIxL K) ta tb) σ H v := fun H1 e Q q =>
  ha H1 e _ fun p H2 _ e2 hp => hb H2 (e.trans e2) _ fun H3 e3 => ⟨p, xs, i, v, rfl, rfl, Evl.sq_of (e3 _ _ hp), h, q H3 (e2.trans e3)⟩
theorem dp_ints : ∀ is : List Int, DpAll K H (is.map V.int) (is.map PyData.int)
  | [] => .nil
  | i :: is => .cons (.int i) (dp_ints is)
/-- sorted(xs), xs a new list of ints -/
theorem dl_asc {is : List Int} (h : DL K M te σ H (is.map PyData.int)) (hl : is.length < 64) : DL K M (tCB (rSorted K) (tCons te tNil)) σ H ((asc is).map PyData.int) := fun H1 x Q q =>
  h H1 x _ fun p vs H2 n e hp hd => by
    obtain rfl := dpa_ints hd
    refine ⟨p, is, rfl, Evl.sq_of hp, hl, fun ns' r hperm hpw hr => ?_⟩
    obtain rfl := asc_uni hperm hpw
    exact q r _ _ (by
      cases hz : H1 r with
      | none => rfl
      | some o => rw [e _ _ hz] at hr; cases hr) (e.trans (Evl.Ex.new hr)) upd_same (dp_ints _)
/-- sorted(set(xs)), xs a new list of ints -/
theorem dl_uni {w : World} {is : List Int} (h : DL K M te σ H (is.map PyData.int)) (hl : is.length < 64) : DL K M (tCB (rSortedSet w) (tCons (tCB (SE.rSetI K w) (tCons te tNil)) tNil)) σ H ((uni is).map PyData.int) := fun H1 x Q q =>
  h H1 x _ fun p vs H2 n e hp hd => by
    obtain rfl := dpa_ints hd
    refine ⟨p, is, rfl, Evl.sq_of hp, by omega, fun a c na hc => ?_⟩
    refine ⟨a, _, c, rfl, upd_same, by omega, fun ns r hpw hm hlen hr => ?_⟩
    obtain rfl : ns = uni is := lt_uni hpw (uni_lt is) fun i => by
      rw [hm, mem_uni]
      simp
    exact q r _ _ (by
      cases hz : H1 r with
      | none => rfl
      | some o =>
        have := Evl.Ex.new (o := SetO w a (fun j => decide (j ∈ is)) c) na _ _ (e _ _ hz)
        rw [this] at hr
        cases hr) ((e.trans (Evl.Ex.new na)).trans (Evl.Ex.new hr)) upd_same (dp_ints _)
theorem dpa_bools : ∀ {bs : List Bool} {vs : List V}, DpAll K H vs (bs.map PyData.bool) → vs = bs.map V.bl
  | [], _, h => by cases h; rfl
  | b :: bs, _, h => by
    cases h with
    | cons h1 h2 =>
      cases h1
      rw [dpa_bools h2] <;> rfl
def isLst : PyData → Bool
  | .list _ => true
  | _ => false
theorem kit_list (d : PyData) : kitB (tyN d) "list" = some (isLst d) := by cases d <;> (simp only [tyN, isLst]; decide +kernel)
/-- all(xs), xs a new list of booleans -/
theorem ev_allL {bs : List Bool} (h : DL K M te σ H (bs.map PyData.bool)) : Evl.Ev (tCB (rAll K) (tCons te tNil)) σ H (.bl (bs.all id)) := fun H1 x Q q =>
  h H1 x _ fun p vs H2 n e hp hd => by
    obtain rfl := dpa_bools hd
    exact ⟨p, bs, rfl, Evl.sq_of hp, q H2 e⟩
end
end TM
namespace TM
open PySem PySem.Spec PyProof.Rows L2 DK DD
section
variable {K : PySem.W.Frag} {M : List Addr} {σ : L2.St} {H : Hp} {te : TE}
/-- [e for x in xs], xs a list of (l.map enc) -/
theorem dl_lcL {α : Type} {l : List α} {enc f : α → PyData} {tl : TE} {j : Nat} {ws : List Nat} (hM : Dom M H) (h : DE K M tl σ H (.list (l.map enc))) (hl : l.length ≤ 1000) (hw : ∀ x, wipe ((wipe σ ws).set j (some x)) ws = wipe σ ws)
    (he : ∀ a ∈ l, ∀ x H1 D, H D = none → Evl.Ex H H1 → Dom (D :: M) H1 → Dm K (D :: M) H1 x (enc a) → DE K (D :: M) te ((wipe σ ws).set j (some x)) H1 (f a)) : DL K M (tLc (iList K tl) (gName j) tYes te ws) σ H (l.map f) := fun H0 x0 Q q => h H0 x0 _ fun v H1 x1 hd => by
  have hd' := hd
  cases hd' with
  | lst hs hv =>
  rename_i a xs
  have sq : ∀ H', Evl.Ex H1 H' → SqL K H' a xs := fun H' e => Evl.ex_l e (Evl.ex_l (ex_full _ _) hs)
  refine ⟨a, rfl, ⟨xs, sq _ (Evl.Ex.refl _)⟩, fun Dl hD => ?_⟩
  have h0 : H0 Dl = none := Evl.fresh_back x1 hD
  have hx : xs.length = l.length := by rw [dpa_len hv, List.length_map]
  refine lc_list (xs := xs) (fun i H' => Evl.Ex H1 H' ∧ ∃ acc, H' Dl = some (.lst acc) ∧ Dms K (Dl :: M) H' acc ((l.take i).map f)) ⟨Evl.Ex.new hD, [], upd_same, .nil⟩ (fun i H' _ p => sq _ p.1) (fun i y H' hy p => ⟨hw y, ?_⟩) (fun H' p => ?_)
  · obtain ⟨p1, acc, p2, p3⟩ := p
    obtain ⟨ey, hey, dy⟩ := dpa_get' hv hy
    obtain ⟨la, hla, rfl⟩ : ∃ la, l[i]? = some la ∧ enc la = ey := by
      rw [List.getElem?_map] at hey
      cases z : l[i]? with
      | none => rw [z] at hey; cases hey
      | some la => rw [z] at hey; exact ⟨la, rfl, Option.some.inj hey⟩
    have hdom : Dom (Dl :: M) H' := ((hM.ex (x0.trans x1)).ex p1).cons (by rw [p2]; exact fun z => nomatch z)
    refine he la (List.mem_of_getElem? hla) y H' Dl (Evl.fresh_back x0 h0) ((x0.trans x1).trans p1) hdom (dm_ex p1 (dm_add hD dy)) H' (Evl.Ex.refl _) _ fun w H2 x2 hw2 => ?_
    have eM : ExM (Dl :: M) H2 (upd H2 Dl (.lst (acc ++ [w]))) := ExM.mut (by simp)
    refine ⟨acc, x2 _ _ p2, Evl.sz_lt (by have := dpa_len p3; rw [List.length_map, List.length_take] at this; omega), (p1.trans x2).mut hD, acc ++ [w], upd_same, ?_⟩
    rw [List.take_add_one, hla, List.map_append]
    exact dpa_app (dms_exM eM (dms_ex x2 p3)) (.cons (dm_exM eM hw2) .nil)
  · obtain ⟨p1, acc, p2, p3⟩ := p
    rw [hx, List.take_length] at p3
    exact q Dl acc H' h0 (x1.trans p1) p2 p3
/-- [y for x in t for y in e], t a tuple of (l.map enc), e a list of (f x) -/
theorem dl_lc2 {α : Type} {l : List α} {enc : α → PyData} {f : α → List PyData} {tl te1 : TE} {j i1 : Nat} {ws ws1 : List Nat} (hM : Dom M H) (h : DE K M tl σ H (.tuple (l.map enc))) (tot : (l.flatMap f).length ≤ 1000) (hw : ∀ x, wipe ((wipe σ ws).set j (some x)) ws = wipe σ ws)
    (hw1 : ∀ x y, wipe ((wipe ((wipe σ ws).set j (some x)) ws1).set i1 (some y)) ws1 = wipe ((wipe σ ws).set j (some x)) ws1) (hy : ∀ x y, ((wipe ((wipe σ ws).set j (some x)) ws1).set i1 (some y))[i1]? = some (some y))
    (he : ∀ a ∈ l, ∀ x H1 D, H D = none → Evl.Ex H H1 → Dom (D :: M) H1 → Dm K (D :: M) H1 x (enc a) → DE K (D :: M) te1 ((wipe σ ws).set j (some x)) H1 (.list (f a))) :
    DL K M (tLc2 (iTup K tl) (gName j) tYes (iList K te1) (gName i1) tYes (tVar i1) ws ws1) σ H (l.flatMap f) := fun H0 x0 Q q => h H0 x0 _ fun v H1 x1 hd => by
  have hd' := hd
  cases hd' with
  | tup hs hv =>
  rename_i a xs
  have sq : ∀ H', Evl.Ex H1 H' → SqT K H' a xs := fun H' e => Evl.ex_t e (Evl.ex_t (ex_full _ _) hs)
  refine ⟨a, rfl, ⟨xs, sq _ (Evl.Ex.refl _)⟩, fun Dl hD => ?_⟩
  have h0 : H0 Dl = none := Evl.fresh_back x1 hD
  have hx : xs.length = l.length := by rw [dpa_len hv, List.length_map]
  let S : Nat → Hp → Prop := fun i H' => i ≤ xs.length ∧ Evl.Ex H1 H' ∧ ∃ acc, H' Dl = some (.lst acc) ∧ Dms K (Dl :: M) H' acc ((l.take i).flatMap f)
  refine ⟨fun i m H' => m = xs.length - i ∧ S i H', ⟨_, rfl, Nat.zero_le _, Evl.Ex.new hD, [], upd_same, .nil⟩, ?_⟩
  rintro i m H' ⟨rfl, hi, p1, acc, p2, p3⟩
  by_cases hlt : i < xs.length
  · refine .inr ⟨⟨xs, xs[i], sq _ p1, by simp [hlt]⟩, S (i + 1), fun H' p' => ⟨xs.length - (i + 1), by omega, rfl, p'⟩, fun x H2 z => ?_⟩
    obtain ⟨rfl, z⟩ := z
    obtain ⟨ey, hey, dy⟩ := dpa_get' hv (z xs (sq _ p1))
    obtain ⟨la, hla, rfl⟩ : ∃ la, l[i]? = some la ∧ enc la = ey := by
      rw [List.getElem?_map] at hey
      cases z : l[i]? with
      | none => rw [z] at hey; cases hey
      | some la => rw [z] at hey; exact ⟨la, rfl, Option.some.inj hey⟩
    have hdom : Dom (Dl :: M) H2 := ((hM.ex (x0.trans x1)).ex p1).cons (by rw [p2]; exact fun z => nomatch z)
    refine ⟨hw x, ?_⟩
    refine he la (List.mem_of_getElem? hla) x H2 Dl (Evl.fresh_back x0 h0) ((x0.trans x1).trans p1) hdom (dm_ex p1 (dm_add hD dy)) H2 (Evl.Ex.refl _) _ fun w H4 x4 hw4 => ?_
    cases hw4 with
    | lst hs1 hv1 =>
    rename_i a1 ys
    refine ⟨a1, rfl, ⟨ys, Evl.ex_l (ex_full _ _) hs1⟩, ?_⟩
    have take1 : (l.take (i + 1)).flatMap f = (l.take i).flatMap f ++ f la := by
      rw [List.take_add_one, hla, List.flatMap_append]
      simp
    have part : ((l.take (i + 1)).flatMap f).length ≤ (l.flatMap f).length := by
      have := congrArg List.length (congrArg (List.flatMap f) (List.take_append_drop (i + 1) l))
      rw [List.flatMap_append, List.length_append] at this
      omega
    have hyl : ys.length = (f la).length := dpa_len hv1
    let U : Nat → Hp → Prop := fun k H' => k ≤ ys.length ∧ Evl.Ex H1 H' ∧ SqL K (mi H' (Dl :: M)) a1 ys ∧ Dms K (Dl :: M) H' ys (f la) ∧ ∃ acc, H' Dl = some (.lst acc) ∧ Dms K (Dl :: M) H' acc ((l.take i).flatMap f ++ (f la).take k)
    refine ⟨fun k m H' => m = ys.length - k ∧ U k H', ⟨_, rfl, Nat.zero_le _, p1.trans x4, hs1, hv1, acc, x4 _ _ p2, by simpa using dms_ex x4 p3⟩, ?_⟩
    rintro k m H5 ⟨rfl, hk, u1, u2, u3, acc, u4, u5⟩
    have sq5 := Evl.ex_l (ex_full _ _) u2
    by_cases hlt1 : k < ys.length
    · refine .inr ⟨⟨ys, ys[k], sq5, by simp [hlt1]⟩, U (k + 1), fun H' p' => ⟨ys.length - (k + 1), by omega, rfl, p'⟩, fun y H6 z => ?_⟩
      obtain ⟨rfl, z⟩ := z
      have z := z ys sq5
      refine ⟨hw1 x y, ?_⟩
      simp only [tYes, ↓reduceIte]
      refine Evl.ev_var (hy x y) H6 (Evl.Ex.refl _) _ fun H7 x7 => ?_
      obtain ⟨ed, hed, dd⟩ := dpa_get' u3 z
      have eM : ExM (Dl :: M) H7 (upd H7 Dl (.lst (acc ++ [y]))) := ExM.mut (by simp)
      have e57 := ex_mi (M := Dl :: M) x7
      refine ⟨acc, x7 _ _ u4, Evl.sz_lt ?_, by omega, (u1.trans x7).mut hD, Evl.ex_l (exM_mi eM) (Evl.ex_l e57 u2), dms_exM eM (dms_ex x7 u3), acc ++ [y], upd_same, ?_⟩
      · have := dpa_len u5
        rw [List.length_append, List.length_take] at this
        rw [take1, List.length_append] at part
        omega
      · rw [List.take_add_one, hed, ← List.append_assoc]
        exact dpa_app (dms_exM eM (dms_ex x7 u5)) (.cons (dm_exM eM (dm_ex x7 dd)) .nil)
    · have e : k = ys.length := by omega
      subst e
      refine .inl ⟨⟨ys, sq5, Nat.le_refl _⟩, by omega, u1, acc, u4, ?_⟩
      rw [take1]
      rw [hyl, List.take_length] at u5
      exact u5
  · have e : i = xs.length := by omega
    subst e
    rw [hx, List.take_length] at p3
    exact .inl ⟨⟨xs, sq _ p1, Nat.le_refl _⟩, q Dl acc H' h0 (x1.trans p1) p2 p3⟩
/-- list(xs), tuple or list: a new list of the same -/
theorem dl_copy {ds : List PyData} (h : DE K M te σ H (.list ds)) : DL K M (tCB (fun xs H Q => ∃ p ys, xs = [.ref p] ∧ (SqL K H p ys ∨ SqT K H p ys) ∧ ∀ l, H l = none → Q (.ref l) (upd H l (.lst ys))) (tCons te tNil)) σ H ds := fun H1 x Q q =>
  h H1 x _ fun v H2 x2 hd => by
    cases hd with
    | lst hs hv =>
      exact ⟨_, _, rfl, .inl (Evl.ex_l (ex_full _ _) hs), fun l hl => q l _ _ (Evl.fresh_back x2 hl) (x2.trans (Evl.Ex.new hl)) upd_same (dms_ex (Evl.Ex.new hl) (dms_add hl hv))⟩
/-- tuple(xs), xs a list of ints: a new tuple of the same -/
theorem eu_tuple {is : List Int} (h : DE K M te σ H (.list (is.map PyData.int))) : Evl.EvU (tCB (fun xs H Q => ∃ p ys, xs = [.ref p] ∧ ((SqL K H p ys ∧ ∀ l, H l = none → Q (.ref l) (upd H l (.tup ys))) ∨ (SqT K H p ys ∧ Q (.ref p) H))) (tCons te tNil)) σ H (is.map V.int) := fun H1 x Q q =>
  h H1 x _ fun v H2 x2 hd => by
    cases hd with
    | lst hs hv =>
      obtain rfl := dpa_ints hv
      exact ⟨_, _, rfl, .inl ⟨Evl.ex_l (ex_full _ _) hs, fun l hl => q l _ (Evl.fresh_back x2 hl) (x2.trans (Evl.Ex.new hl)) upd_same⟩⟩
/-! ### dicts with tuples of ints as keys -/
def ky (is : List Int) : List L2.Key := is.map Sum.inl
theorem ky_kV (is : List Int) : (ky is).map kV = is.map V.int := by
  unfold ky
  rw [List.map_map]
  rfl
theorem ky_inj {a b : List Int} (h : ky a = ky b) : a = b := by
  have := congrArg (List.map fun k : L2.Key => match k with | .inl i => i | .inr _ => 0) h
  unfold ky at this
  rw [List.map_map, List.map_map] at this
  simpa [Function.comp_def] using this
theorem ev_dnotin {d : Addr} {kvs : List (List L2.Key × V)} {is : List Int} {i : Nat} (hd : H d = some (.dT kvs)) (hi : σ[i]? = some (some (.ref d))) (ht : Evl.EvU te σ H (is.map V.int)) : Evl.Ev (tDNotIn te (tVar i)) σ H (.bl (!(valV kvs (ky is)).isSome)) := fun H1 e1 Q q =>
  ht H1 e1 _ fun p H2 n2 e2 hp => ⟨_, hi, d, _, rfl, DGet.t (e2 _ _ (e1 _ _ hd)) (by rw [ky_kV]; exact hp), q H2 e2⟩
theorem ev_din {d : Addr} {kvs : List (List L2.Key × V)} {is : List Int} {i : Nat} (hd : H d = some (.dT kvs)) (hi : σ[i]? = some (some (.ref d))) (ht : Evl.EvU te σ H (is.map V.int)) : Evl.Ev (tDIn te (tVar i)) σ H (.bl (valV kvs (ky is)).isSome) := fun H1 e1 Q q =>
  ht H1 e1 _ fun p H2 n2 e2 hp => ⟨_, hi, d, _, rfl, DGet.t (e2 _ _ (e1 _ _ hd)) (by rw [ky_kV]; exact hp), q H2 e2⟩
theorem ev_dget {d : Addr} {kvs : List (List L2.Key × V)} {is : List Int} {i : Nat} {v : V} (hd : H d = some (.dT kvs)) (hi : σ[i]? = some (some (.ref d))) (ht : Evl.EvU te σ H (is.map V.int)) (hv : valV kvs (ky is) = some v) : Evl.Ev (tDGet (tVar i) te) σ H v := fun H1 e1 Q q =>
  ⟨_, hi, ht H1 e1 _ fun p H2 n2 e2 hp => ⟨d, v, rfl, by rw [← hv]; exact DGet.t (e2 _ _ (e1 _ _ hd)) (by rw [ky_kV]; exact hp), q H2 e2⟩⟩
theorem ev_dlen {d : Addr} {kvs : List (List L2.Key × V)} {i : Nat} (hd : H d = some (.dT kvs)) (hi : σ[i]? = some (some (.ref d))) : Evl.Ev (tCB rLenT (tCons (tVar i) tNil)) σ H (.int (kvs.length : Int)) :=
  Evl.ev_cb (Evl.ea_cons (Evl.ev_var hi) Evl.ea_nil) fun H1 e1 Q q => ⟨d, kvs, rfl, e1 _ _ hd, q H1 (Evl.Ex.refl _)⟩
theorem q_dputT {d : Addr} {kvs : List (List L2.Key × V)} {is : List Int} {i : Nat} {v : V} {tv : TE} {tz : TS} {D : Ends} (hd : H d = some (.dT kvs)) (hz : kvs.length < 100000) (hi : σ[i]? = some (some (.ref d))) (hv : Evl.Ev tv σ H v) (ht : Evl.EvU te σ H (is.map V.int))
    (k : ∀ H1, Evl.Ex H H1 → tz D σ (upd H1 d (.dT (putK kvs (ky is) v)))) : tSeq (sDPut (tVar i) te tv) tz D σ H :=
  hv H (Evl.Ex.refl _) _ fun H1 e1 => ⟨_, hi, ht H1 e1 _ fun p H2 n2 e2 hp => ⟨d, _, rfl, DPut.t (e2 _ _ (e1 _ _ hd)) (by rw [ky_kV]; exact hp) (Evl.sz_lt hz), k _ (e1.trans e2)⟩⟩
/-- the dict of what came, with when -/
def keysD (x : Nat → List Int) (n : Nat) : List (List L2.Key × V) := (List.range n).map fun i => (ky (x i), V.int (i : Int))
/-- when what comes at n came before -/
def bef (x : Nat → List Int) (n : Nat) : Option Nat := (List.range n).find? fun f => decide (x f = x n)
theorem val_keys (x : Nat → List Int) (n : Nat) : valV (keysD x n) (ky (x n)) = (bef x n).map fun f : Nat => V.int (f : Int) := by
  unfold valV keysD bef
  rw [List.find?_map, Option.map_map]
  have : ((fun kv : List L2.Key × V => decide (kv.1 = ky (x n))) ∘ fun i => (ky (x i), V.int (i : Int))) = fun f => decide (x f = x n) := funext fun f => by
    show decide (ky (x f) = ky (x n)) = decide (x f = x n)
    by_cases h : x f = x n
    · rw [h, decide_eq_true rfl, decide_eq_true rfl]
    · rw [decide_eq_false h, decide_eq_false fun z => h (ky_inj z)]
  rw [this]
  rfl
theorem put_keys {x : Nat → List Int} {n : Nat} (h : bef x n = none) : putK (keysD x n) (ky (x n)) (.int (n : Int)) = keysD x (n + 1) := by
  unfold putK
  rw [valV_any, val_keys, h]
  simp [keysD, List.range_succ]
theorem bef_some {x : Nat → List Int} {n f : Nat} (h : bef x n = some f) : f < n ∧ x f = x n := by
  have h1 := List.mem_of_find?_eq_some h
  have h2 := List.find?_some h
  exact ⟨List.mem_range.mp h1, of_decide_eq_true h2⟩
theorem keys_len (x : Nat → List Int) (n : Nat) : (keysD x n).length = n := by
  unfold keysD
  rw [List.length_map, List.length_range]
end
end TM
namespace TM
theorem cap_up (l : Nat) : cap l ≤ cap (l + 1) := by
  show cap l ≤ 1 + 3 * cap l
  omega
theorem Gen.up {sh mo : Int} {l : Nat} {t : Trm} (h : Gen sh mo l t) : Gen sh mo (l + 1) t :=
  ⟨h.fr, Nat.le_succ_of_le h.dep, Nat.le_trans h.cnt (cap_up l), h.inB⟩
theorem Gen.up1 {sh mo : Int} {t : Trm} (h : Gen sh mo 1 t) : ∀ l, Gen sh mo (l + 1) t
  | 0 => h
  | l + 1 => (Gen.up1 h l).up
end TM

set_option Elab.async false
set_option linter.all false
set_option maxRecDepth 100000
set_option maxHeartbeats 2000000
/-! Data as values, with empty dicts: a value v bears a datum d (Rv). -/
namespace PY
open PySem PySem.Spec PyProof.Rows L2 DK DD
mutual
inductive Rv (K : PySem.W.Frag) (H : Hp) : V → PyData → Prop
  | non : Rv K H .non .none
  | bl (b : Bool) : Rv K H (.bl b) (.bool b)
  | int (i : Int) : Rv K H (.int i) (.int i)
  | str (x : Str) : Rv K H (.str x) (.str x)
  | lst {a : Addr} {xs : List V} {ds : List PyData} : H a = some (.lst xs) → RvA K H xs ds → Rv K H (.ref a) (.list ds)
  | tup {a : Addr} {xs : List V} {ds : List PyData} : H a = some (.tup xs) → RvA K H xs ds → Rv K H (.ref a) (.tuple ds)
  | emp {a : Addr} : H a = some (.dK []) → Rv K H (.ref a) (.dict [])
inductive RvA (K : PySem.W.Frag) (H : Hp) : List V → List PyData → Prop
  | nil : RvA K H [] []
  | cons {v : V} {vs : List V} {d : PyData} {ds : List PyData} : Rv K H v d → RvA K H vs ds → RvA K H (v :: vs) (d :: ds)
end
section
variable {K : PySem.W.Frag} {H H' : Hp} {M : List Addr} {v : V} {d : PyData} {vs : List V} {ds : List PyData}
mutual
theorem rx (e : Evl.Ex H H') : ∀ (d : PyData) (v : V), Rv K H v d → Rv K H' v d
  | .none, _, h => by cases h; exact .non
  | .bool _, _, h => by cases h; exact .bl _
  | .int _, _, h => by cases h; exact .int _
  | .str _, _, h => by cases h; exact .str _
  | .list ds, _, h => by
    cases h with
    | lst h1 h2 => exact .lst (e _ _ h1) (rxs e ds _ h2)
  | .tuple ds, _, h => by
    cases h with
    | tup h1 h2 => exact .tup (e _ _ h1) (rxs e ds _ h2)
  | .dict _, _, h => by
    cases h with
    | emp h1 => exact .emp (e _ _ h1)
theorem rxs (e : Evl.Ex H H') : ∀ (ds : List PyData) (vs : List V), RvA K H vs ds → RvA K H' vs ds
  | [], _, h => by cases h; exact .nil
  | d :: ds, _, h => by
    cases h with
    | cons h1 h2 => exact .cons (rx e d _ h1) (rxs e ds _ h2)
end
mutual
theorem rv_dp : ∀ (d : PyData) (v : V), d.canLay0 = true → Rv K H v d → Dp K H v d
  | .none, _, _, h => by cases h; exact .non
  | .bool _, _, _, h => by cases h; exact .bl _
  | .int _, _, _, h => by cases h; exact .int _
  | .str _, _, _, h => by cases h; exact .str _
  | .list ds, _, c, h => by
    cases h with
    | lst h1 h2 => exact .lst (Evl.sq_of h1) (rvs_dp ds _ (by simpa [PyData.canLay0] using c) h2)
  | .tuple ds, _, c, h => by
    cases h with
    | tup h1 h2 => exact .tup (Evl.st_of h1) (rvs_dp ds _ (by simpa [PyData.canLay0] using c) h2)
  | .dict _, _, c, h => by simp [PyData.canLay0] at c
theorem rvs_dp : ∀ (ds : List PyData) (vs : List V), PyData.canLayAll0 ds = true → RvA K H vs ds → DpAll K H vs ds
  | [], _, _, h => by cases h; exact .nil
  | d :: ds, _, c, h => by
    have h' : d.canLay0 = true ∧ PyData.canLayAll0 ds = true := by simpa [PyData.canLayAll0] using c
    cases h with
    | cons h1 h2 => exact .cons (rv_dp d _ h'.1 h1) (rvs_dp ds _ h'.2 h2)
end
theorem ra_len : ∀ {vs : List V} {ds : List PyData}, RvA K H vs ds → vs.length = ds.length
  | _, _, .nil => rfl
  | _, _, .cons _ t => congrArg (· + 1) (ra_len t)
theorem ra_get : ∀ {vs : List V} {ds : List PyData} {i : Nat} {d : PyData}, RvA K H vs ds → ds[i]? = some d → ∃ v, vs[i]? = some v ∧ Rv K H v d
  | _, _, _, _, .nil, e => by simp at e
  | _, _, 0, _, .cons r _, e => by
    simp at e
    subst e
    exact ⟨_, rfl, r⟩
  | _, _, i + 1, d, .cons _ t, e => by
    obtain ⟨v, h1, h2⟩ := ra_get (i := i) (d := d) t (by simpa using e)
    exact ⟨v, by simpa using h1, h2⟩
theorem ra_get' : ∀ {vs : List V} {ds : List PyData} {i : Nat} {v : V}, RvA K H vs ds → vs[i]? = some v → ∃ d, ds[i]? = some d ∧ Rv K H v d
  | _, _, _, _, .nil, e => by simp at e
  | _, _, 0, _, .cons r _, e => by
    simp at e
    subst e
    exact ⟨_, rfl, r⟩
  | _, _, i + 1, d, .cons _ t, e => by
    obtain ⟨v, h1, h2⟩ := ra_get' (i := i) t (by simpa using e)
    exact ⟨v, by simpa using h1, h2⟩
theorem ra_at {i : Int} (h : RvA K H vs ds) (e : atI ds i = some d) : ∃ v, atI vs i = some v ∧ Rv K H v d := by
  unfold atI at e ⊢
  rw [ra_len h]
  cases q : ixN ds.length i with
  | none => rw [q] at e; cases e
  | some j =>
    rw [q] at e
    exact ra_get h e
theorem ra_app : ∀ {vs us : List V} {ds es : List PyData}, RvA K H vs ds → RvA K H us es → RvA K H (vs ++ us) (ds ++ es)
  | _, _, _, _, .nil, s => s
  | _, _, _, _, .cons r t, s => .cons r (ra_app t s)
theorem ra_take : ∀ {vs : List V} {ds : List PyData} (n : Nat), RvA K H vs ds → RvA K H (vs.take n) (ds.take n)
  | _, _, 0, _ => .nil
  | _, _, _ + 1, .nil => .nil
  | _, _, n + 1, .cons r t => .cons r (ra_take n t)
theorem ra_drop : ∀ {vs : List V} {ds : List PyData} (n : Nat), RvA K H vs ds → RvA K H (vs.drop n) (ds.drop n)
  | _, _, 0, r => r
  | _, _, _ + 1, .nil => .nil
  | _, _, n + 1, .cons _ t => ra_drop n t
theorem ra_set {x : V} (r : Rv K H x d) : ∀ {vs : List V} {ds : List PyData} (i : Nat), RvA K H vs ds → RvA K H (vs.set i x) (ds.set i d)
  | _, _, _, .nil => .nil
  | _, _, 0, .cons _ t => .cons r t
  | _, _, i + 1, .cons q t => .cons q (ra_set r i t)
theorem ra_rep (h : RvA K H vs ds) : ∀ n, RvA K H (List.replicate n vs).flatten (List.replicate n ds).flatten
  | 0 => .nil
  | n + 1 => by
    rw [List.replicate_succ, List.replicate_succ, List.flatten_cons, List.flatten_cons]
    exact ra_app h (ra_rep h n)
theorem rInt {v : V} {i : Int} (h : Rv K H v (.int i)) : v = .int i := by cases h; rfl
theorem rStr {v : V} {x : Str} (h : Rv K H v (.str x)) : v = .str x := by cases h; rfl
theorem rBl {v : V} {x : Bool} (h : Rv K H v (.bool x)) : v = .bl x := by cases h; rfl
theorem rNon {v : V} (h : Rv K H v .none) : v = .non := by cases h; rfl
theorem ra_ints : ∀ {is : List Int} {vs : List V}, RvA K H vs (is.map PyData.int) → vs = is.map V.int
  | [], _, h => by cases h; rfl
  | i :: is, _, h => by
    cases h with
    | cons h1 h2 =>
      obtain rfl := rInt h1
      rw [ra_ints h2]
      rfl
theorem ra_strs : ∀ {is : List Str} {vs : List V}, RvA K H vs (is.map PyData.str) → vs = is.map V.str
  | [], _, h => by cases h; rfl
  | i :: is, _, h => by
    cases h with
    | cons h1 h2 =>
      obtain rfl := rStr h1
      rw [ra_strs h2]
      rfl
theorem ra_bls : ∀ {is : List Bool} {vs : List V}, RvA K H vs (is.map PyData.bool) → vs = is.map V.bl
  | [], _, h => by cases h; rfl
  | i :: is, _, h => by
    cases h with
    | cons h1 h2 =>
      obtain rfl := rBl h1
      rw [ra_bls h2]
      rfl
theorem rv_ints : ∀ is : List Int, RvA K H (is.map V.int) (is.map PyData.int)
  | [] => .nil
  | i :: is => .cons (.int i) (rv_ints is)
theorem rv_strs : ∀ is : List Str, RvA K H (is.map V.str) (is.map PyData.str)
  | [] => .nil
  | i :: is => .cons (.str i) (rv_strs is)
/-- the value of a scalar datum -/
theorem scR {u : V} (e : DD.scV d = some u) : Rv K H u d := by
  cases d <;> first | (cases e; constructor) | cases e
theorem scE {u : V} (h : Rv K H v d) (e : DD.scV d = some u) : v = u := by
  cases h <;> first | (cases e; rfl) | cases e
/-! away from the addresses M -/
theorem re (e : Evl.Ex H H') (h : Rv K (mi H M) v d) : Rv K (mi H' M) v d := rx (ex_mi e) d v h
theorem res (e : Evl.Ex H H') (h : RvA K (mi H M) vs ds) : RvA K (mi H' M) vs ds := rxs (ex_mi e) ds vs h
theorem rm (e : ExM M H H') (h : Rv K (mi H M) v d) : Rv K (mi H' M) v d := rx (exM_mi e) d v h
theorem rms (e : ExM M H H') (h : RvA K (mi H M) vs ds) : RvA K (mi H' M) vs ds := rxs (exM_mi e) ds vs h
theorem radd {p : Addr} (n : H p = none) (h : Rv K (mi H M) v d) : Rv K (mi H (p :: M)) v d := rx (ex_add n) d v h
theorem radds {p : Addr} (n : H p = none) (h : RvA K (mi H M) vs ds) : RvA K (mi H (p :: M)) vs ds := rxs (ex_add n) ds vs h
theorem rless {M' : List Addr} (s : ∀ m, m ∈ M' → m ∈ M) (h : Rv K (mi H M) v d) : Rv K (mi H M') v d := rx (ex_less s) d v h
theorem rlesss {M' : List Addr} (s : ∀ m, m ∈ M' → m ∈ M) (h : RvA K (mi H M) vs ds) : RvA K (mi H M') vs ds := rxs (ex_less s) ds vs h
theorem rfull (h : Rv K (mi H M) v d) : Rv K H v d := rx (ex_full H M) d v h
theorem rfulls (h : RvA K (mi H M) vs ds) : RvA K H vs ds := rxs (ex_full H M) ds vs h
/-- isinstance -/
theorem tyx_rv (h : Rv K H v d) : TyX K H v (.type (tyN d)) := by
  cases h with
  | non => exact .base .non
  | bl b => exact .base (.bl b)
  | int i => exact .base (.int i)
  | str x => exact .base (.str x)
  | lst h _ => exact .base (.lst h)
  | tup h _ => exact .base (.tup h)
  | emp h => exact .base (.dK h)
def isStr : PyData → Bool
  | .str _ => true
  | _ => false
theorem kit_str (d : PyData) : kitB (tyN d) "str" = some (isStr d) := by cases d <;> (simp only [tyN, isStr]; decide +kernel)
end
end PY

set_option Elab.async false
set_option linter.all false
set_option maxRecDepth 100000
set_option maxHeartbeats 2000000
/-! Contexts of one kind, and what may be asked of a piece of syntax in all of them. -/
namespace PY
open PySem PySem.Spec PyProof.Rows L2 DK DD
/-- what a name stands for -/
inductive Nm where
  | slot (i : Nat) | glob | bad
def ixOf (x : Str) : List Str → Option Nat
  | [] => none
  | y :: l => if y = x then some 0 else (ixOf x l).map (· + 1)
theorem ixOf_get {x : Str} : ∀ {l : List Str} {i : Nat}, ixOf x l = some i → l[i]? = some x
  | [], _, h => by cases h
  | y :: l, i, h => by
    unfold ixOf at h
    split at h
    · rename_i e
      cases h
      simp [e]
    · cases q : ixOf x l with
      | none => rw [q] at h; cases h
      | some j =>
        rw [q] at h
        cases h
        simpa using ixOf_get q
def dbg (x : Str) : Bool := x == "__debug__" || x == "__classdict__"
def nmOf (N : List Str) (sc : Scope) (x : Str) : Nm :=
  if dbg x then .bad else match sc.names.lookup x with
  | some .globalImplicit => .glob
  | some .globalExplicit => .bad
  | none => .bad
  | some _ => match ixOf x N with
    | some i => .slot i
    | none => .bad
/-- the context of a def's body, or of a comprehension's block within it -/
structure Good (P : Program) (w : World) (K : PySem.W.Frag) (mg : Str → Option Value) (base : Heap) (k : Nat) (N : List Str) (sc : Scope) (W : WX) (X : Cx) : Prop where
  eP : X.prog = P
  ew : X.w = w
  eK : X.K = K
  em : X.mg = mg
  eb : X.base = base
  eN : X.N = N
  nd : N.Nodup
  calm : X.calm = true
  room : Room k X.A
  kd : ∀ x v, sc.names.lookup x = some v → X.env.scope.names.lookup x = some v ∨ (v = .free ∧ X.env.scope.names.lookup x = some .cell)
  tk : Takes X W
  fnl : ∀ x, sc.names.lookup x = some .cell → X.fn x = true
  kf : X.env.scope.kind = .function
section
variable {P : Program} {w : World} {K : PySem.W.Frag} {mg : Str → Option Value} {base : Heap} {k : Nat} {N : List Str} {sc : Scope} {W : WX} {X : Cx}
theorem nm_slot {x : Str} {i : Nat} (h : nmOf N sc x = .slot i) : N[i]? = some x ∧ (sc.names.lookup x = some .local ∨ sc.names.lookup x = some .cell ∨ sc.names.lookup x = some .free) ∧ (x == ("__debug__" : Str)) = false ∧ (x == ("__classdict__" : Str)) = false := by
  unfold nmOf at h
  split at h
  · cases h
  · rename_i hd
    unfold dbg at hd
    simp only [Bool.or_eq_true, not_or, Bool.not_eq_true] at hd
    have key : ∀ v, sc.names.lookup x = some v → (match ixOf x N with | some i => Nm.slot i | none => Nm.bad) = .slot i → N[i]? = some x := fun v _ h => by
      split at h
      · rename_i j hj
        cases h
        exact ixOf_get hj
      · cases h
    split at h
    · cases h
    · cases h
    · cases h
    · rename_i v h1 h2 hv
      refine ⟨key v hv h, ?_, hd⟩
      cases v with
      | «local» => exact .inl hv
      | cell => exact .inr (.inl hv)
      | free => exact .inr (.inr hv)
      | globalExplicit => exact absurd rfl h2
      | globalImplicit => exact absurd rfl h1
theorem nm_glob {x : Str} (h : nmOf N sc x = .glob) : sc.names.lookup x = some .globalImplicit ∧ (x == ("__debug__" : Str)) = false := by
  unfold nmOf at h
  split at h
  · cases h
  · rename_i hd
    unfold dbg at hd
    simp only [Bool.or_eq_true, not_or, Bool.not_eq_true] at hd
    split at h
    · exact ⟨by assumption, hd.1⟩
    · cases h
    · cases h
    · split at h <;> cases h
theorem Good.vis (g : Good P w K mg base k N sc W X) {x : Str} (h : sc.names.lookup x = some .local ∨ sc.names.lookup x = some .cell ∨ sc.names.lookup x = some .free) : Vis X.env.scope x := by
  rcases h with h | h | h
  · rcases g.kd x _ h with q | ⟨q, _⟩
    · exact .inl q
    · cases q
  · rcases g.kd x _ h with q | ⟨q, _⟩
    · exact .inr (.inl q)
    · cases q
  · rcases g.kd x _ h with q | ⟨_, q⟩
    · exact .inr (.inr q)
    · exact .inr (.inl q)
theorem Good.loc (g : Good P w K mg base k N sc W X) {x : Str} (h : sc.names.lookup x = some .local ∨ sc.names.lookup x = some .cell) : Loc X.env.scope x := by
  rcases h with h | h
  · rcases g.kd x _ h with q | ⟨q, _⟩
    · exact .inl q
    · cases q
  · rcases g.kd x _ h with q | ⟨q, _⟩
    · exact .inr q
    · cases q
theorem Good.hf (g : Good P w K mg base k N sc W X) {x : Str} (h : sc.names.lookup x = some .local ∨ sc.names.lookup x = some .cell) : X.fn x = true ∨ X.env.scope.names.lookup x = some .local := by
  rcases h with h | h
  · rcases g.kd x _ h with q | ⟨q, _⟩
    · exact .inr q
    · cases q
  · exact .inl (g.fnl x h)
theorem Good.gl (g : Good P w K mg base k N sc W X) {x : Str} (h : sc.names.lookup x = some .globalImplicit) : Gl X x := by
  rcases g.kd x _ h with q | ⟨q, _⟩
  · exact q
  · cases q
theorem lookup_map {g : Str → NameKind → NameKind} {x : Str} : ∀ {names : List (Str × NameKind)}, (names.map fun p => (p.1, g p.1 p.2)).lookup x = (names.lookup x).map (g x)
  | [] => rfl
  | (n, k) :: r => by
    rw [List.map_cons, List.lookup_cons, List.lookup_cons]
    by_cases hx : (x == n) = true
    · have e : x = n := by simpa using hx
      subst e
      simp
    · have hx' : (x == n) = false := by simpa using hx
      rw [hx']
      exact lookup_map
theorem lookup_relabel {env : Env} {names : List (Str × NameKind)} {x : Str} {v : NameKind} (h : names.lookup x = some v) :
    (names.map fun (n, k) => if (k == NameKind.free && env.scope.kind == .function && env.kindOf n == some .cell) then (n, NameKind.cell) else (n, k)).lookup x = some v ∨
    (v = .free ∧ (names.map fun (n, k) => if (k == NameKind.free && env.scope.kind == .function && env.kindOf n == some .cell) then (n, NameKind.cell) else (n, k)).lookup x = some .cell) := by
  have e : (fun (p : Str × NameKind) => match p with | (n, k) => if (k == NameKind.free && env.scope.kind == .function && env.kindOf n == some .cell) then (n, NameKind.cell) else (n, k)) =
      fun p => (p.1, (fun (n : Str) (k : NameKind) => if (k == NameKind.free && env.scope.kind == .function && env.kindOf n == some .cell) then NameKind.cell else k) p.1 p.2) := by
    funext p
    obtain ⟨n, k⟩ := p
    dsimp only
    split <;> rfl
  rw [e, lookup_map (g := fun (n : Str) (k : NameKind) => if (k == NameKind.free && env.scope.kind == .function && env.kindOf n == some .cell) then NameKind.cell else k), h, Option.map_some]
  split
  · rename_i hc
    simp only [Bool.and_eq_true, beq_iff_eq] at hc
    exact .inr ⟨hc.1.1, rfl⟩
  · exact .inl rfl
theorem Good.blk (g : Good P w K mg base k N sc W X) {sc' : Scope} (hk : sc'.kind = .function) {s : Shared} {H : Hp} {cl : List (Str × Addr)} {C : Addr} {fp : List Addr} : Good P w K mg base k N sc' (fun _ _ _ _ => False) (X.blk s H sc' (compEnvC sc' cl C X.env) fp) where
  eP := g.eP
  ew := g.ew
  eK := g.eK
  em := g.em
  eb := g.eb
  eN := g.eN
  nd := g.nd
  calm := g.calm
  room := g.room
  kd := fun x v h => lookup_relabel h
  tk := takes0
  fnl := fun x h => by
    show (sc'.names.lookup x == some .cell) = true
    rw [h] <;> rfl
  kf := hk
/-! ### the best readings -/
def tB (P : Program) (w : World) (K : PySem.W.Frag) (mg : Str → Option Value) (base : Heap) (k : Nat) (N : List Str) (sc : Scope) (W : WX) (e : Expr) : TE := fun σ H Q => ∃ t : TE, (∀ X, Good P w K mg base k N sc W X → PE X e t) ∧ t σ H Q
def tBT (P : Program) (w : World) (K : PySem.W.Frag) (mg : Str → Option Value) (base : Heap) (k : Nat) (N : List Str) (sc : Scope) (W : WX) (e : Expr) : TT := fun σ H Q => ∃ t : TT, (∀ X, Good P w K mg base k N sc W X → PT X e t) ∧ t σ H Q
def tBW (P : Program) (w : World) (K : PySem.W.Frag) (mg : Str → Option Value) (base : Heap) (k : Nat) (N : List Str) (sc : Scope) (W : WX) (e : Expr) : TT := fun σ H Q => ∃ t : TT, (∀ X, Good P w K mg base k N sc W X → PW X e t) ∧ t σ H Q
def tBA (P : Program) (w : World) (K : PySem.W.Frag) (mg : Str → Option Value) (base : Heap) (k : Nat) (N : List Str) (sc : Scope) (W : WX) (es : List Expr) : TA := fun σ H Q => ∃ t : TA, (∀ X, Good P w K mg base k N sc W X → PA X es t) ∧ t σ H Q
theorem be (g : Good P w K mg base k N sc W X) (e : Expr) : PE X e (tB P w K mg base k N sc W e) := ⟨fun pins s σ H Q I ⟨t, ht, q⟩ => (ht X g).run pins s σ H Q I q⟩
theorem bt (g : Good P w K mg base k N sc W X) (e : Expr) : PT X e (tBT P w K mg base k N sc W e) := ⟨fun pins s σ H Q I ⟨t, ht, q⟩ => (ht X g).run pins s σ H Q I q⟩
theorem bw (g : Good P w K mg base k N sc W X) (e : Expr) : PW X e (tBW P w K mg base k N sc W e) := ⟨fun wh pins s σ H Q I ⟨t, ht, q⟩ => (ht X g).run wh pins s σ H Q I q⟩
theorem ba (g : Good P w K mg base k N sc W X) (es : List Expr) : PA X es (tBA P w K mg base k N sc W es) := ⟨fun pos pins s σ H Q I ⟨t, ht, q⟩ => (ht X g).run pos pins s σ H Q I q⟩
/-- an expression without a star ahead -/
def noStar : Expr → Bool
  | .Starred _ _ => false
  | _ => true
theorem star1 {e : Expr} {es : List Expr} {env : Env} (h : noStar e = true) : starEach (e :: es) env = (false, eval e env) :: starEach es env := by
  cases e <;> first | rfl | cases h
theorem star_all {env : Env} {pos : Pos} : ∀ {es : List Expr}, es.all noStar = true → (backTo pos (starEach es env)).any (·.1) = false
  | [], _ => rfl
  | e :: es, h => by
    rw [List.all_cons, Bool.and_eq_true] at h
    rw [star1 h.1]
    have := star_all (env := env) (pos := pos) h.2
    simp only [backTo, List.map_cons, List.any_cons, Bool.false_or]
    exact this
/-- an index that is no slice -/
def plainI : Expr → Bool
  | .Name _ _ => true
  | .Constant _ _ _ => true
  | .UnaryOp _ _ _ => true
  | .BinOp _ _ _ _ => true
  | .Call _ _ _ _ => true
  | .Subscript _ _ _ => true
  | _ => false
theorem plain_ix {b : Expr} (h : plainI b = true) : PlainIx b := by
  cases b <;> first | exact fun _ _ => rfl | cases h
/-- a test that is asked by its value -/
def valT : Expr → Bool
  | .Name _ _ => true
  | .Constant _ _ _ => true
  | .BinOp _ _ _ _ => true
  | .Call _ _ _ _ => true
  | .Subscript _ _ _ => true
  | _ => false
theorem val_is {e : Expr} {env : Env} (h : valT e = true) : ∀ whole, isTrue e env whole = (do let v ← whole; standAt e.pos; holding [v] (truthy v)) := by
  cases e <;> first | exact fun _ => rfl | cases h
end
end PY

set_option Elab.async false
set_option linter.all false
set_option maxRecDepth 100000
set_option maxHeartbeats 2000000
/-! A reckoning of the text over data alone. -/
namespace PY
open PySem PySem.Spec PyProof.Rows L2 DK DD
/-- an answer; an error of the c-th class; or nothing is said -/
inductive Rs (α : Type) where
  | ok (a : α) | er (c : Nat) | no
  deriving DecidableEq
def Rs.bind {α β : Type} : Rs α → (α → Rs β) → Rs β
  | .ok a, f => f a
  | .er c, _ => .er c
  | .no, _ => .no
@[simp] theorem bind_ok {α β : Type} (a : α) (f : α → Rs β) : (Rs.ok a).bind f = f a := rfl
@[simp] theorem bind_er {α β : Type} (c : Nat) (f : α → Rs β) : (Rs.er c : Rs α).bind f = .er c := rfl
@[simp] theorem bind_no {α β : Type} (f : α → Rs β) : (Rs.no : Rs α).bind f = .no := rfl
abbrev En := List (Option PyData)
abbrev Phi := Str → List PyData → Rs PyData
/-- what is known of a def and its module -/
structure Cn where
  N : List Str
  own : List Str
  cst : Str → Option PyData
  cls : Str → Option Nat
  phi : Phi
  isF : Str → Bool
  /-- a slot that holds one value while no datum is told of it -/
  fx : Option (Nat × V) := none
def Cn.isOwn (c : Cn) (x : Str) : Bool := c.own.any fun y => decide (y = x)
def evAll (f : Expr → Rs PyData) : List Expr → Rs (List PyData)
  | [] => .ok []
  | .Starred e _ :: es => (f e).bind fun d => match d with
    | .list xs => (evAll f es).bind fun ds => .ok (xs ++ ds)
    | .tuple xs => (evAll f es).bind fun ds => .ok (xs ++ ds)
    | _ => .no
  | e :: es => (f e).bind fun d => (evAll f es).bind fun ds => .ok (d :: ds)
def isScal : PyData → Bool
  | .none => true
  | .bool _ => true
  | .int _ => true
  | .str _ => true
  | _ => false
/-! operators -/
def bop (op : Operator) (a b : PyData) : Rs PyData := match op, a, b with
  | .Add, .int i, .int j => .ok (.int (i + j))
  | .Sub, .int i, .int j => .ok (.int (i - j))
  | .Mult, .int i, .int j => if (-(2 ^ 64) < i ∧ i < 2 ^ 64) ∨ (-(2 ^ 64) < j ∧ j < 2 ^ 64) then .ok (.int (i * j)) else if i.natAbs.log2 + j.natAbs.log2 < 1000000 then .ok (.int (i * j)) else .no
  | .Pow, .int i, .int j => if 0 ≤ j ∧ (Builtin.Int.intBits i : Int) * j ≤ 2 ^ 27 then .ok (.int (i ^ j.toNat)) else .no
  | .FloorDiv, .int i, .int j => if 0 < j ∧ j < 1073741824 then .ok (.int (i / j)) else .no
  | .Mod, .int i, .int j => if 0 < j then .ok (.int (i % j)) else .no
  | .Add, .str i, .str j => if i.length + j.length ≤ 100000 then .ok (.str (i ++ j)) else .no
  | .Add, .tuple i, .tuple j => if i.length + j.length ≤ 100000 then .ok (.tuple (i ++ j)) else .no
  | .Mult, .tuple i, .int n => if 2 ≤ n ∧ n ≤ 1000 ∧ i.length ≤ 1000 ∧ i ≠ [] then .ok (.tuple (List.replicate n.toNat i).flatten) else .no
  | _, _, _ => .no
/-- operators that make a new list -/
def lop (op : Operator) (a b : PyData) : Rs (List PyData) := match op, a, b with
  | .Add, .list i, .list j => if i.length + j.length ≤ 100000 then .ok (i ++ j) else .no
  | .Mult, .list i, .int k => if -(2 ^ 63) ≤ k ∧ k < 2 ^ 63 ∧ i.length * k.toNat ≤ 100000 then .ok (List.replicate k.toNat i).flatten else .no
  | _, _, _ => .no
/-- a dict beside a text, lists of unlike lengths -/
def eqX (a b : PyData) : Rs Bool := match a, b with
  | .dict _, .str _ => .ok false
  | .list xs, .list ys => if xs.length = ys.length then .no else .ok false
  | .tuple (_ :: _), .tuple [] => .ok false
  | _, _ => .no
def inX (a : PyData) (ds : List PyData) : Rs Bool := match a with
  | .dict _ => if ds.all isStr then .ok false else .no
  | _ => .no
def eqD (a b : PyData) : Rs Bool := match a, b with
  | .int i, .int j => .ok (decide (i = j))
  | .str i, .str j => .ok (decide (i = j))
  | .bool i, .bool j => .ok (decide (i = j))
  | .none, .none => .ok true
  | _, _ => if a.canLay0 = true ∧ b.canLay0 = true ∧ min a.depth b.depth ≤ 64 then .ok (PyData.eqv a b) else eqX a b
def cmp (op : CmpOp) (a b : PyData) : Rs Bool := match op with
  | .Eq => eqD a b
  | .NotEq => (eqD a b).bind fun x => .ok !x
  | .Lt => match a, b with | .int i, .int j => .ok (decide (i < j)) | _, _ => .no
  | .LtE => match a, b with | .int i, .int j => .ok (decide (i ≤ j)) | _, _ => .no
  | .Gt => match a, b with | .int i, .int j => .ok (decide (j < i)) | _, _ => .no
  | .GtE => match a, b with | .int i, .int j => .ok (decide (j ≤ i)) | _, _ => .no
  | .Is => match b with | .none => .ok (match a with | .none => true | _ => false) | _ => .no
  | .IsNot => match b with | .none => .ok (match a with | .none => false | _ => true) | _ => .no
  | .In => match b with | .list ds => if SeqAt.shaped a = true ∧ SeqAt.shaped b = true then .ok (ds.any fun z => PyData.eqv z a) else inX a ds | _ => .no
  | .NotIn => match b with | .list ds => if SeqAt.shaped a = true ∧ SeqAt.shaped b = true then .ok (!ds.any fun z => PyData.eqv z a) else (inX a ds).bind fun x => .ok !x | _ => .no
def ix (a b : PyData) : Rs PyData := match a, b with
  | .list ds, .int i => match atI ds i with | some d => .ok d | none => .no
  | .tuple ds, .int i => match atI ds i with | some d => .ok d | none => .no
  | .str z, .int i => if z.length ≤ 100000 then match atI z.cps.toList i with | some c => .ok (.str ⟨#[c]⟩) | none => .no else .no
  | _, _ => .no
def cutD (xs : List PyData) (lo hi : Option Int) : List PyData := (xs.drop (HT.sIx xs.length 0 lo)).take (HT.sIx xs.length xs.length hi - HT.sIx xs.length 0 lo)
/-- slices that are no new lists -/
def slc (a : PyData) (lo hi : Option Int) : Rs PyData := match a with
  | .tuple ds => .ok (.tuple (cutD ds lo hi))
  | .str z => if z.length ≤ 100000 then .ok (.str (cutS z lo hi)) else .no
  | _ => .no
/-- truth -/
def tru : PyData → Rs Bool
  | .bool b => .ok b
  | .list ds => .ok !ds.isEmpty
  | .tuple ds => .ok !ds.isEmpty
  | _ => .no
def isi (T : Str) (d : PyData) : Rs Bool :=
  if T = "int" then .ok (isI d || isB d) else if T = "bool" then .ok (isB d) else if T = "list" then .ok (TM.isLst d) else if T = "tuple" then .ok (isTup d) else if T = "str" then .ok (isStr d) else .no
def asInts : List PyData → Option (List Int)
  | [] => some []
  | .int i :: ds => (asInts ds).map (i :: ·)
  | _ :: _ => none
def asBools : List PyData → Option (List Bool)
  | [] => some []
  | .bool i :: ds => (asBools ds).map (i :: ·)
  | _ :: _ => none
def asStrs : List PyData → Option (List Str)
  | [] => some []
  | .str i :: ds => (asStrs ds).map (i :: ·)
  | _ :: _ => none
/-- ascending, by insertion -/
def insI (x : Int) : List Int → List Int
  | [] => [x]
  | y :: l => if x ≤ y then x :: y :: l else y :: insI x l
def srtI : List Int → List Int
  | [] => []
  | x :: l => insI x (srtI l)
def dedI : List Int → List Int
  | [] => []
  | x :: l => if (dedI l).any (fun y => decide (y = x)) then dedI l else x :: dedI l
def maxI : List Int → Int
  | [] => 0
  | [x] => x
  | x :: l => max x (maxI l)
def minI : List Int → Int
  | [] => 0
  | [x] => x
  | x :: l => min x (minI l)
def bnames : List Str := ["len", "abs", "all", "any", "max", "min"]
def tnames : List Str := ["str", "int", "tuple"]
/-- calls of built-ins by data, that make no new list -/
def bfn (f : Str) (ds : List PyData) : Rs PyData :=
  if f = "len" then match ds with
    | [.list xs] => .ok (.int xs.length)
    | [.tuple xs] => .ok (.int xs.length)
    | [.str z] => if z.length ≤ 100000 then .ok (.int z.length) else .no
    | _ => .no
  else if f = "abs" then match ds with
    | [.int i] => .ok (.int (if i < 0 then -i else i))
    | _ => .no
  else if f = "all" then match ds with
    | [.list xs] => match asBools xs with | some bs => .ok (.bool (bs.all id)) | none => .no
    | _ => .no
  else if f = "any" then match ds with
    | [.list xs] => match asBools xs with | some bs => .ok (.bool (bs.any id)) | none => .no
    | _ => .no
  else if f = "max" then match ds with
    | [.list xs] => match asInts xs with | some (i :: is) => .ok (.int (maxI (i :: is))) | _ => .no
    | _ => .no
  else if f = "min" then match ds with
    | [.list xs] => match asInts xs with | some (i :: is) => .ok (.int (minI (i :: is))) | _ => .no
    | _ => .no
  else if f = "str" then match ds with
    | [.int i] => if i.natAbs.log2 < 1920 then .ok (.str (toString i : String)) else .no
    | _ => .no
  else if f = "int" then match ds with
    | [.int i] => .ok (.int i)
    | [.bool b] => .ok (.int (if b then 1 else 0))
    | _ => .no
  else if f = "tuple" then match ds with
    | [.list xs] => .ok (.tuple xs)
    | [.tuple xs] => .ok (.tuple xs)
    | _ => .no
  else .no
/-- those that make a new list -/
def bls (f : Str) (ds : List PyData) : Rs (List PyData) :=
  if f = "list" then match ds with
    | [.list xs] => .ok xs
    | [.tuple xs] => .ok xs
    | _ => .no
  else if f = "sorted" then match ds with
    | [.list xs] => match asInts xs with | some is => .ok ((srtI is).map PyData.int) | none => .no
    | _ => .no
  else .no
/-- a built-in's name, its value -/
def bval (f : Str) : Option Value :=
  if f = "len" then some (.builtin "len") else if f = "abs" then some (.builtin "abs") else if f = "all" then some (.builtin "all") else if f = "any" then some (.builtin "any") else
  if f = "max" then some (.builtin "max") else if f = "min" then some (.builtin "min") else if f = "sorted" then some (.builtin "sorted") else
  if f = "str" then some (.type "str") else if f = "int" then some (.type "int") else if f = "tuple" then some (.type "tuple") else if f = "list" then some (.type "list") else none
def tyval (T : Str) : Option String := if T = "int" then some "int" else if T = "bool" then some "bool" else if T = "list" then some "list" else if T = "tuple" then some "tuple" else if T = "str" then some "str" else none
/-! targets -/
def setE (i : Nat) (d : PyData) (ρ : En) : En := ρ.set i (some d)
mutual
/- a datum to a target of names and tuples -/
def tgt (c : Cn) (sc : Scope) : Nat → Expr → PyData → En → Option En
  | 0, _, _, _ => none
  | n + 1, e, d, ρ => match e with
    | .Name x _ => match nmOf c.N sc x with
      | .slot i => if c.isOwn x then none else match sc.names.lookup x with
        | some .free => none
        | _ => some (setE i d ρ)
      | _ => none
    | .Tuple es _ _ => match d with
      | .tuple ds => tgts c sc n es ds ρ
      | .list ds => tgts c sc n es ds ρ
      | _ => none
    | _ => none
def tgts (c : Cn) (sc : Scope) : Nat → List Expr → List PyData → En → Option En
  | 0, _, _, _ => none
  | _ + 1, [], [], ρ => some ρ
  | n + 1, e :: es, d :: ds, ρ => (tgt c sc n e d ρ).bind fun ρ' => tgts c sc n es ds ρ'
  | _ + 1, _, _, _ => none
end
/- the slots of a target are among these -/
mutual
def tgtIn (N : List Str) (ws : List Nat) : Nat → Expr → Bool
  | 0, _ => false
  | n + 1, e => match e with
    | .Name x _ => match ixOf x N with | some i => ws.contains i | none => false
    | .Tuple es _ _ => tgtsIn N ws n es
    | _ => false
def tgtsIn (N : List Str) (ws : List Nat) : Nat → List Expr → Bool
  | 0, _ => false
  | _ + 1, [] => true
  | n + 1, e :: es => tgtIn N ws n e && tgtsIn N ws n es
end
/-- a target's slots -/
def tgtSl (N : List Str) : Nat → Expr → List Nat
  | 0, _ => []
  | n + 1, e => match e with
    | .Name x _ => match ixOf x N with | some i => [i] | none => []
    | .Tuple es _ _ => es.flatMap (tgtSl N n)
    | _ => []
def wipeE (ρ : En) : List Nat → En
  | [] => ρ
  | v :: vs => (wipeE ρ vs).set v none
/-- a block's own names with their places -/
def ownOf (N : List Str) (sc : Scope) : List (Str × Nat) := sc.names.filterMap fun y => match y.2 with
  | .local => (ixOf y.1 N).map fun i => (y.1, i)
  | .cell => (ixOf y.1 N).map fun i => (y.1, i)
  | _ => none
def conso (o : Option PyData) (r : List PyData) : List PyData := match o with
  | some y => y :: r
  | none => r
/-- turn by turn over data -/
def noEr {α : Type} : Rs α → Rs α
  | .er _ => .no
  | r => r
def mapD (f : PyData → Rs (Option PyData)) : List PyData → Rs (List PyData)
  | [] => .ok []
  | d :: ds => (f d).bind fun o => (mapD f ds).bind fun r => .ok (conso o r)
/-- a turn of a comprehension -/
def turnD (g : PyData → Option En) (ifs : List Expr) (ft : Expr → En → Rs Bool) (fe : En → Rs PyData) (d : PyData) : Rs (Option PyData) := match g d with
  | none => .no
  | some ρ' => match ifs with
    | [] => (noEr (fe ρ')).bind fun y => .ok (some y)
    | [t] => (noEr (ft t ρ')).bind fun b => if b then (noEr (fe ρ')).bind fun y => .ok (some y) else .ok none
    | _ => .no
/-- of each datum a list, one behind the other -/
def catD (f : PyData → Rs (List PyData)) : List PyData → Rs (List PyData)
  | [] => .ok []
  | d :: ds => (f d).bind fun xs => (catD f ds).bind fun r => .ok (xs ++ r)
def rngD (n : Nat) : List PyData := (List.range n).map fun i => PyData.int (i : Nat)
def rngF (lo : Int) (n : Nat) : List PyData := (List.range n).map fun i => PyData.int (lo + (i : Nat))
def pairsD (xs ys : List PyData) : List PyData := (xs.zip ys).map fun p => PyData.tuple [p.1, p.2]
/-- the items of a list or a tuple -/
def rowOf : PyData → Option (List PyData)
  | .list xs => some xs
  | .tuple xs => some xs
  | _ => none
def rowsOf : List PyData → Option (List (List PyData))
  | [] => some []
  | d :: ds => match rowOf d, rowsOf ds with
    | some x, some r => some (x :: r)
    | _, _ => none
def colsD (rws : List (List PyData)) (m : Nat) : List PyData := (List.range m).map fun i => PyData.tuple (rws.map fun x => x.getD i .none)
/-- zip of rows of one length -/
def zipD (ds : List PyData) : Rs (List PyData) := match rowsOf ds with
  | some (r :: rs) => if ds.length ≤ 1000 ∧ (rs.all fun x => decide (x.length = r.length)) = true then .ok (colsD (r :: rs) r.length) else .no
  | _ => .no
/-- a target that is a name or a tuple -/
def nmT : Expr → Bool
  | .Name _ _ => true
  | .Tuple _ _ _ => true
  | _ => false
/-- what is walked, by data -/
def iterD (d : PyData) : Rs (List PyData) := match d with
  | .list ds => .ok ds
  | .tuple ds => .ok ds
  | .str z => .ok (z.cps.toList.map fun c => PyData.str ⟨#[c]⟩)
  | _ => .no
def noSet : Expr → Bool
  | .Set _ _ _ => false
  | _ => true
def isTupE : Expr → Bool
  | .Tuple _ _ _ => true
  | _ => false
/-- a tuple that is no constant: the stores go the other way -/
def parNo : Expr → Bool
  | .Tuple vs _ _ => !vs.all (foldedForSure 8)
  | _ => false
/-- what is walked: f reckons, isB tells that a name is a built-in's -/
def evIter (f : Expr → Rs PyData) (isB : Str → Bool) (tg : Expr) (e : Expr) : Rs (List PyData) := match e with
  | .Call (.Name g _) [.Starred a _] [] _ =>
    if g = "zip" ∧ isB g ∧ nmT tg then (f a).bind fun d => match d with | .list ds => zipD ds | _ => .no
    else .no
  | .Call (.Name g _) [a] [] _ =>
    if g = "range" ∧ isB g ∧ noStar a then (f a).bind fun d => match d with | .int j => if -(2 ^ 62) ≤ j ∧ j < 2 ^ 62 then .ok (rngD j.toNat) else .no | _ => .no
    else if g = "enumerate" ∧ isB g ∧ noStar a ∧ isTupE tg then (f a).bind fun d => match d with | .list ds => .ok (pairsD (rngD ds.length) ds) | _ => .no
    else (f e).bind iterD
  | .Call (.Name g _) [a, b] [] _ =>
    if g = "range" ∧ isB g ∧ noStar a ∧ noStar b then (f a).bind fun d => (f b).bind fun d' => match d, d' with | .int i, .int j => if -(2 ^ 62) ≤ i ∧ i < 2 ^ 62 ∧ -(2 ^ 62) ≤ j ∧ j < 2 ^ 62 then .ok (rngF i (j - i).toNat) else .no | _, _ => .no
    else if g = "zip" ∧ isB g ∧ noStar a ∧ noStar b ∧ isTupE tg then (f a).bind fun d => (f b).bind fun d' => match d, d' with | .list xs, .list ys => .ok (pairsD xs ys) | _, _ => zipD [d, d']
    else (f e).bind iterD
  | _ => (f e).bind iterD
def optI (f : Expr → Rs PyData) : Option Expr → Rs (Option Int)
  | none => .ok none
  | some e => (f e).bind fun d => match d with | .int i => .ok (some i) | _ => .no
/-! expressions -/
def bltn (c : Cn) (sc : Scope) (x : Str) : Bool := match nmOf c.N sc x with
  | .glob => (c.cst x).isNone && (c.cls x).isNone
  | _ => false
def cmpF : List CmpOp → List Expr → Bool
  | [_], [b] => noSet b
  | [_, _], [_, e] => noSet e
  | _, _ => false
def cmps (f : Expr → Rs PyData) (a : PyData) : List CmpOp → List Expr → Rs Bool
  | [op], [b] => (f b).bind fun y => cmp op a y
  | [op, op'], [b, e] => (f b).bind fun y => (cmp op a y).bind fun t => if t then (f e).bind fun z => cmp op' y z else .ok false
  | _, _ => .no
def andD (f : Expr → Rs PyData) : List Expr → Rs PyData
  | [] => .no
  | [e] => f e
  | e :: es => (f e).bind fun d => match d with | .bool true => andD f es | .bool false => .ok (.bool false) | _ => .no
def orD (f : Expr → Rs PyData) : List Expr → Rs PyData
  | [] => .no
  | [e] => f e
  | e :: es => (f e).bind fun d => match d with | .bool false => orD f es | .bool true => .ok (.bool true) | _ => .no
def andT (f : Expr → Rs Bool) : List Expr → Rs Bool
  | [] => .no
  | [e] => f e
  | e :: es => (f e).bind fun b => if b then andT f es else .ok false
def orT (f : Expr → Rs Bool) : List Expr → Rs Bool
  | [] => .no
  | [e] => f e
  | e :: es => (f e).bind fun b => if b then .ok true else orT f es
/-- sorted(set(x)) -/
def setArg (f : Str) (a : Expr) (rest : List Expr) : Option (Str × Expr) := if f = "sorted" then match a, rest with
    | .Call (.Name g _) [x] [] _, [] => if g = "set" then some (g, x) else none
    | _, _ => none
  else none
/-- the pieces of an f-string, behind acc -/
def evJs (f : Expr → Rs PyData) : List Expr → Str → Rs Str
  | [], acc => .ok acc
  | e :: es, acc => (f e).bind fun d => match d with
    | .str y => if (acc ++ y).length ≤ 100000 then evJs f es (acc ++ y) else .no
    | _ => .no
def plainO : Expr → Bool
  | .Constant _ _ _ => true
  | .Name _ _ => true
  | _ => false
mutual
/-- w: own lists may be read -/
def evE (c : Cn) : Nat → Scope → Bool → Expr → En → Rs PyData
  | 0, _, _, _, _ => .no
  | n + 1, sc, w, e, ρ => match e with
    | .Constant k _ _ => match k with
      | .none => .ok .none
      | .bool b => .ok (.bool b)
      | .int i => .ok (.int i)
      | .str s => .ok (.str s)
      | _ => .no
    | .Name x _ => match nmOf c.N sc x with
      | .slot i => if c.isOwn x && !w then .no else match ρ[i]? with
        | some (some d) => .ok d
        | _ => .no
      | .glob => match c.cst x with
        | some d => if isScal d then .ok d else .no
        | none => .no
      | .bad => .no
    | .Dict ks vs _ => match ks, vs with
      | [], [] => .ok (.dict [])
      | _, _ => .no
    | .Tuple es _ _ => (evAll (fun e => evE c n sc w e ρ) es).bind fun ds => if ds.length ≤ 1000 then .ok (.tuple ds) else .no
    | .BinOp a op b _ => (evE c n sc w a ρ).bind fun x => (evE c n sc w b ρ).bind fun y => match lop op x y with
      | .ok ds => .ok (.list ds)
      | _ => bop op x y
    | .UnaryOp .USub a _ => (evE c n sc w a ρ).bind fun x => match x with | .int i => .ok (.int (-i)) | _ => .no
    | .UnaryOp .Not a _ => (evE c n sc true a ρ).bind fun x => match x with | .bool b => .ok (.bool !b) | _ => .no
    | .BoolOp .And es _ => andD (fun e => evE c n sc w e ρ) es
    | .BoolOp .Or es _ => orD (fun e => evE c n sc w e ρ) es
    | .Compare a ops bs _ => if cmpF ops bs then ((evE c n sc true a ρ).bind fun x => cmps (fun e => evE c n sc true e ρ) x ops bs).bind fun b => .ok (.bool b) else .no
    | .IfExp t a b _ => (evT c n sc t ρ).bind fun x => if x then evE c n sc w a ρ else evE c n sc w b ρ
    | .Subscript a (.Slice lo hi none _) _ => (evE c n sc w a ρ).bind fun x => (optI (fun e => evE c n sc true e ρ) lo).bind fun i => (optI (fun e => evE c n sc true e ρ) hi).bind fun j => match x with
      | .list ds => .ok (.list (cutD ds i j))
      | _ => slc x i j
    | .Subscript a b _ => if plainI b then (evE c n sc w a ρ).bind fun x => (evE c n sc true b ρ).bind fun y => ix x y else .no
    | .Call (.Name f _) as [] _ => match nmOf c.N sc f with
      | .glob => match c.cst f, c.cls f with
        | none, none => match as with
          | [] => if c.isF f then noEr (c.phi f []) else .no
          | a :: rest => if f = "isinstance" then match rest with
              | [.Name T _] => match nmOf c.N sc T with
                | .glob => if (tyval T).isSome && noStar a then (evE c n sc true a ρ).bind fun d => (isi T d).bind fun b => .ok (.bool b) else .no
                | _ => .no
              | _ => .no
            else if (setArg f a rest).isSome then (evN c n sc w e ρ).bind fun ds => .ok (.list ds)
            else if (a :: rest).all noStar then
              if c.isF f then (evAll (fun e => evE c n sc w e ρ) (a :: rest)).bind fun ds => c.phi f ds
              else if (bval f).isSome then (evAll (fun e => evE c n sc w e ρ) (a :: rest)).bind fun ds => match bls f ds with
                | .ok xs => .ok (.list xs)
                | _ => bfn f ds
              else .no
            else .no
        | _, _ => .no
      | _ => .no
    | .FormattedValue a (-1) none _ => (evE c n sc w a ρ).bind fun d => match d with
      | .str y => if y.length ≤ 100000 then .ok (.str y) else .no
      | .int i => if i.natAbs.log2 < 1920 then .ok (.str (toString i : String)) else .no
      | _ => .no
    | .JoinedStr vs _ => match vs with
      | [v] => match v with
        | .FormattedValue _ _ _ _ => evE c n sc w v ρ
        | _ => .no
      | v1 :: v2 :: rest => (evJs (fun e => evE c n sc w e ρ) (v1 :: v2 :: rest) Str.empty).bind fun z => .ok (.str z)
      | _ => .no
    | .Call (.Attribute o m ap) [a] [] cp => if m = "join" ∧ plainO o = true ∧ (ap.endLine == cp.line) = true ∧ noStar a = true then
        (evE c n sc w o ρ).bind fun x => (noEr (evE c n sc true a ρ)).bind fun y => match x, y with
          | .str z, .list ds => match asStrs ds with
            | some ys => if (ys.map (·.length)).sum + ys.length * z.length ≤ 16777216 then .ok (.str (PySem.Txt.join z ys)) else .no
            | none => .no
          | _, _ => .no
      else .no
    | _ => (evN c n sc w e ρ).bind fun ds => .ok (.list ds)
/-- a new list -/
def evN (c : Cn) : Nat → Scope → Bool → Expr → En → Rs (List PyData)
  | 0, _, _, _, _ => .no
  | n + 1, sc, w, e, ρ => match e with
    | .List es _ => (evAll (fun e => evE c n sc w e ρ) es).bind fun ds => if ds.length ≤ 1000 then .ok ds else .no
    | .ListComp elt [⟨tg, iter, ifs, 0⟩] sc' _ =>
      let own := ownOf c.N sc'
      if blkC c.N sc sc' own && tgtIn c.N (own.map (·.2)) 8 tg && noSet iter && decide (ifs.length ≤ 1) then
        (evIter (fun e => evE c n sc w e ρ) (bltn c sc) tg iter).bind fun ds => if ds.length ≤ 100000 then
          mapD (turnD (fun d => tgt c sc' 8 tg d (wipeE ρ (own.map (·.2)))) ifs (fun e => evT c n sc' e) (fun ρ' => evE c n sc' w elt ρ')) ds else .no
      else .no
    | .ListComp elt [⟨tg, iter, [], 0⟩, ⟨tg1, iter1, [], 0⟩] sc' _ =>
      let own := ownOf c.N sc'
      let vs1 := tgtSl c.N 8 tg1
      if blkC c.N sc sc' own && tgtIn c.N (own.map (·.2)) 8 tg && noSet iter && tgtIn c.N vs1 8 tg1 && noSet iter1 && vs1.all (fun i => (own.map (·.2)).contains i) then
        (evIter (fun e => evE c n sc w e ρ) (bltn c sc) tg iter).bind fun ds => if ds.length ≤ 100000 then
          (catD (fun d => match tgt c sc' 8 tg d (wipeE ρ (own.map (·.2))) with
            | none => .no
            | some ρ1 => (noEr (evIter (fun e => evE c n sc' w e ρ1) (bltn c sc') tg1 iter1)).bind fun ds1 => mapD (turnD (fun d1 => tgt c sc' 8 tg1 d1 (wipeE ρ1 vs1)) [] (fun _ _ => .no) (fun ρ2 => evE c n sc' w elt ρ2)) ds1) ds).bind fun r => if r.length ≤ 100000 then .ok r else .no else .no
      else .no
    | .Call (.Name f _) (a :: rest) [] _ => match nmOf c.N sc f with
      | .glob => match c.cst f, c.cls f with
        | none, none => match setArg f a rest with
          | some (g, x) => match nmOf c.N sc g with
            | .glob => if noStar x then (evE c n sc w x ρ).bind fun d => match d with
              | .list ds => match asInts ds with
                | some is => if is.length < 64 then .ok ((srtI (dedI is)).map PyData.int) else .no
                | none => .no
              | _ => .no
              else .no
            | _ => .no
          | none => if (a :: rest).all noStar && !c.isF f && (bval f).isSome then (evAll (fun e => evE c n sc w e ρ) (a :: rest)).bind fun ds => bls f ds else .no
        | _, _ => .no
      | _ => .no
    | .BinOp a op b _ => (evE c n sc w a ρ).bind fun x => (evE c n sc w b ρ).bind fun y => lop op x y
    | .Subscript a (.Slice lo hi none _) _ => (evE c n sc w a ρ).bind fun x => (optI (fun e => evE c n sc true e ρ) lo).bind fun i => (optI (fun e => evE c n sc true e ρ) hi).bind fun j => match x with
      | .list ds => .ok (cutD ds i j)
      | _ => .no
    | _ => .no
/-- a test -/
def evT (c : Cn) : Nat → Scope → Expr → En → Rs Bool
  | 0, _, _, _ => .no
  | n + 1, sc, e, ρ => match e with
    | .Compare a ops bs _ => if cmpF ops bs then (evE c n sc true a ρ).bind fun x => cmps (fun e => evE c n sc true e ρ) x ops bs else .no
    | .BoolOp .And es _ => andT (fun e => evT c n sc e ρ) es
    | .BoolOp .Or es _ => orT (fun e => evT c n sc e ρ) es
    | .UnaryOp .Not a _ => (evT c n sc a ρ).bind fun b => .ok !b
    | _ => if valT e then (evE c n sc true e ρ).bind tru else .no
end
/-! statements -/
inductive Fl where
  | nx (ρ : En) | rt (d : PyData) | bk (ρ : En) | ct (ρ : En)
def forD (g : PyData → En → Option En) (body : En → Rs Fl) : List PyData → En → Rs Fl
  | [], ρ => .ok (.nx ρ)
  | d :: ds, ρ => match g d ρ with
    | none => .no
    | some ρ' => (body ρ').bind fun f => match f with
      | .nx ρ2 => forD g body ds ρ2
      | .ct ρ2 => forD g body ds ρ2
      | .bk ρ2 => .ok (.nx ρ2)
      | .rt d => .ok (.rt d)
def whD (t : En → Rs Bool) (body : En → Rs Fl) : Nat → En → Rs Fl
  | 0, _ => .no
  | m + 1, ρ => (t ρ).bind fun b => if b then (body ρ).bind fun f => match f with
      | .nx ρ2 => whD t body m ρ2
      | .ct ρ2 => whD t body m ρ2
      | .bk ρ2 => .ok (.nx ρ2)
      | .rt d => .ok (.rt d)
    else .ok (.nx ρ)
def seqD (f : Stmt → En → Rs Fl) : List Stmt → En → Rs Fl
  | [], ρ => .ok (.nx ρ)
  | st :: sts, ρ => (f st ρ).bind fun r => match r with
    | .nx ρ' => seqD f sts ρ'
    | o => .ok o
/-- an own list's slot and items -/
def ownAt (c : Cn) (sc : Scope) (x : Str) (ρ : En) : Option (Nat × List PyData) := if c.isOwn x then match nmOf c.N sc x with
    | .slot i => match ρ[i]? with
      | some (some (.list ds)) => some (i, ds)
      | _ => none
    | _ => none
  else none
def locN (sc : Scope) (x : Str) : Bool := match sc.names.lookup x with
  | some .local => true
  | some .cell => true
  | _ => false
/-- a comprehension's value goes to a plain local of its line -/
def lcOk (sc : Scope) (x : Str) (p : Pos) (e : Expr) : Bool := match e with
  | .ListComp _ [_] sc' pos => (match sc.names.lookup x with | some .local => true | _ => false) && p.line == pos.line && !(sc'.names.any fun (n, k) => n == x && (k == .local || k == .cell))
  | .ListComp _ _ _ _ => false
  | .SetComp _ _ _ _ => false
  | .DictComp _ _ _ _ _ => false
  | _ => true
/-- a comprehension's value goes to a name that an inner block reads, too -/
def cellLC (sc : Scope) (x : Str) : Expr → Bool
  | .ListComp _ _ _ _ => match sc.names.lookup x with
    | some .cell => true
    | _ => false
  | _ => false
/-- own + e, that makes a new list -/
def ownAdd (c : Cn) : Expr → Option (Str × Expr)
  | .BinOp (.Name y _) .Add b _ => if c.isOwn y then some (y, b) else none
  | _ => none
def evNO (c : Cn) (sc : Scope) (e : Expr) (ρ : En) : Rs (List PyData) := match ownAdd c e with
  | some (y, b) => match ownAt c sc y ρ with
    | some (_, ds) => (evE c 40 sc false b ρ).bind fun d => lop .Add (.list ds) d
    | none => .no
  | none => evN c 40 sc false e ρ
def evS (c : Cn) (wf : Nat) (sc : Scope) : Nat → Stmt → En → Rs Fl
  | 0, _, _ => .no
  | n + 1, st, ρ => match st with
    | .Assign [.Name x p] e _ => match nmOf c.N sc x with
      | .slot i => if locN sc x && (lcOk sc x p e || (!c.isOwn x && cellLC sc x e)) then if c.isOwn x then (evNO c sc e ρ).bind fun ds => .ok (.nx (setE i (.list ds) ρ)) else (evE c 40 sc false e ρ).bind fun d => .ok (.nx (setE i d ρ)) else .no
      | _ => .no
    | .Assign [.Tuple [.Name x _, .Name y _] _ _] (.Call (.Attribute (.Name o _) m ap) [] [] cp) _ =>
      if m = "pop" ∧ (ap.endLine == cp.line) = true then match ownAt c sc o ρ, nmOf c.N sc x, nmOf c.N sc y with
        | some (k, ds), .slot i, .slot j => if c.isOwn x || c.isOwn y || !locN sc x || !locN sc y then .no else match ds.getLast? with
          | some (.tuple [a, b]) => .ok (.nx (setE j b (setE i a (setE k (.list ds.dropLast) ρ))))
          | _ => .no
        | _, _, _ => .no
      else .no
    | .Assign [.Tuple [.Starred (.Name x _) _, .Name y _] _ _] e _ => match nmOf c.N sc x, nmOf c.N sc y with
      | .slot i, .slot j => if isTupE e || c.isOwn x || c.isOwn y || !locN sc x || !locN sc y then .no else (evE c 40 sc false e ρ).bind fun d => match d with
        | .list ds => match ds.getLast? with
          | some z => if ds.length < 1000 then .ok (.nx (setE j z (setE i (.list ds.dropLast) ρ))) else .no
          | none => .no
        | _ => .no
      | _, _ => .no
    | .Assign [.Tuple ts k p] e _ => if parNo e then .no else (evE c 40 sc false e ρ).bind fun d => match tgt c sc 8 (.Tuple ts k p) d ρ with
      | some ρ' => .ok (.nx ρ')
      | none => .no
    | .Assign [.Subscript (.Name x _) b _] e _ => match ownAt c sc x ρ with
      | some (i, ds) => if !plainI b then .no else (evE c 40 sc false e ρ).bind fun d => (evE c 40 sc true b ρ).bind fun y => match y with
        | .int k => match ixN ds.length k with
          | some j => .ok (.nx (setE i (.list (ds.set j d)) ρ))
          | none => .no
        | _ => .no
      | none => .no
    | .AugAssign (.Name x _) .Add e _ => match nmOf c.N sc x with
      | .slot i => if locN sc x && !c.isOwn x then match ρ[i]? with
        | some (some (.int a)) => (evE c 40 sc true e ρ).bind fun d => match d with
          | .int b => .ok (.nx (setE i (.int (a + b)) ρ))
          | _ => .no
        | _ => .no
        else .no
      | _ => .no
    | .Return (some e) _ => (evE c 40 sc true e ρ).bind fun d => .ok (.rt d)
    | .Return none _ => .ok (.rt .none)
    | .If t a b _ => (evT c 40 sc t ρ).bind fun x => if x then seqD (evS c wf sc n) a ρ else seqD (evS c wf sc n) b ρ
    | .For tg it body [] _ => if !noSet it then .no else (evIter (fun e => evE c 40 sc false e ρ) (bltn c sc) tg it).bind fun ds => forD (tgt c sc 8 tg) (seqD (evS c wf sc n) body) ds ρ
    | .While t body [] _ => whD (evT c 40 sc t) (seqD (evS c wf sc n) body) wf ρ
    | .Raise (some (.Call (.Name x _) [.Constant (.str _) _ _] [] _)) none _ => match nmOf c.N sc x, c.cls x with
      | .glob, some k => .er k
      | _, _ => .no
    | .Expr (.Call (.Attribute (.Name x _) m ap) [a] [] cp) _ => match ownAt c sc x ρ with
      | some (i, ds) => if noStar a && (ap.endLine == cp.line) then if m = "append" then (evE c 40 sc false a ρ).bind fun d => if ds.length < 100000 then .ok (.nx (setE i (.list (ds ++ [d])) ρ)) else .no
        else if m = "extend" then (evN c 40 sc false a ρ).bind fun es => if ds.length + es.length ≤ 100000 then .ok (.nx (setE i (.list (ds ++ es)) ρ)) else .no
        else .no else .no
      | none => .no
    | .Expr (.Call (.Name f p) as [] p2) _ => (evE c 40 sc true (.Call (.Name f p) as [] p2) ρ).bind fun _ => .ok (.nx ρ)
    | .Pass _ => .ok (.nx ρ)
    | .Break _ => .ok (.bk ρ)
    | .Continue _ => .ok (.ct ρ)
    | _ => .no
/-! defs -/
structure Df where
  nm : Str
  ps : List Str
  N : List Str
  own : List Str
  st : Stmt
structure Tab where
  dfs : List (Str × Df)
  cst : Str → Option PyData
  cls : Str → Option Nat
  ext : Str → Option (Nat × (List PyData → Rs PyData))
  wf : Nat
def Tab.look (T : Tab) (f : Str) : Option Df := T.dfs.lookup f
def outD : Rs Fl → Rs PyData
  | .ok (.rt d) => .ok d
  | .ok (.nx _) => .ok .none
  | .ok _ => .no
  | .er c => .er c
  | .no => .no
def entry (N : List Str) (ds : List PyData) : En := ds.map some ++ List.replicate (N.length - ds.length) none
/-- the calls that a def of level n may make, R the defs of the table -/
def phiAt (T : Tab) (n : Nat) (R : Phi) : Phi := fun f ds => match T.look f with
  | some _ => R f ds
  | none => match T.ext f with
    | some (k, F) => if k ≤ n then F ds else .no
    | none => .no
def isFAt (T : Tab) (n : Nat) : Str → Bool := fun f => (T.look f).isSome || (match T.ext f with
  | some (k, _) => decide (k ≤ n)
  | none => false)
def cnAt (T : Tab) (n : Nat) (R : Phi) (D : Df) : Cn := { N := D.N, own := D.own, cst := T.cst, cls := T.cls, phi := phiAt T n R, isF := isFAt T n }
def run (T : Tab) : Nat → Phi
  | 0, _, _ => .no
  | n + 1, f, ds => match T.look f with
    | some D => if ds.length = D.ps.length then outD (seqD (evS (cnAt T n (run T n) D) T.wf (defScope D.st) 12) (defBody D.st) (entry D.N ds)) else .no
    | none => .no
end PY

set_option Elab.async false
set_option linter.all false
set_option maxRecDepth 100000
set_option maxHeartbeats 4000000
/-! The reckoning is right: expressions, piece by piece. -/
namespace PY
open PySem PySem.Spec PyProof.Rows L2 DK DD
/-- a def's promise by a reckoning -/
abbrev spP (K : PySem.W.Frag) (cl : Nat → Addr) (F : List PyData → Rs PyData) : Sp := fun vs H Q E => ∃ M ds, Dom M H ∧ RvA K (mi H M) vs ds ∧ match F ds with
  | .ok d => ∀ v H', Evl.Ex H H' → Rv K (mi H' M) v d → Q v H'
  | .er i => ∀ H', Evl.Ex H H' → E (.ref (cl i)) none H'
  | .no => False
/-- what is known of a module, for the names of the reckoning -/
structure Mdl (P : Program) (w : World) (K : PySem.W.Frag) (mg : Str → Option Value) (base : Heap) (k : Nat) (cl : Nat → Addr) (c : Cn) : Prop where
  cst : ∀ x d, c.cst x = some d → isScal d = true → ∃ (u : Value) (v : V), mg x = some u ∧ RelV v u ∧ DD.scV d = some v
  blt : ∀ x ∈ (["len", "abs", "all", "any", "max", "min", "str", "int", "tuple", "list", "sorted", "isinstance", "range", "enumerate", "zip", "bool", "set"] : List Str), mg x = none
  cls : ∀ x i, c.cls x = some i → mg x = some (.ref (cl i)) ∧ PySem.W.keepIn K (.ref (cl i)) = true ∧ PySem.W.excIn K (cl i) [.type "ValueError", .type "Exception", .type "BaseException", .type "object"] "ValueError.__new__" = true ∧ PySem.W.subIn K (.ref (cl i)) (.type "BaseException") = some true ∧ PySem.W.typeIn K (.ref (cl i)) = some (.type "type")
  phi : ∀ f, c.isF f = true → ∃ (kf : Nat) (fa : Addr) (fd : FuncData) (ps : List Str), kf ≤ k ∧ mg f = some (.ref fa) ∧ PySem.W.keepIn K (.ref fa) = true ∧ Binds K fd ps [] ∧ FnOk P w K mg base (CX P w) kf fa fd ps (spP K cl (c.phi f))
section
variable {P : Program} {w : World} {K : PySem.W.Frag} {mg : Str → Option Value} {base : Heap} {k : Nat} {cl : Nat → Addr} {c : Cn} {sc : Scope} {W : WX}
/-- what must hold of an outcome -/
def Out {α : Type} (cl : Nat → Addr) (W : WX) (σ : L2.St) (H : Hp) (r : Rs α) (S : α → Prop) : Prop := match r with
  | .ok a => S a
  | .er i => ∀ H2, Evl.Ex H H2 → W (.ref (cl i)) none σ H2
  | .no => False
theorem Out.bind {α β : Type} {σ : L2.St} {H : Hp} {r : Rs α} {f : α → Rs β} {S : β → Prop} (h : Out cl W σ H (r.bind f) S) : Out cl W σ H r fun a => Out cl W σ H (f a) S := by
  cases r with
  | ok a => exact h
  | er i => exact h
  | no => exact h
theorem Out.mono {α : Type} {σ : L2.St} {H H' : Hp} {r : Rs α} {S S' : α → Prop} (h : Out cl W σ H r S) (e : Evl.Ex H H') (m : ∀ a, r = .ok a → S a → S' a) : Out cl W σ H' r S' := by
  cases r with
  | ok a => exact m a rfl h
  | er i => exact fun H2 e2 => h H2 (e.trans e2)
  | no => exact h
def OkE (P : Program) (w : World) (K : PySem.W.Frag) (mg : Str → Option Value) (base : Heap) (k : Nat) (cl : Nat → Addr) (N : List Str) (sc : Scope) (W : WX) (L : List Addr) (e : Expr) (r : Rs PyData) (σ : L2.St) (H : Hp) : Prop :=
  ∀ H1, Evl.Ex H H1 → ∀ Q : VK, Out cl W σ H1 r (fun d => ∀ v H2, Evl.Ex H1 H2 → Rv K (mi H2 L) v d → Q v H2) → tB P w K mg base k N sc W e σ H1 Q
def OkN (P : Program) (w : World) (K : PySem.W.Frag) (mg : Str → Option Value) (base : Heap) (k : Nat) (cl : Nat → Addr) (N : List Str) (sc : Scope) (W : WX) (L : List Addr) (e : Expr) (r : Rs (List PyData)) (σ : L2.St) (H : Hp) : Prop :=
  ∀ H1, Evl.Ex H H1 → ∀ Q : VK, Out cl W σ H1 r (fun ds => ∀ p vs H2, H1 p = none → Evl.Ex H1 H2 → H2 p = some (.lst vs) → RvA K (mi H2 (p :: L)) vs ds → Q (.ref p) H2) → tB P w K mg base k N sc W e σ H1 Q
def OkT (P : Program) (w : World) (K : PySem.W.Frag) (mg : Str → Option Value) (base : Heap) (k : Nat) (cl : Nat → Addr) (N : List Str) (sc : Scope) (W : WX) (e : Expr) (r : Rs Bool) (σ : L2.St) (H : Hp) : Prop :=
  ∀ H1, Evl.Ex H H1 → ∀ Q : Bool → Hp → Prop, Out cl W σ H1 r (fun b => ∀ H2, Evl.Ex H1 H2 → Q b H2) → tBT P w K mg base k N sc W e σ H1 Q
def OkA (P : Program) (w : World) (K : PySem.W.Frag) (mg : Str → Option Value) (base : Heap) (k : Nat) (cl : Nat → Addr) (N : List Str) (sc : Scope) (W : WX) (L : List Addr) (es : List Expr) (r : Rs (List PyData)) (σ : L2.St) (H : Hp) : Prop :=
  ∀ H1, Evl.Ex H H1 → ∀ Q : List V → Hp → Prop, Out cl W σ H1 r (fun ds => ∀ vs H2, Evl.Ex H1 H2 → RvA K (mi H2 L) vs ds → Q vs H2) → tBA P w K mg base k N sc W es σ H1 Q
variable {L : List Addr} {σ : L2.St} {H H' : Hp} {e a b : Expr} {es : List Expr} {r : Rs PyData} {rs : Rs (List PyData)} {N : List Str}
theorem OkE.ex (x : Evl.Ex H H') (h : OkE P w K mg base k cl N sc W L e r σ H) : OkE P w K mg base k cl N sc W L e r σ H' := fun H1 y Q q => h H1 (x.trans y) Q q
theorem OkA.ex (x : Evl.Ex H H') (h : OkA P w K mg base k cl N sc W L es rs σ H) : OkA P w K mg base k cl N sc W L es rs σ H' := fun H1 y Q q => h H1 (x.trans y) Q q
theorem OkT.ex {r : Rs Bool} (x : Evl.Ex H H') (h : OkT P w K mg base k cl N sc W e r σ H) : OkT P w K mg base k cl N sc W e r σ H' := fun H1 y Q q => h H1 (x.trans y) Q q
theorem dom_fresh {M : List Addr} {p : Addr} (d : Dom M H) (h : H p = none) : p ∉ M := d.nin h
/-- a new list as a datum -/
theorem OkN.toE (hd : Dom L H) (h : OkN P w K mg base k cl N sc W L e rs σ H) : OkE P w K mg base k cl N sc W L e (rs.bind fun ds => .ok (.list ds)) σ H := fun H1 x Q q =>
  h H1 x Q ((Out.bind q).mono (Evl.Ex.refl _) fun ds _ s p vs H2 n x2 hp hv => s _ H2 x2 (.lst (mi_of ((hd.ex x).nin n) hp) (rlesss (fun m hm => List.mem_cons_of_mem p hm) hv)))
/-! constants and names -/
theorem ok_const {v : V} {d : PyData} (ht : ∀ X, Good P w K mg base k N sc W X → PE X e (tC v)) (hv : DD.scV d = some v) : OkE P w K mg base k cl N sc W L e (.ok d) σ H := fun H1 x Q q =>
  ⟨tC v, ht, q v H1 (Evl.Ex.refl _) (scR hv)⟩
theorem ok_var {x : Str} {pos : Pos} {i : Nat} {v : V} {d : PyData} (hn : nmOf N sc x = .slot i) (hs : σ[i]? = some (some v)) (hv : Rv K (mi H L) v d) : OkE P w K mg base k cl N sc W L (.Name x pos) (.ok d) σ H := fun H1 y Q q => by
  obtain ⟨n1, n2, n3, n4⟩ := nm_slot hn
  exact ⟨tVar i, fun X g => pe_var (by rw [g.eN]; exact n1) (g.vis n2) n3 n4, v, hs, q v H1 (Evl.Ex.refl _) (re y hv)⟩
/-! arguments -/
theorem ok_nil : OkA P w K mg base k cl N sc W L [] (.ok []) σ H := fun H1 _ Q q => ⟨tNil, fun X g => pa_nil, q [] H1 (Evl.Ex.refl _) .nil⟩
theorem ok_cons (hs : noStar e = true) (h : OkE P w K mg base k cl N sc W L e r σ H) (ht : OkA P w K mg base k cl N sc W L es rs σ H) :
    OkA P w K mg base k cl N sc W L (e :: es) (r.bind fun d => rs.bind fun ds => .ok (d :: ds)) σ H := fun H1 x Q q => by
  refine ⟨tCons (tB P w K mg base k N sc W e) (tBA P w K mg base k N sc W es), fun X g => pa_cons (be g e) (ba g es) (star1 hs), ?_⟩
  refine h H1 x _ ((Out.bind q).mono (Evl.Ex.refl _) fun d _ s v H2 x2 hv => ?_)
  refine ht H2 (x.trans x2) _ ((Out.bind s).mono x2 fun ds _ s2 vs H3 x3 hvs => ?_)
  exact s2 _ H3 (x2.trans x3) (.cons (re x3 hv) hvs)
theorem evAll_cons {f : Expr → Rs PyData} {e : Expr} {es : List Expr} (h : noStar e = true) : evAll f (e :: es) = (f e).bind fun d => (evAll f es).bind fun ds => .ok (d :: ds) := by
  cases e <;> first | rfl | cases h
theorem ok_star {p : Pos} {rs' : Rs (List PyData)} (h : OkE P w K mg base k cl N sc W L e r σ H) (ht : OkA P w K mg base k cl N sc W L es rs' σ H) :
    OkA P w K mg base k cl N sc W L (.Starred e p :: es) (r.bind fun d => match d with
    | .list xs => rs'.bind fun ds => .ok (xs ++ ds)
    | .tuple xs => rs'.bind fun ds => .ok (xs ++ ds)
    | _ => .no) σ H := fun H1 x Q q => by
  refine ⟨StX.tStar K (tB P w K mg base k N sc W e) (tBA P w K mg base k N sc W es), fun X g => by rw [← g.eK]; exact StX.pa_star (by rw [g.eK]; exact be g e) (by rw [g.eK]; exact ba g es), ?_⟩
  refine h H1 x _ ((Out.bind q).mono (Evl.Ex.refl _) fun d _ s v H2 x2 hv => ?_)
  split at s
  · cases hv with
    | lst h1 h2 =>
      refine ⟨_, _, rfl, .inr (Evl.sq_of (mi_some h1).2), ?_⟩
      exact ht H2 (x.trans x2) _ ((Out.bind s).mono x2 fun ds _ s2 vs H3 x3 hvs => s2 _ H3 (x2.trans x3) (ra_app (res x3 h2) hvs))
  · cases hv with
    | tup h1 h2 =>
      refine ⟨_, _, rfl, .inl (Evl.st_of (mi_some h1).2), ?_⟩
      exact ht H2 (x.trans x2) _ ((Out.bind s).mono x2 fun ds _ s2 vs H3 x3 hvs => s2 _ H3 (x2.trans x3) (ra_app (res x3 h2) hvs))
  · exact s.elim
theorem ok_all {f : Expr → Rs PyData} (h : ∀ e, OkE P w K mg base k cl N sc W L e (f e) σ H) : ∀ es, OkA P w K mg base k cl N sc W L es (evAll f es) σ H
  | [] => ok_nil
  | e :: es => by
    by_cases hs : noStar e = true
    · rw [evAll_cons hs]
      exact ok_cons hs (h e) (ok_all h es)
    · cases e with
      | Starred e p => exact ok_star (h e) (ok_all h es)
      | _ => exact absurd rfl hs
/-! displays -/
theorem ok_tup {pos : Pos} {kk : Nat} (hd : Dom L H) (h : OkA P w K mg base k cl N sc W L es rs σ H) : OkE P w K mg base k cl N sc W L (.Tuple es kk pos) (rs.bind fun ds => if ds.length ≤ 1000 then .ok (.tuple ds) else .no) σ H := fun H1 x Q q => by
  refine ⟨tTup (tBA P w K mg base k N sc W es), fun X g => pe_tup (ba g es), ?_⟩
  refine h H1 x _ ((Out.bind q).mono (Evl.Ex.refl _) fun ds _ s vs H2 x2 hv => ?_)
  split at s
  · rename_i hl
    have hl2 := ra_len hv
    exact ⟨Evl.sz_of (by omega), fun p hp => s _ _ (x2.trans (Evl.Ex.new hp)) (.tup (mi_of ((hd.ex (x.trans x2)).nin hp) upd_same) (res (Evl.Ex.new hp) hv))⟩
  · exact s.elim
theorem ok_lst {pos : Pos} (h : OkA P w K mg base k cl N sc W L es rs σ H) : OkN P w K mg base k cl N sc W L (.List es pos) (rs.bind fun ds => if ds.length ≤ 1000 then .ok ds else .no) σ H := fun H1 x Q q => by
  refine ⟨tLst (tBA P w K mg base k N sc W es), fun X g => pe_lst (ba g es), ?_⟩
  refine h H1 x _ ((Out.bind q).mono (Evl.Ex.refl _) fun ds _ s vs H2 x2 hv => ?_)
  split at s
  · rename_i hl
    have hl2 := ra_len hv
    exact ⟨Evl.sz_of (by omega), fun p hp => s p vs _ (Evl.fresh_back x2 hp) (x2.trans (Evl.Ex.new hp)) upd_same (res (Evl.Ex.new hp) (radds hp hv))⟩
  · exact s.elim
/-! two operands -/
/-- an operator's rule, for data -/
def Op2 (K : PySem.W.Frag) (L : List Addr) (r : R2) (d1 d2 : PyData) (H0 : Hp) (S : VK) : Prop := ∀ x y H, Evl.Ex H0 H → Rv K (mi H L) x d1 → Rv K (mi H L) y d2 → ∀ Q : VK, (∀ v H', Evl.Ex H H' → S v H' → Q v H') → r x y H Q
theorem ok_op2 {op : Operator} {pos : Pos} {r1 r2 : Rs PyData} {f : PyData → PyData → Rs PyData} (ha : OkE P w K mg base k cl N sc W L a r1 σ H) (hb : OkE P w K mg base k cl N sc W L b r2 σ H)
    (ho : ∀ d1 d2, r1 = .ok d1 → r2 = .ok d2 → f d1 d2 ≠ .no → ∃ (r : R2) (d : PyData), f d1 d2 = .ok d ∧ (∀ X, Good P w K mg base k N sc W X → OpR X (binaryOp op) r) ∧
      ∀ x y H1, Evl.Ex H H1 → Rv K (mi H1 L) x d1 → Rv K (mi H1 L) y d2 → ∀ Q : VK, (∀ v H2, Evl.Ex H1 H2 → Rv K (mi H2 L) v d → Q v H2) → r x y H1 Q) :
    OkE P w K mg base k cl N sc W L (.BinOp a op b pos) (r1.bind fun d1 => r2.bind fun d2 => f d1 d2) σ H := fun H1 x Q q => by
  have one : ∀ (r : R2), (∀ X, Good P w K mg base k N sc W X → OpR X (binaryOp op) r) → tOp r (tB P w K mg base k N sc W a) (tB P w K mg base k N sc W b) σ H1 Q → tB P w K mg base k N sc W (.BinOp a op b pos) σ H1 Q := fun r hr hq =>
    ⟨_, fun X g => pe_op (hr X g) (be g a) (be g b), hq⟩
  -- which rule is chosen hangs on the answers alone
  by_cases hx : ∃ d1 d2, r1 = .ok d1 ∧ r2 = .ok d2 ∧ f d1 d2 ≠ .no
  · obtain ⟨d1, d2, e1, e2, hf⟩ := hx
    obtain ⟨r, d, ef, hr, hs⟩ := ho d1 d2 e1 e2 hf
    refine one r hr ?_
    refine ha H1 x _ ((Out.bind q).mono (Evl.Ex.refl _) fun d1' e1' s v1 H2 x2 hv1 => ?_)
    refine hb H2 (x.trans x2) _ ((Out.bind s).mono x2 fun d2' e2' s2 v2 H3 x3 hv2 => ?_)
    have z1 : d1 = d1' := by rw [e1] at e1'; cases e1'; rfl
    have z2 : d2 = d2' := by rw [e2] at e2'; cases e2'; rfl
    subst z1 z2
    rw [ef] at s2
    exact hs v1 v2 H3 ((x.trans x2).trans x3) (re x3 hv1) hv2 Q fun v H4 x4 h4 => s2 v H4 ((x2.trans x3).trans x4) h4
  · -- an error, or nothing
    refine ⟨_, fun X g => pe_op (r := fun _ _ _ _ => False) (fun _ _ _ _ _ _ _ _ _ _ _ _ h => h.elim) (be g a) (be g b), ?_⟩
    refine ha H1 x _ ((Out.bind q).mono (Evl.Ex.refl _) fun d1 e1 s v1 H2 x2 hv1 => ?_)
    refine hb H2 (x.trans x2) _ ((Out.bind s).mono x2 fun d2 e2 s2 v2 H3 x3 hv2 => ?_)
    have hz : f d1 d2 = .no := Classical.byContradiction fun z => hx ⟨d1, d2, e1, e2, z⟩
    rw [hz] at s2
    exact s2.elim
end
end PY

set_option Elab.async false
set_option linter.all false
set_option maxRecDepth 100000
set_option maxHeartbeats 2000000
/-! An empty dict beside a text; lists of unlike lengths. -/
namespace ZE
open PySem PySem.Spec PyProof.Rows L2 PySem.W PySem.SeqAt
open AutoSeq1 (wpAny_loadPart')
open MeetsSeq MeetsSeq2 MeetsSeq3
theorem d_eq (o : Obj) (hc : o.cls = .type "dict") (l : Addr) (z : Str) (k : Tok) :
    Meets (Builtin.«dict.__eq__» ⟨[.ref l, .str z k], []⟩) (fun _ R s => s.heap.get? l = some o ∧ R (.ok (.ret .notImplemented)) s) :=
  .of_wp fun prog w A R s h => by
    obtain ⟨hp, g, d, tk, os⟩ := s
    obtain ⟨hl, h⟩ := h
    have f1 := F.sub_str_dict
    wp_walk using wpAny_loadPart' hl, wpAny_load hl
    exact ⟨_, rfl, h⟩
theorem d_ne (o : Obj) (hc : o.cls = .type "dict") (l : Addr) (z : Str) (k : Tok) :
    Meets (Builtin.«dict.__ne__» ⟨[.ref l, .str z k], []⟩) (fun _ R s => s.heap.get? l = some o ∧ R (.ok (.ret .notImplemented)) s) :=
  .of_wp fun prog w A R s h => by
    obtain ⟨hp, g, d, tk, os⟩ := s
    obtain ⟨hl, h⟩ := h
    have f1 := F.sub_str_dict
    wp_walk using wpAny_loadPart' hl, wpAny_load hl
    exact ⟨_, rfl, h⟩
theorem s_eq (o : Obj) (l : Addr) (z : Str) (k : Tok) :
    Meets (Builtin.«str.__eq__» ⟨[.str z k, .ref l], []⟩) (fun _ R s => s.heap.get? l = some o ∧ (∃ es ep, o.data = .dict es ep) ∧ R (.ok (.ret .notImplemented)) s) :=
  .of_wp fun prog w A R s h => by
    obtain ⟨hp, g, d, tk, os⟩ := s
    obtain ⟨hl, ⟨es, ep, hd⟩, h⟩ := h
    obtain ⟨c1, c2, c3, c4⟩ := o
    simp only at hd
    subst hd
    wp_walk using wpAny_loadPart' hl, wpAny_load hl
    exact ⟨_, rfl, h⟩
theorem s_ne (o : Obj) (l : Addr) (z : Str) (k : Tok) :
    Meets (Builtin.«str.__ne__» ⟨[.str z k, .ref l], []⟩) (fun _ R s => s.heap.get? l = some o ∧ (∃ es ep, o.data = .dict es ep) ∧ R (.ok (.ret .notImplemented)) s) :=
  .of_wp fun prog w A R s h => by
    obtain ⟨hp, g, d, tk, os⟩ := s
    obtain ⟨hl, ⟨es, ep, hd⟩, h⟩ := h
    obtain ⟨c1, c2, c3, c4⟩ := o
    simp only at hd
    subst hd
    wp_walk using wpAny_loadPart' hl, wpAny_load hl
    exact ⟨_, rfl, h⟩
section
variable {A : Around} {s : Shared} {l : Addr} {o : Obj}
theorem rc_ds (hl : s.heap.get? l = some o) (hc : o.cls = .type "dict") (hd : ∃ es ep, o.data = .dict es ep) (z : Str) (k : Tok) (hu : A.units < cLine) : RcAt A s (.ref l) (.str z k) false := fun prog w E Q h =>
  rc_eq_decline_or (k := false) ⟨_, hl, hc⟩ (typeIs_str s z k) (by decide) F.sub_str_dict F.slot_dict_eq F.slot_str_eq_refl
    (fun _ hq => call_meets F.slot_dict_eq ⟨_, hl, hc⟩ F.entry_dict_eq (F.args_dict_eq_2 _ _) (d_eq o hc l z k) ⟨hl, hq⟩)
    (fun _ hq => call_meets F.slot_str_eq_refl (typeIs_str s z k) F.entry_str_eq (F.args_str_eq_2 _ _) (s_eq o l z k) ⟨hl, hd, hq⟩)
    (fun _ hq => wpAny_of_eq (rfl : isSame (.ref l) (.str z k) = pure false) hq) (.inr hu) h
theorem rc_sd (hl : s.heap.get? l = some o) (hc : o.cls = .type "dict") (hd : ∃ es ep, o.data = .dict es ep) (z : Str) (k : Tok) (hu : A.units < cLine) : RcAt A s (.str z k) (.ref l) false := fun prog w E Q h =>
  rc_eq_decline_or (k := false) (typeIs_str s z k) ⟨_, hl, hc⟩ (by decide) F.sub_dict_str F.slot_str_eq F.slot_dict_eq_refl
    (fun _ hq => call_meets F.slot_str_eq (typeIs_str s z k) F.entry_str_eq (F.args_str_eq_2 _ _) (s_eq o l z k) ⟨hl, hd, hq⟩)
    (fun _ hq => call_meets F.slot_dict_eq_refl ⟨_, hl, hc⟩ F.entry_dict_eq (F.args_dict_eq_2 _ _) (d_eq o hc l z k) ⟨hl, hq⟩)
    (fun _ hq => wpAny_of_eq (rfl : isSame (.str z k) (.ref l) = pure false) hq) (.inr hu) h
theorem rn_ds (hl : s.heap.get? l = some o) (hc : o.cls = .type "dict") (hd : ∃ es ep, o.data = .dict es ep) (z : Str) (k : Tok) (hu : A.units < cLine) : RcNeAt A s (.ref l) (.str z k) true := fun prog w E Q h =>
  rc_ne_decline_or (k := false) ⟨_, hl, hc⟩ (typeIs_str s z k) (by decide) F.sub_str_dict F.slot_dict_ne F.slot_str_ne_refl
    (fun _ hq => call_meets F.slot_dict_ne ⟨_, hl, hc⟩ F.entry_dict_ne (F.args_dict_ne_2 _ _) (d_ne o hc l z k) ⟨hl, hq⟩)
    (fun _ hq => call_meets F.slot_str_ne_refl (typeIs_str s z k) F.entry_str_ne (F.args_str_ne_2 _ _) (s_ne o l z k) ⟨hl, hd, hq⟩)
    (fun _ hq => wpAny_of_eq (rfl : isSame (.ref l) (.str z k) = pure false) hq) (.inr hu) h
theorem ea_sd (hl : s.heap.get? l = some o) (hc : o.cls = .type "dict") (hd : ∃ es ep, o.data = .dict es ep) (z : Str) (k : Tok) (hu : A.units < cLine) : EqAt A s (.str z k) (.ref l) false := fun prog w E Q h => by
  unfold eqBool
  refine wpAny_holding (wpAny_ite_split (fun e => absurd (eq_of_beq e) nofun) fun _ => ?_)
  exact wpAny_bind (rc_sd hl hc hd z k hu prog w E _ (wpAny_truthy_bool h))
end
/-- == where a datum is a dict or lengths are unlike -/
def UnL (x y : V) (H : Hp) : Prop := (∃ a z, x = .ref a ∧ y = .str z ∧ H a = some (.dK [])) ∨ (∃ a b xs ys, x = .ref a ∧ y = .ref b ∧ H a = some (.lst xs) ∧ H b = some (.lst ys) ∧ xs.length ≠ ys.length) ∨ (∃ a b z zs, x = .ref a ∧ y = .ref b ∧ H a = some (.tup (z :: zs)) ∧ H b = some (.tup []))
def rEqX : R2 := fun x y H Q => UnL x y H ∧ Q (.bl false) H
def rNeX : R2 := fun x y H Q => UnL x y H ∧ Q (.bl true) H
def DcL (x y : V) (H : Hp) : Prop := ∃ a b ys, x = .ref a ∧ y = .ref b ∧ H a = some (.dK []) ∧ H b = some (.lst ys) ∧ ∀ v ∈ ys, ∃ z, v = .str z
def rInX : R2 := fun x y H Q => DcL x y H ∧ Q (.bl false) H
def rNiX : R2 := fun x y H Q => DcL x y H ∧ Q (.bl true) H
theorem vals_str : ∀ {ys : List V} {us : List Value}, Vals ys us → (∀ v ∈ ys, ∃ z, v = .str z) → ∀ u ∈ us, ∃ z t, u = .str z t
  | _, _, .nil, _, u, h => nomatch h
  | _, _, .cons r t, hs, u, h => by
    rcases List.mem_cons.mp h with rfl | h
    · obtain ⟨z, e⟩ := hs _ (List.mem_cons_self)
      rw [e] at r
      obtain ⟨t, e⟩ := r
      exact ⟨z, t, e⟩
    · exact vals_str t (fun v q => hs v (List.mem_cons_of_mem _ q)) u h
section
variable {X : Cx}
theorem op_eqX (hu : X.A.units < cLine) : OpR X (compareOp .Eq) rEqX := by
  intro pins s σ H x y v u Q I rx ry h
  obtain ⟨h, q⟩ := h
  rcases h with ⟨a, z, rfl, rfl, ha⟩ | ⟨a, b, xs, ys, rfl, rfl, ha, hb, hn⟩ | ⟨a, b, z, zs, rfl, rfl, ha, hb⟩
  · obtain ⟨_, _, vs, _, o, es, ep, hg, ⟨hc, _⟩, hd, _⟩ := I.hok a _ ha
    obtain ⟨t, rfl⟩ := ry
    cases rx
    exact rc_ds hg hc ⟨es, ep, hd⟩ z t hu _ _ _ _ ⟨.bl _, H, I, rfl, q⟩
  · obtain ⟨_, us, n, r1, hg⟩ := I.hok a _ ha
    obtain ⟨_, ws, m, r2, hk⟩ := I.hok b _ hb
    cases rx
    cases ry
    have l1 := r1.length
    have l2 := r2.length
    exact RcAt.lists_lengths ⟨_, hg, rfl, _, rfl⟩ ⟨_, hk, rfl, _, rfl⟩ (by simp; omega) hu _ _ _ _ ⟨.bl _, H, I, rfl, q⟩
  · obtain ⟨_, us, r1, pa⟩ := I.hok a _ ha
    obtain ⟨_, ws, r2, pb⟩ := I.hok b _ hb
    cases rx
    cases ry
    cases r2
    have l1 := r1.length
    have k := RcAt.tuples (e := fun _ => true) pa pb hu (fun j j1 j2 => absurd j2 (by simp))
    have e : ((List.range (min us.toArray.size ([] : List Value).toArray.size)).all (fun _ => true) && us.toArray.size == ([] : List Value).toArray.size) = false := by
      rw [Bool.and_eq_false_iff]
      right
      rw [List.length_cons] at l1
      simp only [List.size_toArray, List.length_nil]
      exact beq_eq_false_iff_ne.mpr (by omega)
    rw [e] at k
    exact k _ _ _ _ ⟨.bl _, H, I, rfl, q⟩
theorem op_neX (hu : X.A.units < cLine) : OpR X (compareOp .NotEq) rNeX := by
  intro pins s σ H x y v u Q I rx ry h
  obtain ⟨h, q⟩ := h
  rcases h with ⟨a, z, rfl, rfl, ha⟩ | ⟨a, b, xs, ys, rfl, rfl, ha, hb, hn⟩ | ⟨a, b, z, zs, rfl, rfl, ha, hb⟩
  · obtain ⟨_, _, vs, _, o, es, ep, hg, ⟨hc, _⟩, hd, _⟩ := I.hok a _ ha
    obtain ⟨t, rfl⟩ := ry
    cases rx
    exact rn_ds hg hc ⟨es, ep, hd⟩ z t hu _ _ _ _ ⟨.bl _, H, I, rfl, q⟩
  · obtain ⟨_, us, n, r1, hg⟩ := I.hok a _ ha
    obtain ⟨_, ws, m, r2, hk⟩ := I.hok b _ hb
    cases rx
    cases ry
    have l1 := r1.length
    have l2 := r2.length
    exact RcNeAt.lists_lengths ⟨_, hg, rfl, _, rfl⟩ ⟨_, hk, rfl, _, rfl⟩ (by simp; omega) hu _ _ _ _ ⟨.bl _, H, I, rfl, q⟩
  · obtain ⟨_, us, r1, pa⟩ := I.hok a _ ha
    obtain ⟨_, ws, r2, pb⟩ := I.hok b _ hb
    cases rx
    cases ry
    cases r2
    have l1 := r1.length
    have k := RcNeAt.tuples (e := fun _ => true) pa pb hu (fun j j1 j2 => absurd j2 (by simp))
    have e : ((List.range (min us.toArray.size ([] : List Value).toArray.size)).all (fun _ => true) && us.toArray.size == ([] : List Value).toArray.size) = false := by
      rw [Bool.and_eq_false_iff]
      right
      rw [List.length_cons] at l1
      simp only [List.size_toArray, List.length_nil]
      exact beq_eq_false_iff_ne.mpr (by omega)
    rw [e] at k
    exact k _ _ _ _ ⟨.bl _, H, I, rfl, q⟩
theorem op_inX (hu : X.A.units + 1 < cLine) : OpR X (compareOp .In) rInX := by
  intro pins s σ H x y v u Q I rx ry h
  obtain ⟨⟨a, b, ys, rfl, rfl, ha, hb, hs⟩, q⟩ := h
  obtain ⟨_, _, vs, _, o, es, ep, hg, ⟨hc, _⟩, hd, _⟩ := I.hok a _ ha
  obtain ⟨_, ws, m, r2, hk⟩ := I.hok b _ hb
  cases rx
  cases ry
  refine in_listAt (fun _ => false) ⟨_, hk, rfl, _, rfl⟩ (fun y hy => ?_) ?_
  · obtain ⟨z, t, rfl⟩ := vals_str r2 hs y (by simpa using hy)
    exact ea_sd hg hc ⟨es, ep, hd⟩ z t hu
  · have e : (ws.toArray.any fun _ => false) = false := by simp
    rw [e]
    exact ⟨.bl _, H, I, rfl, q⟩
theorem op_niX (hu : X.A.units + 1 < cLine) : OpR X (compareOp .NotIn) rNiX := by
  intro pins s σ H x y v u Q I rx ry h
  obtain ⟨⟨a, b, ys, rfl, rfl, ha, hb, hs⟩, q⟩ := h
  obtain ⟨_, _, vs, _, o, es, ep, hg, ⟨hc, _⟩, hd, _⟩ := I.hok a _ ha
  obtain ⟨_, ws, m, r2, hk⟩ := I.hok b _ hb
  cases rx
  cases ry
  refine notIn_listAt (fun _ => false) ⟨_, hk, rfl, _, rfl⟩ (fun y hy => ?_) ?_
  · obtain ⟨z, t, rfl⟩ := vals_str r2 hs y (by simpa using hy)
    exact ea_sd hg hc ⟨es, ep, hd⟩ z t hu
  · have e : (ws.toArray.any fun _ => false) = false := by simp
    rw [e]
    exact ⟨.bl _, H, I, rfl, q⟩
end
end ZE

set_option Elab.async false
set_option linter.all false
set_option maxRecDepth 100000
set_option maxHeartbeats 4000000
/-! The reckoning is right: operators, comparisons, subscripts. -/
namespace PY
open PySem PySem.Spec PyProof.Rows L2 DK DD
section
variable {P : Program} {w : World} {K : PySem.W.Frag} {mg : Str → Option Value} {base : Heap} {k : Nat} {cl : Nat → Addr} {c : Cn} {sc : Scope} {W : WX}
variable {L : List Addr} {σ : L2.St} {H H' : Hp} {e a b : Expr} {es : List Expr} {r : Rs PyData} {rs : Rs (List PyData)} {N : List Str}
theorem bop_ok {op : Operator} {d1 d2 : PyData} (hd : Dom L H) (h : bop op d1 d2 ≠ .no) : ∃ (r : R2) (d : PyData), bop op d1 d2 = .ok d ∧ (∀ X, Good P w K mg base k N sc W X → OpR X (binaryOp op) r) ∧
      ∀ x y H1, Evl.Ex H H1 → Rv K (mi H1 L) x d1 → Rv K (mi H1 L) y d2 → ∀ Q : VK, (∀ v H2, Evl.Ex H1 H2 → Rv K (mi H2 L) v d → Q v H2) → r x y H1 Q := by
  unfold bop at h ⊢
  split at h
  · exact ⟨_, _, rfl, fun X g => op_add, fun x y H1 _ rx ry Q q => by cases rx; cases ry; exact ⟨_, _, rfl, rfl, q _ H1 (Evl.Ex.refl _) (.int _)⟩⟩
  · exact ⟨_, _, rfl, fun X g => op_sub, fun x y H1 _ rx ry Q q => by cases rx; cases ry; exact ⟨_, _, rfl, rfl, q _ H1 (Evl.Ex.refl _) (.int _)⟩⟩
  · split at h
    · rename_i hc
      rw [if_pos hc]
      exact ⟨_, _, rfl, fun X g => op_mul, fun x y H1 _ rx ry Q q => by cases rx; cases ry; exact ⟨_, _, rfl, rfl, hc, q _ H1 (Evl.Ex.refl _) (.int _)⟩⟩
    · rename_i hc0
      split at h
      · rename_i hc
        rw [if_neg hc0, if_pos hc]
        exact ⟨_, _, rfl, fun X g => op_mulW, fun x y H1 _ rx ry Q q => by cases rx; cases ry; exact ⟨_, _, rfl, rfl, hc, q _ H1 (Evl.Ex.refl _) (.int _)⟩⟩
      · exact absurd rfl h
  · split at h
    · rename_i hc
      rw [if_pos hc]
      exact ⟨_, _, rfl, fun X g => op_powW, fun x y H1 _ rx ry Q q => by cases rx; cases ry; exact ⟨_, _, rfl, rfl, hc, q _ H1 (Evl.Ex.refl _) (.int _)⟩⟩
    · exact absurd rfl h
  · split at h
    · rename_i hc
      rw [if_pos hc]
      exact ⟨_, _, rfl, fun X g => op_fdiv, fun x y H1 _ rx ry Q q => by cases rx; cases ry; exact ⟨_, _, rfl, rfl, hc, q _ H1 (Evl.Ex.refl _) (.int _)⟩⟩
    · exact absurd rfl h
  · split at h
    · rename_i hc
      rw [if_pos hc]
      exact ⟨_, _, rfl, fun X g => op_mod, fun x y H1 _ rx ry Q q => by cases rx; cases ry; exact ⟨_, _, rfl, rfl, hc, q _ H1 (Evl.Ex.refl _) (.int _)⟩⟩
    · exact absurd rfl h
  · split at h
    · rename_i hc
      rw [if_pos hc]
      exact ⟨_, _, rfl, fun X g => op_add_str, fun x y H1 _ rx ry Q q => by cases rx; cases ry; exact ⟨_, _, rfl, rfl, Evl.sz_of (by omega), q _ H1 (Evl.Ex.refl _) (.str _)⟩⟩
    · exact absurd rfl h
  · rename_i i j
    split at h
    · rename_i hc
      rw [if_pos hc]
      refine ⟨rCatA K, _, rfl, fun X g => by rw [← g.eK]; exact op_catA, fun x y H1 x1 rx ry Q q => ?_⟩
      cases rx with
      | tup h1 v1 =>
      cases ry with
      | tup h2 v2 =>
      rename_i a1 xs b1 ys
      have l1 := ra_len v1
      have l2 := ra_len v2
      refine ⟨a1, b1, xs, ys, rfl, rfl, Evl.st_of (mi_some h1).2, Evl.st_of (mi_some h2).2, Evl.sz_of (by omega), fun hx => ?_, fun hx hy => ?_, fun hx hy p hp => ?_⟩
      · have : i = [] := List.length_eq_zero_iff.mp (by rw [← l1, hx] <;> rfl)
        subst this
        exact q _ H1 (Evl.Ex.refl _) (.tup h2 v2)
      · have : j = [] := List.length_eq_zero_iff.mp (by rw [← l2, hy] <;> rfl)
        subst this
        rw [List.append_nil] at q
        exact q _ H1 (Evl.Ex.refl _) (.tup h1 v1)
      · have eX : Evl.Ex H1 (upd H1 p (.tup (xs ++ ys))) := Evl.Ex.new hp
        exact q _ _ eX (.tup (mi_of ((hd.ex x1).nin hp) upd_same) (res eX (ra_app v1 v2)))
    · exact absurd rfl h
  · rename_i i n
    split at h
    · rename_i hc
      rw [if_pos hc]
      obtain ⟨n2, n1000, hl, hne⟩ := hc
      refine ⟨rRepT K, _, rfl, fun X g => by rw [← g.eK]; exact op_repT, fun x y H1 x1 rx ry Q q => ?_⟩
      cases rx with
      | tup h1 v1 =>
      cases ry
      rename_i a1 xs
      have l1 := ra_len v1
      refine ⟨a1, n, xs, rfl, rfl, Evl.st_of (mi_some h1).2, fun z => hne ?_, n2, n1000, by omega, fun p hp => ?_⟩
      · rw [z] at l1
        exact List.length_eq_zero_iff.mp l1.symm
      · have eX : Evl.Ex H1 (upd H1 p (.tup (List.replicate n.toNat xs).flatten)) := Evl.Ex.new hp
        exact q _ _ eX (.tup (mi_of ((hd.ex x1).nin hp) upd_same) (res eX (ra_rep v1 _)))
    · exact absurd rfl h
  · exact absurd rfl h
/-- an operator that makes a new list -/
theorem lop_ok {op : Operator} {d1 d2 : PyData} {ds : List PyData} (h : lop op d1 d2 = .ok ds) : ∃ (r : R2), (∀ X, Good P w K mg base k N sc W X → OpR X (binaryOp op) r) ∧
      ∀ x y H1, Rv K (mi H1 L) x d1 → Rv K (mi H1 L) y d2 → ∀ Q : VK, (∀ p vs H2, H1 p = none → Evl.Ex H1 H2 → H2 p = some (.lst vs) → RvA K (mi H2 (p :: L)) vs ds → Q (.ref p) H2) → r x y H1 Q := by
  unfold lop at h
  split at h
  · split at h
    · rename_i hc
      cases h
      refine ⟨_, fun X g => op_cat, fun x y H1 rx ry Q q => ?_⟩
      cases rx with
      | lst h1 v1 =>
      cases ry with
      | lst h2 v2 =>
      have l1 := ra_len v1
      have l2 := ra_len v2
      exact ⟨_, _, _, _, rfl, rfl, (mi_some h1).2, (mi_some h2).2, Evl.sz_of (by omega), fun p hp => q p _ _ hp (Evl.Ex.new hp) upd_same (res (Evl.Ex.new hp) (radds hp (ra_app v1 v2)))⟩
    · cases h
  · split at h
    · rename_i hc
      cases h
      refine ⟨_, fun X g => op_rep, fun x y H1 rx ry Q q => ?_⟩
      cases rx with
      | lst h1 v1 =>
      cases ry
      have l1 := ra_len v1
      exact ⟨_, _, _, rfl, rfl, (mi_some h1).2, hc.1, hc.2.1, Evl.sz_of (by rw [l1]; omega), fun p hp => q p _ _ hp (Evl.Ex.new hp) upd_same (res (Evl.Ex.new hp) (radds hp (ra_rep v1 _)))⟩
    · cases h
  · cases h
theorem lop_er {op : Operator} {d1 d2 : PyData} {i : Nat} : lop op d1 d2 ≠ .er i := by
  unfold lop
  split <;> (try split) <;> exact fun h => nomatch h
theorem ok_lop {op : Operator} {pos : Pos} {r1 r2 : Rs PyData} (ha : OkE P w K mg base k cl N sc W L a r1 σ H) (hb : OkE P w K mg base k cl N sc W L b r2 σ H) :
    OkN P w K mg base k cl N sc W L (.BinOp a op b pos) (r1.bind fun d1 => r2.bind fun d2 => lop op d1 d2) σ H := fun H1 x Q q => by
  by_cases hx : ∃ d1 d2 ds, r1 = .ok d1 ∧ r2 = .ok d2 ∧ lop op d1 d2 = .ok ds
  · obtain ⟨d1, d2, ds, e1, e2, hf⟩ := hx
    obtain ⟨r, hr, hs⟩ := lop_ok (P := P) (w := w) (K := K) (mg := mg) (base := base) (k := k) (N := N) (sc := sc) (W := W) (L := L) hf
    refine ⟨_, fun X g => pe_op (hr X g) (be g a) (be g b), ?_⟩
    refine ha H1 x _ ((Out.bind q).mono (Evl.Ex.refl _) fun d1' e1' s v1 H2 x2 hv1 => ?_)
    refine hb H2 (x.trans x2) _ ((Out.bind s).mono x2 fun d2' e2' s2 v2 H3 x3 hv2 => ?_)
    have z1 : d1 = d1' := by rw [e1] at e1'; cases e1'; rfl
    have z2 : d2 = d2' := by rw [e2] at e2'; cases e2'; rfl
    subst z1 z2
    rw [hf] at s2
    exact hs v1 v2 H3 (re x3 hv1) hv2 Q fun p vs H4 n4 x4 h4 hv4 => s2 p vs H4 (Evl.fresh_back (x2.trans x3) n4) ((x2.trans x3).trans x4) h4 hv4
  · refine ⟨_, fun X g => pe_op (r := fun _ _ _ _ => False) (fun _ _ _ _ _ _ _ _ _ _ _ _ h => h.elim) (be g a) (be g b), ?_⟩
    refine ha H1 x _ ((Out.bind q).mono (Evl.Ex.refl _) fun d1 e1 s v1 H2 x2 hv1 => ?_)
    refine hb H2 (x.trans x2) _ ((Out.bind s).mono x2 fun d2 e2 s2 v2 H3 x3 hv2 => ?_)
    cases hz : lop op d1 d2 with
    | ok ds => exact absurd ⟨d1, d2, ds, e1, e2, hz⟩ hx
    | er i => exact absurd hz lop_er
    | no => rw [hz] at s2; exact s2.elim
theorem ok_bop {op : Operator} {pos : Pos} {r1 r2 : Rs PyData} (hd : Dom L H) (ha : OkE P w K mg base k cl N sc W L a r1 σ H) (hb : OkE P w K mg base k cl N sc W L b r2 σ H) :
    OkE P w K mg base k cl N sc W L (.BinOp a op b pos) (r1.bind fun d1 => r2.bind fun d2 => match lop op d1 d2 with
      | .ok ds => .ok (.list ds)
      | _ => bop op d1 d2) σ H := by
  refine ok_op2 ha hb fun d1 d2 e1 e2 hf => ?_
  cases hz : lop op d1 d2 with
  | ok ds =>
    obtain ⟨r, hr, hs⟩ := lop_ok (P := P) (w := w) (K := K) (mg := mg) (base := base) (k := k) (N := N) (sc := sc) (W := W) (L := L) hz
    refine ⟨r, _, rfl, hr, fun x y H1 x1 rx ry Q q => hs x y H1 rx ry Q fun p vs H2 n x2 hp hv => q _ H2 x2 (.lst (mi_of ((hd.ex x1).nin n) hp) (rlesss (fun m hm => List.mem_cons_of_mem p hm) hv))⟩
  | er i => exact absurd hz lop_er
  | no =>
    rw [hz] at hf
    exact bop_ok hd hf
/-! comparisons -/
/-- a comparison's rule, for data (the levels may be unlike) -/
theorem hu64X {X : Cx} (g : Good P w K mg base k N sc W X) : X.A.units + 64 < cLine := DK.hu64 g.room
theorem eqD_ok {d1 d2 : PyData} (h : eqD d1 d2 ≠ .no) : ∃ (b : Bool), eqD d1 d2 = .ok b ∧ ∃ r r' : R2, (∀ X, Good P w K mg base k N sc W X → OpR X (compareOp .Eq) r ∧ OpR X (compareOp .NotEq) r') ∧
    ∀ x y H1, Rv K H1 x d1 → Rv K H1 y d2 → ∀ Q : VK, (Q (.bl b) H1 → r x y H1 Q) ∧ (Q (.bl (!b)) H1 → r' x y H1 Q) := by
  unfold eqD at h ⊢
  split at h
  · exact ⟨_, rfl, rEq, rNe, fun X g => ⟨op_eq, op_ne⟩, fun x y H1 rx ry Q => by cases rx; cases ry; exact ⟨fun q => ⟨rfl, by simpa using q⟩, fun q => ⟨rfl, by simpa using q⟩⟩⟩
  · exact ⟨_, rfl, rEq, rNe, fun X g => ⟨op_eq, op_ne⟩, fun x y H1 rx ry Q => by cases rx; cases ry; exact ⟨fun q => ⟨rfl, by simpa using q⟩, fun q => ⟨rfl, by simpa using q⟩⟩⟩
  · exact ⟨_, rfl, rEq, rNe, fun X g => ⟨op_eq, op_ne⟩, fun x y H1 rx ry Q => by cases rx; cases ry; exact ⟨fun q => ⟨rfl, by simpa using q⟩, fun q => ⟨rfl, by simpa using q⟩⟩⟩
  · exact ⟨_, rfl, rEq, rNe, fun X g => ⟨op_eq, op_ne⟩, fun x y H1 rx ry Q => by cases rx; cases ry; exact ⟨fun q => ⟨rfl, by simpa using q⟩, fun q => ⟨rfl, by simpa using q⟩⟩⟩
  · split at h
    · rename_i hc
      rw [if_pos hc]
      obtain ⟨c1, c2, c3⟩ := hc
      refine ⟨_, rfl, rEqM K, rNeM K, fun X g => ⟨by rw [← g.eK]; exact op_eqM (hu64X g), by rw [← g.eK]; exact op_neM (hu64X g)⟩, fun x y H1 rx ry Q => ⟨fun q => ?_, fun q => ?_⟩⟩
      · exact ⟨_, _, rv_dp _ _ c1 rx, rv_dp _ _ c2 ry, c1, c2, c3, q⟩
      · exact ⟨_, _, rv_dp _ _ c1 rx, rv_dp _ _ c2 ry, c1, c2, c3, q⟩
    · rename_i hc
      rw [if_neg hc]
      unfold eqX at h ⊢
      split at h
      · exact ⟨_, rfl, ZE.rEqX, ZE.rNeX, fun X g => ⟨ZE.op_eqX (by have := hu64X g; omega), ZE.op_neX (by have := hu64X g; omega)⟩, fun x y H1 rx ry Q => by
          cases rx with
          | emp h1 =>
            cases ry
            exact ⟨fun q => ⟨.inl ⟨_, _, rfl, rfl, h1⟩, q⟩, fun q => ⟨.inl ⟨_, _, rfl, rfl, h1⟩, q⟩⟩⟩
      · split at h
        · exact absurd rfl h
        · rename_i hn
          rw [if_neg hn]
          exact ⟨_, rfl, ZE.rEqX, ZE.rNeX, fun X g => ⟨ZE.op_eqX (by have := hu64X g; omega), ZE.op_neX (by have := hu64X g; omega)⟩, fun x y H1 rx ry Q => by
            cases rx with
            | lst h1 r1 =>
              cases ry with
              | lst h2 r2 =>
                have l1 := ra_len r1
                have l2 := ra_len r2
                exact ⟨fun q => ⟨.inr (.inl ⟨_, _, _, _, rfl, rfl, h1, h2, by omega⟩), q⟩, fun q => ⟨.inr (.inl ⟨_, _, _, _, rfl, rfl, h1, h2, by omega⟩), q⟩⟩⟩
      · exact ⟨_, rfl, ZE.rEqX, ZE.rNeX, fun X g => ⟨ZE.op_eqX (by have := hu64X g; omega), ZE.op_neX (by have := hu64X g; omega)⟩, fun x y H1 rx ry Q => by
          cases rx with
          | tup h1 r1 =>
            cases r1 with
            | cons r1 r3 =>
              cases ry with
              | tup h2 r2 =>
                cases r2
                exact ⟨fun q => ⟨.inr (.inr ⟨_, _, _, _, rfl, rfl, h1, h2⟩), q⟩, fun q => ⟨.inr (.inr ⟨_, _, _, _, rfl, rfl, h1, h2⟩), q⟩⟩⟩
      · exact absurd rfl h
theorem all_str : ∀ {ds : List PyData} {vs : List V} {H1 : Hp}, RvA K H1 vs ds → ds.all isStr = true → ∀ v ∈ vs, ∃ z, v = .str z
  | [], _, _, .nil, _, v, h => nomatch h
  | d :: ds, _, _, .cons r t, hs, v, h => by
    rw [List.all_cons, Bool.and_eq_true] at hs
    rcases List.mem_cons.mp h with rfl | h
    · cases r <;> first | exact ⟨_, rfl⟩ | exact nomatch hs.1
    · exact all_str t hs.2 v h
theorem inX_ok {d : PyData} {ds : List PyData} (h : inX d ds ≠ .no) : inX d ds = .ok false ∧ ∀ x y (H1 : Hp), Rv K H1 x d → Rv K H1 y (.list ds) → ZE.DcL x y H1 := by
  unfold inX at h ⊢
  split at h
  · split at h
    · rename_i hs
      rw [if_pos hs]
      refine ⟨rfl, fun x y H1 rx ry => ?_⟩
      cases rx with
      | emp h1 =>
        cases ry with
        | lst h2 r2 => exact ⟨_, _, _, rfl, rfl, h1, h2, all_str r2 hs⟩
    · exact absurd rfl h
  · exact absurd rfl h
theorem cmp_ok {op : CmpOp} {d1 d2 : PyData} (h : cmp op d1 d2 ≠ .no) : ∃ (b : Bool), cmp op d1 d2 = .ok b ∧ ∃ r : R2, (∀ X, Good P w K mg base k N sc W X → OpR X (compareOp op) r) ∧
    ∀ x y H1, Rv K H1 x d1 → Rv K H1 y d2 → ∀ Q : VK, Q (.bl b) H1 → r x y H1 Q := by
  cases op with
  | Eq =>
    obtain ⟨b, e, r, r', h1, h2⟩ := eqD_ok (P := P) (w := w) (K := K) (mg := mg) (base := base) (k := k) (N := N) (sc := sc) (W := W) (d1 := d1) (d2 := d2) h
    exact ⟨b, e, r, fun X g => (h1 X g).1, fun x y H1 rx ry Q => (h2 x y H1 rx ry Q).1⟩
  | NotEq =>
    have h' : eqD d1 d2 ≠ .no := fun z => by
      unfold cmp at h
      rw [z] at h
      exact h rfl
    obtain ⟨b, e, r, r', h1, h2⟩ := eqD_ok (P := P) (w := w) (K := K) (mg := mg) (base := base) (k := k) (N := N) (sc := sc) (W := W) h'
    exact ⟨!b, by unfold cmp; rw [e] <;> rfl, r', fun X g => (h1 X g).2, fun x y H1 rx ry Q => (h2 x y H1 rx ry Q).2⟩
  | Lt =>
    simp only [cmp] at h ⊢
    split at h
    · exact ⟨_, rfl, _, fun X g => op_lt, fun x y H1 rx ry Q q => by cases rx; cases ry; exact ⟨_, _, rfl, rfl, q⟩⟩
    · exact absurd rfl h
  | LtE =>
    simp only [cmp] at h ⊢
    split at h
    · exact ⟨_, rfl, _, fun X g => op_le, fun x y H1 rx ry Q q => by cases rx; cases ry; exact ⟨_, _, rfl, rfl, q⟩⟩
    · exact absurd rfl h
  | Gt =>
    simp only [cmp] at h ⊢
    split at h
    · exact ⟨_, rfl, _, fun X g => op_gt, fun x y H1 rx ry Q q => by cases rx; cases ry; exact ⟨_, _, rfl, rfl, q⟩⟩
    · exact absurd rfl h
  | GtE =>
    simp only [cmp] at h ⊢
    split at h
    · exact ⟨_, rfl, _, fun X g => op_ge, fun x y H1 rx ry Q q => by cases rx; cases ry; exact ⟨_, _, rfl, rfl, q⟩⟩
    · exact absurd rfl h
  | Is =>
    simp only [cmp] at h ⊢
    split at h
    · refine ⟨_, rfl, _, fun X g => op_isN, fun x y H1 rx ry Q q => ?_⟩
      cases ry
      refine ⟨rfl, ?_⟩
      cases rx <;> simpa using q
    · exact absurd rfl h
  | IsNot =>
    simp only [cmp] at h ⊢
    split at h
    · refine ⟨_, rfl, _, fun X g => op_notN, fun x y H1 rx ry Q q => ?_⟩
      cases ry
      refine ⟨rfl, ?_⟩
      cases rx <;> simpa using q
    · exact absurd rfl h
  | In =>
    simp only [cmp] at h ⊢
    split at h
    · split at h
      · rename_i hc
        rw [if_pos hc]
        refine ⟨_, rfl, rInD K, fun X g => by rw [← g.eK]; exact op_inD (by have := g.room.un; omega), fun x y H1 rx ry Q q => ?_⟩
        exact ⟨_, _, rv_dp _ _ (SeqAt.canLay_of_shaped hc.1) rx, rv_dp _ _ (SeqAt.canLay_of_shaped hc.2) ry, hc.1, hc.2, q⟩
      · rename_i hc
        rw [if_neg hc]
        obtain ⟨e, k1⟩ := inX_ok (K := K) h
        rw [e]
        exact ⟨_, rfl, ZE.rInX, fun X g => ZE.op_inX (by have := hu64X g; omega), fun x y H1 rx ry Q q => ⟨k1 x y H1 rx ry, q⟩⟩
    · exact absurd rfl h
  | NotIn =>
    simp only [cmp] at h ⊢
    split at h
    · split at h
      · rename_i hc
        rw [if_pos hc]
        refine ⟨_, rfl, rNotInD K, fun X g => by rw [← g.eK]; exact op_notInD (by have := g.room.un; omega), fun x y H1 rx ry Q q => ?_⟩
        exact ⟨_, _, rv_dp _ _ (SeqAt.canLay_of_shaped hc.1) rx, rv_dp _ _ (SeqAt.canLay_of_shaped hc.2) ry, hc.1, hc.2, q⟩
      · rename_i hc
        rw [if_neg hc]
        obtain ⟨e, k1⟩ := inX_ok (K := K) (fun z => h (by rw [z] <;> rfl))
        rw [e]
        exact ⟨_, rfl, ZE.rNiX, fun X g => ZE.op_niX (by have := hu64X g; omega), fun x y H1 rx ry Q q => ⟨k1 x y H1 rx ry, q⟩⟩
    · exact absurd rfl h
theorem noSet_marks {b : Expr} {op : CmpOp} (h : noSet b = true) : behindInMarks op b = false := by
  cases b <;> first | rfl | cases h
/-- the reading of a comparison -/
def TCmp (P : Program) (w : World) (K : PySem.W.Frag) (mg : Str → Option Value) (base : Heap) (k : Nat) (N : List Str) (sc : Scope) (W : WX) (a : Expr) (ops : List CmpOp) (bs : List Expr) (t : TE) : Prop :=
  ∀ X, Good P w K mg base k N sc W X → ∀ pos, PE X (.Compare a ops bs pos) t ∧ PT X (.Compare a ops bs pos) (tTest t)
theorem opNo {X : Cx} {f : Value → Value → Sem Value} : OpR X f (fun _ _ _ _ => False) := fun _ _ _ _ _ _ _ _ _ _ _ _ h => h.elim
theorem ok_cmps {r1 : Rs PyData} {f : Expr → Rs PyData} {ops : List CmpOp} {bs : List Expr} (hF : cmpF ops bs = true) (ha : OkE P w K mg base k cl N sc W L a r1 σ H) (hb : ∀ b, OkE P w K mg base k cl N sc W L b (f b) σ H) :
    ∀ H1, Evl.Ex H H1 → ∀ Q : VK, Out cl W σ H1 (r1.bind fun d => cmps f d ops bs) (fun b => ∀ H2, Evl.Ex H1 H2 → Q (.bl b) H2) → ∃ t, TCmp P w K mg base k N sc W a ops bs t ∧ t σ H1 Q := fun H1 x Q q => by
  match ops, bs, hF with
  | [op], [b], hF =>
    have hs : noSet b = true := hF
    by_cases hx : ∃ d1 d2, r1 = .ok d1 ∧ f b = .ok d2 ∧ cmp op d1 d2 ≠ .no
    · obtain ⟨d1, d2, e1, e2, hf⟩ := hx
      obtain ⟨v, ev, r, hr, hS⟩ := cmp_ok (P := P) (w := w) (K := K) (mg := mg) (base := base) (k := k) (N := N) (sc := sc) (W := W) hf
      refine ⟨tOp r (tB P w K mg base k N sc W a) (tB P w K mg base k N sc W b), fun X g pos => ⟨pe_cmpR (hr X g) (be g a) (be g b) (noSet_marks hs), pt_cmpR (hr X g) (be g a) (be g b) (noSet_marks hs)⟩, ?_⟩
      refine ha H1 x _ ((Out.bind q).mono (Evl.Ex.refl _) fun d1' e1' s v1 H2 x2 hv1 => ?_)
      have z1 : d1 = d1' := by rw [e1] at e1'; cases e1'; rfl
      subst z1
      refine hb b H2 (x.trans x2) _ ((Out.bind s).mono x2 fun d2' e2' s2 v2 H3 x3 hv2 => ?_)
      have z2 : d2 = d2' := by rw [e2] at e2'; cases e2'; rfl
      subst z2
      rw [ev] at s2
      exact hS v1 v2 H3 (rfull (re x3 hv1)) (rfull hv2) Q (s2 H3 (x2.trans x3))
    · refine ⟨tOp (fun _ _ _ _ => False) (tB P w K mg base k N sc W a) (tB P w K mg base k N sc W b), fun X g pos => ⟨pe_cmpR opNo (be g a) (be g b) (noSet_marks hs), pt_cmpR opNo (be g a) (be g b) (noSet_marks hs)⟩, ?_⟩
      refine ha H1 x _ ((Out.bind q).mono (Evl.Ex.refl _) fun d1 e1 s v1 H2 x2 hv1 => ?_)
      refine hb b H2 (x.trans x2) _ ((Out.bind s).mono x2 fun d2 e2 s2 v2 H3 x3 hv2 => ?_)
      have hz : cmp op d1 d2 = .no := Classical.byContradiction fun z => hx ⟨d1, d2, e1, e2, z⟩
      rw [hz] at s2
      exact s2.elim
  | [op, op'], [b, e], hF =>
    have hs : noSet e = true := hF
    have hm : lastMarks [op, op'] [b, e] = false := noSet_marks (op := op') hs
    by_cases hx : ∃ d1 d2, r1 = .ok d1 ∧ f b = .ok d2 ∧ cmp op d1 d2 ≠ .no
    · obtain ⟨d1, d2, e1, e2, hf⟩ := hx
      obtain ⟨v, ev, r, hr, hS⟩ := cmp_ok (P := P) (w := w) (K := K) (mg := mg) (base := base) (k := k) (N := N) (sc := sc) (W := W) hf
      by_cases hy : ∃ d3, f e = .ok d3 ∧ cmp op' d2 d3 ≠ .no
      · obtain ⟨d3, e3, hf'⟩ := hy
        obtain ⟨v', ev', r', hr', hS'⟩ := cmp_ok (P := P) (w := w) (K := K) (mg := mg) (base := base) (k := k) (N := N) (sc := sc) (W := W) hf'
        refine ⟨tChain r r' (tB P w K mg base k N sc W a) (tB P w K mg base k N sc W b) (tB P w K mg base k N sc W e), fun X g pos => ⟨pe_chain (hr X g) (hr' X g) (be g a) (be g b) (be g e) hm, pt_chain (hr X g) (hr' X g) (be g a) (be g b) (be g e) hm⟩, ?_⟩
        refine ha H1 x _ ((Out.bind q).mono (Evl.Ex.refl _) fun d1' e1' s v1 H2 x2 hv1 => ?_)
        have z1 : d1 = d1' := by rw [e1] at e1'; cases e1'; rfl
        subst z1
        refine hb b H2 (x.trans x2) _ ((Out.bind s).mono x2 fun d2' e2' s2 v2 H3 x3 hv2 => ?_)
        have z2 : d2 = d2' := by rw [e2] at e2'; cases e2'; rfl
        subst z2
        rw [ev] at s2
        refine hS v1 v2 H3 (rfull (re x3 hv1)) (rfull hv2) _ ⟨v, rfl, ?_⟩
        cases v with
        | false => exact s2 H3 (x2.trans x3)
        | true =>
          refine hb e H3 ((x.trans x2).trans x3) _ ((Out.bind (r := f e) (f := fun z => cmp op' d2 z) s2).mono (x2.trans x3) fun d3' e3' s3 v3 H4 x4 hv3 => ?_)
          have z3 : d3 = d3' := by rw [e3] at e3'; cases e3'; rfl
          subst z3
          rw [ev'] at s3
          exact hS' v2 v3 H4 (rfull (re x4 hv2)) (rfull hv3) Q (s3 H4 ((x2.trans x3).trans x4))
      · refine ⟨tChain r (fun _ _ _ _ => False) (tB P w K mg base k N sc W a) (tB P w K mg base k N sc W b) (tB P w K mg base k N sc W e), fun X g pos => ⟨pe_chain (hr X g) opNo (be g a) (be g b) (be g e) hm, pt_chain (hr X g) opNo (be g a) (be g b) (be g e) hm⟩, ?_⟩
        refine ha H1 x _ ((Out.bind q).mono (Evl.Ex.refl _) fun d1' e1' s v1 H2 x2 hv1 => ?_)
        have z1 : d1 = d1' := by rw [e1] at e1'; cases e1'; rfl
        subst z1
        refine hb b H2 (x.trans x2) _ ((Out.bind s).mono x2 fun d2' e2' s2 v2 H3 x3 hv2 => ?_)
        have z2 : d2 = d2' := by rw [e2] at e2'; cases e2'; rfl
        subst z2
        rw [ev] at s2
        refine hS v1 v2 H3 (rfull (re x3 hv1)) (rfull hv2) _ ⟨v, rfl, ?_⟩
        cases v with
        | false => exact s2 H3 (x2.trans x3)
        | true =>
          refine hb e H3 ((x.trans x2).trans x3) _ ((Out.bind (r := f e) (f := fun z => cmp op' d2 z) s2).mono (x2.trans x3) fun d3 e3 s3 v3 H4 x4 hv3 => ?_)
          have hz : cmp op' d2 d3 = .no := Classical.byContradiction fun z => hy ⟨d3, e3, z⟩
          rw [hz] at s3
          exact s3.elim
    · refine ⟨tChain (fun _ _ _ _ => False) (fun _ _ _ _ => False) (tB P w K mg base k N sc W a) (tB P w K mg base k N sc W b) (tB P w K mg base k N sc W e), fun X g pos => ⟨pe_chain opNo opNo (be g a) (be g b) (be g e) hm, pt_chain opNo opNo (be g a) (be g b) (be g e) hm⟩, ?_⟩
      refine ha H1 x _ ((Out.bind q).mono (Evl.Ex.refl _) fun d1 e1 s v1 H2 x2 hv1 => ?_)
      refine hb b H2 (x.trans x2) _ ((Out.bind s).mono x2 fun d2 e2 s2 v2 H3 x3 hv2 => ?_)
      have hz : cmp op d1 d2 = .no := Classical.byContradiction fun z => hx ⟨d1, d2, e1, e2, z⟩
      rw [hz] at s2
      exact s2.elim
theorem ok_cmpE {r1 : Rs PyData} {f : Expr → Rs PyData} {ops : List CmpOp} {bs : List Expr} {pos : Pos} {L0 : List Addr} (hF : cmpF ops bs = true) (ha : OkE P w K mg base k cl N sc W L0 a r1 σ H) (hb : ∀ b, OkE P w K mg base k cl N sc W L0 b (f b) σ H) :
    OkE P w K mg base k cl N sc W L (.Compare a ops bs pos) ((r1.bind fun d => cmps f d ops bs).bind fun b => .ok (.bool b)) σ H := fun H1 x Q q => by
  obtain ⟨t, ht, hq⟩ := ok_cmps hF ha hb H1 x Q ((Out.bind q).mono (Evl.Ex.refl _) fun b _ s H2 x2 => s _ H2 x2 (.bl b))
  exact ⟨t, fun X g => (ht X g pos).1, hq⟩
theorem ok_cmpT {r1 : Rs PyData} {f : Expr → Rs PyData} {ops : List CmpOp} {bs : List Expr} {pos : Pos} {L0 : List Addr} (hF : cmpF ops bs = true) (ha : OkE P w K mg base k cl N sc W L0 a r1 σ H) (hb : ∀ b, OkE P w K mg base k cl N sc W L0 b (f b) σ H) :
    OkT P w K mg base k cl N sc W (.Compare a ops bs pos) (r1.bind fun d => cmps f d ops bs) σ H := fun H1 x Q q => by
  obtain ⟨t, ht, hq⟩ := ok_cmps hF ha hb H1 x (fun v H' => ∃ b, v = .bl b ∧ Q b H') (q.mono (Evl.Ex.refl _) fun b _ s H2 x2 => ⟨b, rfl, s H2 x2⟩)
  exact ⟨tTest t, fun X g => (ht X g pos).2, hq⟩
/-! not, and, or -/
theorem ok_neg {pos : Pos} (ha : OkE P w K mg base k cl N sc W L a r σ H) : OkE P w K mg base k cl N sc W L (.UnaryOp .USub a pos) (r.bind fun x => match x with | .int i => .ok (.int (-i)) | _ => .no) σ H := fun H1 x Q q => by
  refine ⟨_, fun X g => pe_un un_neg (be g a), ?_⟩
  refine ha H1 x _ ((Out.bind q).mono (Evl.Ex.refl _) fun d e1 s v1 H2 x2 hv1 => ?_)
  split at s
  · obtain rfl := rInt hv1
    exact ⟨_, rfl, s _ H2 x2 (.int _)⟩
  · exact s.elim
theorem ok_notE {pos : Pos} {L0 : List Addr} (ha : OkE P w K mg base k cl N sc W L0 a r σ H) : OkE P w K mg base k cl N sc W L (.UnaryOp .Not a pos) (r.bind fun x => match x with | .bool b => .ok (.bool !b) | _ => .no) σ H := fun H1 x Q q => by
  refine ⟨_, fun X g => pe_not (be g a), ?_⟩
  refine ha H1 x _ ((Out.bind q).mono (Evl.Ex.refl _) fun d e1 s v1 H2 x2 hv1 => ?_)
  split at s
  · obtain rfl := rBl hv1
    exact ⟨_, rfl, s _ H2 x2 (.bl _)⟩
  · exact s.elim
theorem ok_andE {f : Expr → Rs PyData} {pos : Pos} (h : ∀ e, OkE P w K mg base k cl N sc W L e (f e) σ H) : ∀ es, OkE P w K mg base k cl N sc W L (.BoolOp .And es pos) (andD f es) σ H
  | [] => fun H1 x Q q => q.elim
  | [e] => fun H1 x Q q => ⟨_, fun X g => pe_one (be g e), h e H1 x Q q⟩
  | e :: e2 :: es => fun H1 x Q q => by
    refine ⟨_, fun X g => pe_and (be g e) (be g (.BoolOp .And (e2 :: es) pos)), ?_⟩
    refine h e H1 x _ ((Out.bind (r := f e) q).mono (Evl.Ex.refl _) fun d e1 s v1 H2 x2 hv1 => ?_)
    split at s
    · obtain rfl := rBl hv1
      refine ⟨_, rfl, ?_⟩
      rw [if_pos rfl]
      exact ok_andE h (e2 :: es) H2 (x.trans x2) Q (s.mono x2 fun d _ s v H3 x3 hv => s v H3 (x2.trans x3) hv)
    · obtain rfl := rBl hv1
      refine ⟨_, rfl, ?_⟩
      rw [if_neg Bool.false_ne_true]
      exact s _ H2 x2 (.bl _)
    · exact s.elim
theorem ok_orE {f : Expr → Rs PyData} {pos : Pos} (h : ∀ e, OkE P w K mg base k cl N sc W L e (f e) σ H) : ∀ es, OkE P w K mg base k cl N sc W L (.BoolOp .Or es pos) (orD f es) σ H
  | [] => fun H1 x Q q => q.elim
  | [e] => fun H1 x Q q => ⟨_, fun X g => pe_one (be g e), h e H1 x Q q⟩
  | e :: e2 :: es => fun H1 x Q q => by
    refine ⟨_, fun X g => pe_or (be g e) (be g (.BoolOp .Or (e2 :: es) pos)), ?_⟩
    refine h e H1 x _ ((Out.bind (r := f e) q).mono (Evl.Ex.refl _) fun d e1 s v1 H2 x2 hv1 => ?_)
    split at s
    · obtain rfl := rBl hv1
      refine ⟨_, rfl, ?_⟩
      rw [if_neg Bool.false_ne_true]
      exact ok_orE h (e2 :: es) H2 (x.trans x2) Q (s.mono x2 fun d _ s v H3 x3 hv => s v H3 (x2.trans x3) hv)
    · obtain rfl := rBl hv1
      refine ⟨_, rfl, ?_⟩
      rw [if_pos rfl]
      exact s _ H2 x2 (.bl _)
    · exact s.elim
def OkW (P : Program) (w : World) (K : PySem.W.Frag) (mg : Str → Option Value) (base : Heap) (k : Nat) (cl : Nat → Addr) (N : List Str) (sc : Scope) (W : WX) (e : Expr) (r : Rs Bool) (σ : L2.St) (H : Hp) : Prop :=
  ∀ H1, Evl.Ex H H1 → ∀ Q : Bool → Hp → Prop, Out cl W σ H1 r (fun b => ∀ H2, Evl.Ex H1 H2 → Q b H2) → tBW P w K mg base k N sc W e σ H1 Q
theorem OkW.toT {r : Rs Bool} (h : OkW P w K mg base k cl N sc W e r σ H) : OkT P w K mg base k cl N sc W e r σ H := fun H1 x Q q => by
  obtain ⟨t, ht, hq⟩ := h H1 x Q q
  exact ⟨t, fun X g => (ht X g).pt, hq⟩
theorem ok_andT {f : Expr → Rs Bool} {pos : Pos} (h : ∀ e, OkT P w K mg base k cl N sc W e (f e) σ H) : ∀ es, OkW P w K mg base k cl N sc W (.BoolOp .And es pos) (andT f es) σ H
  | [] => fun H1 x Q q => q.elim
  | [e] => fun H1 x Q q => ⟨_, fun X g => pw_and1 (bt g e), h e H1 x Q q⟩
  | e :: e2 :: es => fun H1 x Q q => by
    refine ⟨_, fun X g => pw_and (bt g e) (bw g (.BoolOp .And (e2 :: es) pos)), ?_⟩
    refine h e H1 x _ ((Out.bind (r := f e) q).mono (Evl.Ex.refl _) fun d e1 s H2 x2 => ?_)
    cases d with
    | true =>
      rw [if_pos rfl] at s ⊢
      exact ok_andT h (e2 :: es) H2 (x.trans x2) Q (s.mono x2 fun d _ s H3 x3 => s H3 (x2.trans x3))
    | false =>
      rw [if_neg Bool.false_ne_true] at s ⊢
      exact s H2 x2
theorem ok_orT {f : Expr → Rs Bool} {pos : Pos} (h : ∀ e, OkT P w K mg base k cl N sc W e (f e) σ H) : ∀ es, OkW P w K mg base k cl N sc W (.BoolOp .Or es pos) (orT f es) σ H
  | [] => fun H1 x Q q => q.elim
  | [e] => fun H1 x Q q => ⟨_, fun X g => pw_or1 (bt g e), h e H1 x Q q⟩
  | e :: e2 :: es => fun H1 x Q q => by
    refine ⟨_, fun X g => pw_or (bt g e) (bw g (.BoolOp .Or (e2 :: es) pos)), ?_⟩
    refine h e H1 x _ ((Out.bind (r := f e) q).mono (Evl.Ex.refl _) fun d e1 s H2 x2 => ?_)
    cases d with
    | false =>
      rw [if_neg Bool.false_ne_true] at s ⊢
      exact ok_orT h (e2 :: es) H2 (x.trans x2) Q (s.mono x2 fun d _ s H3 x3 => s H3 (x2.trans x3))
    | true =>
      rw [if_pos rfl] at s ⊢
      exact s H2 x2
theorem ok_notT {r : Rs Bool} {pos : Pos} (ha : OkT P w K mg base k cl N sc W a r σ H) : OkT P w K mg base k cl N sc W (.UnaryOp .Not a pos) (r.bind fun b => .ok !b) σ H := fun H1 x Q q =>
  ⟨_, fun X g => pt_not (bt g a), ha H1 x _ ((Out.bind q).mono (Evl.Ex.refl _) fun b _ s H2 x2 => s H2 x2)⟩
theorem ra_empty {vs : List V} {ds : List PyData} (h : RvA K H vs ds) : vs.isEmpty = ds.isEmpty := by
  cases h <;> rfl
theorem tru_rv {d : PyData} {v : V} (h : tru d ≠ .no) (hv : Rv K H v d) : ∃ b, tru d = .ok b ∧ TruV K v H b := by
  unfold tru at h ⊢
  split at h
  · cases hv
    exact ⟨_, rfl, rfl⟩
  · cases hv with
    | lst h1 h2 => exact ⟨_, rfl, .inl ⟨_, Evl.sq_of h1, by rw [ra_empty h2]⟩⟩
  · cases hv with
    | tup h1 h2 => exact ⟨_, rfl, .inr (.inl ⟨_, Evl.st_of h1, by rw [ra_empty h2]⟩)⟩
  · exact absurd rfl h
theorem tru_er {d : PyData} {i : Nat} : tru d ≠ .er i := by
  unfold tru
  split <;> exact fun h => nomatch h
theorem ok_valT {L0 : List Addr} (hv : valT e = true) (h : OkE P w K mg base k cl N sc W L0 e r σ H) : OkT P w K mg base k cl N sc W e (r.bind tru) σ H := fun H1 x Q q => by
  refine ⟨fun σ H Q => tB P w K mg base k N sc W e σ H fun x H' => ∃ k, TruV K x H' k ∧ Q k H', fun X g => by
    have z := pt_truth (be g e) (val_is hv)
    rw [g.eK] at z
    exact z, ?_⟩
  refine h H1 x _ ((Out.bind q).mono (Evl.Ex.refl _) fun d _ s v H2 x2 hv2 => ?_)
  have hn : tru d ≠ .no := fun z => by
    rw [z] at s
    exact s.elim
  obtain ⟨b, e1, e2⟩ := tru_rv hn (rfull hv2)
  rw [e1] at s
  exact ⟨b, e2, s H2 x2⟩
theorem ok_if {t : Expr} {rt : Rs Bool} {r1 r2 : Rs PyData} {pos : Pos} (ht : OkT P w K mg base k cl N sc W t rt σ H) (ha : OkE P w K mg base k cl N sc W L a r1 σ H) (hb : OkE P w K mg base k cl N sc W L b r2 σ H) :
    OkE P w K mg base k cl N sc W L (.IfExp t a b pos) (rt.bind fun x => if x then r1 else r2) σ H := fun H1 x Q q => by
  refine ⟨_, fun X g => pe_ifExp (bt g t) (be g a) (be g b), ?_⟩
  refine ht H1 x _ ((Out.bind q).mono (Evl.Ex.refl _) fun c _ s H2 x2 => ?_)
  cases c with
  | true =>
    rw [if_pos rfl] at s ⊢
    exact ha H2 (x.trans x2) Q (s.mono x2 fun d _ s v H3 x3 hv => s v H3 (x2.trans x3) hv)
  | false =>
    rw [if_neg Bool.false_ne_true] at s ⊢
    exact hb H2 (x.trans x2) Q (s.mono x2 fun d _ s v H3 x3 hv => s v H3 (x2.trans x3) hv)
/-! subscripts -/
def rIx (K : PySem.W.Frag) : R2 := fun x y H Q => rIxL K x y H Q ∨ rIxT K x y H Q ∨ rIxS x y H Q
theorem ixr_or {X : Cx} {r r' : R2} (h : IxR X r) (h' : IxR X r') : IxR X (fun x y H Q => r x y H Q ∨ r' x y H Q) := fun a b c d e f g h1 h2 h3 h4 i j l m => m.elim (h a b c d e f g h1 h2 h3 h4 i j l) (h' a b c d e f g h1 h2 h3 h4 i j l)
theorem ix_any {X : Cx} : IxR X (rIx X.K) := ixr_or ix_list (ixr_or ix_tup ix_str)
theorem ok_ix {pos : Pos} {r1 r2 : Rs PyData} {L0 : List Addr} (hp : plainI b = true) (ha : OkE P w K mg base k cl N sc W L a r1 σ H) (hb : OkE P w K mg base k cl N sc W L0 b r2 σ H) :
    OkE P w K mg base k cl N sc W L (.Subscript a b pos) (r1.bind fun x => r2.bind fun y => ix x y) σ H := fun H1 x Q q => by
  refine ⟨_, fun X g => pe_ix (r := rIx K) (by rw [← g.eK]; exact ix_any) (be g a) (be g b) (plain_ix hp), ?_⟩
  refine ha H1 x _ ((Out.bind q).mono (Evl.Ex.refl _) fun d1 _ s v1 H2 x2 hv1 => ?_)
  refine hb H2 (x.trans x2) _ ((Out.bind s).mono x2 fun d2 _ s2 v2 H3 x3 hv2 => ?_)
  have hv1' := re x3 hv1
  have x23 := x2.trans x3
  unfold ix at s2
  split at s2
  · split at s2
    · rename_i d hd
      cases hv1' with
      | lst h1 h2 =>
        obtain rfl := rInt hv2
        obtain ⟨u, hu, ru⟩ := ra_at h2 hd
        exact .inl ⟨_, _, _, u, rfl, rfl, Evl.sq_of (mi_some h1).2, hu, s2 u H3 x23 ru⟩
    · exact s2.elim
  · split at s2
    · rename_i d hd
      cases hv1' with
      | tup h1 h2 =>
        obtain rfl := rInt hv2
        obtain ⟨u, hu, ru⟩ := ra_at h2 hd
        exact .inr (.inl ⟨_, _, _, u, rfl, rfl, Evl.st_of (mi_some h1).2, hu, s2 u H3 x23 ru⟩)
    · exact s2.elim
  · split at s2
    · rename_i hz
      split at s2
      · rename_i d hd
        obtain rfl := rStr hv1'
        obtain rfl := rInt hv2
        exact .inr (.inr ⟨_, _, _, rfl, rfl, Evl.sz_of hz, hd, s2 _ H3 x23 (.str _)⟩)
      · exact s2.elim
    · exact s2.elim
  · exact s2.elim
/-- an optional part of a slice -/
def OkO (P : Program) (w : World) (K : PySem.W.Frag) (mg : Str → Option Value) (base : Heap) (k : Nat) (cl : Nat → Addr) (N : List Str) (sc : Scope) (W : WX) (o : Option Expr) (r : Rs (Option Int)) (σ : L2.St) (H : Hp) : Prop :=
  ∃ t : TO, (∀ X, Good P w K mg base k N sc W X → PO X o t) ∧ ∀ H1, Evl.Ex H H1 → ∀ Q : Option Int → Hp → Prop, Out cl W σ H1 r (fun i => ∀ H2, Evl.Ex H1 H2 → Q i H2) → t σ H1 Q
theorem ok_opt {f : Expr → Rs PyData} {L0 : List Addr} (h : ∀ e, OkE P w K mg base k cl N sc W L0 e (f e) σ H) : ∀ o, OkO P w K mg base k cl N sc W o (optI f o) σ H
  | none => ⟨_, fun X g => po_none, fun H1 x Q q => q H1 (Evl.Ex.refl _)⟩
  | some e => ⟨_, fun X g => po_some (be g e), fun H1 x Q q => h e H1 x _ ((Out.bind (r := f e) q).mono (Evl.Ex.refl _) fun d _ s v H2 x2 hv => by
      split at s
      · obtain rfl := rInt hv
        exact ⟨_, rfl, s H2 x2⟩
      · exact s.elim)⟩
/-- slices -/
theorem ok_slN {pos p2 : Pos} {lo hi : Option Expr} {r1 : Rs PyData} {rl rh : Rs (Option Int)} (ha : OkE P w K mg base k cl N sc W L a r1 σ H) (hl : OkO P w K mg base k cl N sc W lo rl σ H) (hh : OkO P w K mg base k cl N sc W hi rh σ H) :
    OkN P w K mg base k cl N sc W L (.Subscript a (.Slice lo hi none p2) pos) (r1.bind fun x => rl.bind fun i => rh.bind fun j => match x with
      | .list ds => .ok (cutD ds i j)
      | _ => .no) σ H := fun H1 x Q q => by
  obtain ⟨tl, hl1, hl2⟩ := hl
  obtain ⟨th, hh1, hh2⟩ := hh
  refine ⟨_, fun X g => pe_slice (r := rSlL K) (by rw [← g.eK]; exact sl_list) (be g a) (hl1 X g) (hh1 X g), ?_⟩
  refine ha H1 x _ ((Out.bind q).mono (Evl.Ex.refl _) fun d1 _ s v1 H2 x2 hv1 => ?_)
  refine hl2 H2 (x.trans x2) _ ((Out.bind s).mono x2 fun i _ s2 H3 x3 => ?_)
  refine hh2 H3 ((x.trans x2).trans x3) _ ((Out.bind s2).mono (x2.trans x3) fun j _ s3 H4 x4 => ?_)
  have hv4 := re (x3.trans x4) hv1
  split at s3
  · cases hv4 with
    | lst h1 h2 =>
      rename_i a2 xs
      refine ⟨_, _, rfl, Evl.sq_of (mi_some h1).2, fun p hp => ?_⟩
      have eX := Evl.Ex.new (o := .lst (cutV xs i j)) hp
      refine s3 p _ _ (Evl.fresh_back ((x2.trans x3).trans x4) hp) (((x2.trans x3).trans x4).trans eX) upd_same (res eX (radds hp ?_))
      unfold cutV cutD
      rw [ra_len h2]
      exact ra_take _ (ra_drop _ h2)
  · exact s3.elim
theorem cutD_all {ds : List PyData} {i j : Option Int} (h : HT.sIx ds.length 0 i = 0 ∧ HT.sIx ds.length ds.length j = ds.length) : cutD ds i j = ds := by
  unfold cutD
  rw [h.1, h.2, List.drop_zero, Nat.sub_zero, List.take_length]
theorem ok_sl {pos p2 : Pos} {lo hi : Option Expr} {r1 : Rs PyData} {rl rh : Rs (Option Int)} (hd : Dom L H) (ha : OkE P w K mg base k cl N sc W L a r1 σ H) (hl : OkO P w K mg base k cl N sc W lo rl σ H) (hh : OkO P w K mg base k cl N sc W hi rh σ H) :
    OkE P w K mg base k cl N sc W L (.Subscript a (.Slice lo hi none p2) pos) (r1.bind fun x => rl.bind fun i => rh.bind fun j => match x with
      | .list ds => .ok (.list (cutD ds i j))
      | _ => slc x i j) σ H := fun H1 x Q q => by
  obtain ⟨tl, hl1, hl2⟩ := hl
  obtain ⟨th, hh1, hh2⟩ := hh
  refine ⟨_, fun X g => pe_slice (r := fun x lo hi H Q => rSlL K x lo hi H Q ∨ (rSlA K x lo hi H Q ∨ rSlS x lo hi H Q)) (by rw [← g.eK]; exact sl_list.or (sl_tupA.or sl_str)) (be g a) (hl1 X g) (hh1 X g), ?_⟩
  refine ha H1 x _ ((Out.bind q).mono (Evl.Ex.refl _) fun d1 _ s v1 H2 x2 hv1 => ?_)
  refine hl2 H2 (x.trans x2) _ ((Out.bind s).mono x2 fun i _ s2 H3 x3 => ?_)
  refine hh2 H3 ((x.trans x2).trans x3) _ ((Out.bind s2).mono (x2.trans x3) fun j _ s3 H4 x4 => ?_)
  have hv4 := re (x3.trans x4) hv1
  have x24 := (x2.trans x3).trans x4
  split at s3
  · cases hv4 with
    | lst h1 h2 =>
      rename_i a2 xs
      refine .inl ⟨_, _, rfl, Evl.sq_of (mi_some h1).2, fun p hp => ?_⟩
      have eX := Evl.Ex.new (o := .lst (cutV xs i j)) hp
      refine s3 _ _ (x24.trans eX) (.lst (mi_of ((hd.ex (x.trans x24)).nin hp) upd_same) (res eX ?_))
      unfold cutV cutD
      rw [ra_len h2]
      exact ra_take _ (ra_drop _ h2)
  · rename_i d1 _
    unfold slc at s3
    split at s3
    · cases hv4 with
      | tup h1 h2 =>
        rename_i a2 xs
        refine .inr (.inl ⟨a2, xs, rfl, Evl.st_of (mi_some h1).2, fun hz => ?_, fun hz p hp => ?_⟩)
        · rw [ra_len h2] at hz
          rw [cutD_all hz] at s3
          exact s3 _ H4 x24 (.tup h1 h2)
        · have eX := Evl.Ex.new (o := .tup (cutV xs i j)) hp
          refine s3 _ _ (x24.trans eX) (.tup (mi_of ((hd.ex (x.trans x24)).nin hp) upd_same) (res eX ?_))
          unfold cutV cutD
          rw [ra_len h2]
          exact ra_take _ (ra_drop _ h2)
    · split at s3
      · rename_i hz
        obtain rfl := rStr hv4
        exact .inr (.inr ⟨_, rfl, Evl.sz_of hz, s3 _ H4 x24 (.str _)⟩)
      · exact s3.elim
    · exact s3.elim
end
end PY

set_option Elab.async false
set_option linter.all false
set_option maxRecDepth 100000
set_option maxHeartbeats 4000000
/-! The reckoning is right: calls. -/
namespace PY
open PySem PySem.Spec PyProof.Rows L2 DK DD
section
variable {P : Program} {w : World} {K : PySem.W.Frag} {mg : Str → Option Value} {base : Heap} {k : Nat} {cl : Nat → Addr} {c : Cn} {sc : Scope} {W : WX}
variable {L : List Addr} {σ : L2.St} {H H' : Hp} {e a b : Expr} {es : List Expr} {r : Rs PyData} {rs : Rs (List PyData)} {N : List Str}
/-- the best rule of a value's call -/
def bR (P : Program) (w : World) (K : PySem.W.Frag) (mg : Str → Option Value) (base : Heap) (k : Nat) (N : List Str) (sc : Scope) (W : WX) (f : Value) : List V → Hp → VK → Prop := fun vs H Q => ∃ r, (∀ X, Good P w K mg base k N sc W X → CallR X f r) ∧ r vs H Q
theorem br {X : Cx} (g : Good P w K mg base k N sc W X) (f : Value) : CallR X f (bR P w K mg base k N sc W f) := fun pins s σ H xs us Q I rx ⟨r, hr, q⟩ => hr X g pins s σ H xs us Q I rx q
/-- what the call of a built-in gives upon data -/
def Bl (P : Program) (w : World) (K : PySem.W.Frag) (mg : Str → Option Value) (base : Heap) (k : Nat) (N : List Str) (sc : Scope) (W : WX) (f : Value) (L : List Addr) (ds : List PyData) (d : PyData) : Prop :=
  ∀ vs H, Dom L H → RvA K (mi H L) vs ds → ∀ Q : VK, (∀ v H2, Evl.Ex H H2 → Rv K (mi H2 L) v d → Q v H2) → bR P w K mg base k N sc W f vs H Q
def BlN (P : Program) (w : World) (K : PySem.W.Frag) (mg : Str → Option Value) (base : Heap) (k : Nat) (N : List Str) (sc : Scope) (W : WX) (f : Value) (L : List Addr) (ds : List PyData) (xs : List PyData) : Prop :=
  ∀ vs H, RvA K (mi H L) vs ds → ∀ Q : VK, (∀ p us H2, H p = none → Evl.Ex H H2 → H2 p = some (.lst us) → RvA K (mi H2 (p :: L)) us xs → Q (.ref p) H2) → bR P w K mg base k N sc W f vs H Q
theorem asInts_eq : ∀ {ds : List PyData} {is : List Int}, asInts ds = some is → ds = is.map PyData.int
  | [], is, h => by cases h; rfl
  | d :: ds, is, h => by
    cases d with
    | int i =>
      unfold asInts at h
      cases q : asInts ds with
      | none => rw [q] at h; cases h
      | some js =>
        rw [q] at h
        cases h
        rw [asInts_eq q] <;> rfl
    | _ => cases h
theorem asBools_eq : ∀ {ds : List PyData} {is : List Bool}, asBools ds = some is → ds = is.map PyData.bool
  | [], is, h => by cases h; rfl
  | d :: ds, is, h => by
    cases d with
    | bool i =>
      unfold asBools at h
      cases q : asBools ds with
      | none => rw [q] at h; cases h
      | some js =>
        rw [q] at h
        cases h
        rw [asBools_eq q] <;> rfl
    | _ => cases h
theorem maxI_mem : ∀ {l : List Int}, l ≠ [] → maxI l ∈ l ∧ ∀ y ∈ l, y ≤ maxI l
  | [], h => absurd rfl h
  | [x], _ => ⟨by simp [maxI], fun y hy => by simp at hy; subst hy; exact Int.le_refl _⟩
  | x :: y :: l, _ => by
    obtain ⟨h1, h2⟩ := maxI_mem (l := y :: l) (by simp)
    rw [show maxI (x :: y :: l) = max x (maxI (y :: l)) from rfl]
    refine ⟨?_, fun z hz => ?_⟩
    · by_cases hx : x ≤ maxI (y :: l)
      · rw [Int.max_eq_right hx]
        exact List.mem_cons_of_mem _ h1
      · rw [Int.max_eq_left (by omega)]
        simp
    · rcases List.mem_cons.mp hz with rfl | hz
      · exact Int.le_max_left _ _
      · exact Int.le_trans (h2 z hz) (Int.le_max_right _ _)
theorem minI_mem : ∀ {l : List Int}, l ≠ [] → minI l ∈ l ∧ ∀ y ∈ l, minI l ≤ y
  | [], h => absurd rfl h
  | [x], _ => ⟨by simp [minI], fun y hy => by simp at hy; subst hy; exact Int.le_refl _⟩
  | x :: y :: l, _ => by
    obtain ⟨h1, h2⟩ := minI_mem (l := y :: l) (by simp)
    rw [show minI (x :: y :: l) = min x (minI (y :: l)) from rfl]
    refine ⟨?_, fun z hz => ?_⟩
    · by_cases hx : x ≤ minI (y :: l)
      · rw [Int.min_eq_left hx]
        simp
      · rw [Int.min_eq_right (by omega)]
        exact List.mem_cons_of_mem _ h1
    · rcases List.mem_cons.mp hz with rfl | hz
      · exact Int.min_le_left _ _
      · exact Int.le_trans (Int.min_le_right _ _) (h2 z hz)
theorem ins_perm (x : Int) : ∀ l : List Int, (insI x l).Perm (x :: l)
  | [] => .refl _
  | y :: l => by
    unfold insI
    split
    · exact .refl _
    · exact ((ins_perm x l).cons y).trans (.swap x y l)
theorem srt_perm : ∀ l : List Int, (srtI l).Perm l
  | [] => .refl _
  | x :: l => (ins_perm x _).trans ((srt_perm l).cons x)
theorem ins_pw {x : Int} : ∀ {l : List Int}, l.Pairwise (· ≤ ·) → (insI x l).Pairwise (· ≤ ·)
  | [], _ => by simp [insI]
  | y :: l, h => by
    unfold insI
    obtain ⟨h1, h2⟩ := List.pairwise_cons.mp h
    split
    · rename_i hx
      refine List.pairwise_cons.mpr ⟨fun z hz => ?_, h⟩
      rcases List.mem_cons.mp hz with rfl | hz
      · exact hx
      · exact Int.le_trans hx (h1 z hz)
    · rename_i hx
      refine List.pairwise_cons.mpr ⟨fun z hz => ?_, ins_pw h2⟩
      rcases List.mem_cons.mp ((ins_perm x l).mem_iff.mp hz) with rfl | hz
      · omega
      · exact h1 z hz
theorem srt_pw : ∀ l : List Int, (srtI l).Pairwise (· ≤ ·)
  | [] => by simp [srtI]
  | x :: l => ins_pw (srt_pw l)
theorem srt_asc (l : List Int) : srtI l = TM.asc l := TM.asc_uni (srt_perm l) (srt_pw l)
theorem ded_eq : ∀ l : List Int, dedI l = TM.ded l
  | [] => rfl
  | x :: l => by
    unfold dedI TM.ded
    rw [ded_eq l]
    by_cases h : x ∈ TM.ded l
    · rw [if_pos h, if_pos (List.any_eq_true.mpr ⟨x, h, by simp⟩)]
    · rw [if_neg h, if_neg]
      intro z
      obtain ⟨y, hy, e⟩ := List.any_eq_true.mp z
      exact h (by rw [← of_decide_eq_true e]; exact hy)
theorem srt_uni (l : List Int) : srtI (dedI l) = TM.uni l := by
  rw [srt_asc, ded_eq] <;> rfl
theorem bfn_ok {f : Str} {ds : List PyData} (h : bfn f ds ≠ .no) : ∃ d v, bfn f ds = .ok d ∧ bval f = some v ∧ Bl P w K mg base k N sc W v L ds d := by
  unfold bfn at h ⊢
  split at h
  · rename_i hf
    rw [if_pos hf]
    subst hf
    split at h
    · refine ⟨_, _, rfl, rfl, fun vs H hd hv Q q => ⟨fun xs H Q => ∃ p ys, xs = [V.ref p] ∧ (SqL K H p ys ∨ SqT K H p ys) ∧ Q (V.int ys.length) H, fun X g => by rw [← g.eK]; exact call_len_seq, ?_⟩⟩
      cases hv with | cons h1 h2 => cases h2; cases h1 with | lst h3 h4 => exact ⟨_, _, rfl, .inl (Evl.sq_of (mi_some h3).2), by rw [ra_len h4]; exact q _ H (Evl.Ex.refl _) (.int _)⟩
    · refine ⟨_, _, rfl, rfl, fun vs H hd hv Q q => ⟨fun xs H Q => ∃ p ys, xs = [V.ref p] ∧ (SqL K H p ys ∨ SqT K H p ys) ∧ Q (V.int ys.length) H, fun X g => by rw [← g.eK]; exact call_len_seq, ?_⟩⟩
      cases hv with | cons h1 h2 => cases h2; cases h1 with | tup h3 h4 => exact ⟨_, _, rfl, .inr (Evl.st_of (mi_some h3).2), by rw [ra_len h4]; exact q _ H (Evl.Ex.refl _) (.int _)⟩
    · split at h
      · rename_i hz
        rw [if_pos hz]
        refine ⟨_, _, rfl, rfl, fun vs H hd hv Q q => ⟨_, fun X g => call_len_str, ?_⟩⟩
        cases hv with | cons h1 h2 => cases h2; cases h1; exact ⟨_, rfl, Evl.sz_of hz, q _ H (Evl.Ex.refl _) (.int _)⟩
      · exact absurd rfl h
    · exact absurd rfl h
  rename_i f1
  rw [if_neg f1]
  split at h
  · rename_i hf
    rw [if_pos hf]
    subst hf
    split at h
    · refine ⟨_, _, rfl, rfl, fun vs H hd hv Q q => ⟨_, fun X g => call_abs, ?_⟩⟩
      cases hv with | cons h1 h2 => cases h2; cases h1; exact ⟨_, rfl, q _ H (Evl.Ex.refl _) (.int _)⟩
    · exact absurd rfl h
  rename_i f2
  rw [if_neg f2]
  split at h
  · rename_i hf
    rw [if_pos hf]
    subst hf
    split at h
    · split at h
      · rename_i bs hb
        rw [asBools_eq hb]
        refine ⟨_, _, rfl, rfl, fun vs H hd hv Q q => ⟨rAll K, fun X g => by rw [← g.eK]; exact cr_all g.calm, ?_⟩⟩
        cases hv with | cons h1 h2 => cases h2; cases h1 with | lst h3 h4 =>
          obtain rfl := ra_bls h4
          exact ⟨_, _, rfl, Evl.sq_of (mi_some h3).2, q _ H (Evl.Ex.refl _) (.bl _)⟩
      · exact absurd rfl h
    · exact absurd rfl h
  rename_i f3
  rw [if_neg f3]
  split at h
  · rename_i hf
    rw [if_pos hf]
    subst hf
    split at h
    · split at h
      · rename_i bs hb
        rw [asBools_eq hb]
        refine ⟨_, _, rfl, rfl, fun vs H hd hv Q q => ⟨rAny K, fun X g => by rw [← g.eK]; exact cr_any g.calm, ?_⟩⟩
        cases hv with | cons h1 h2 => cases h2; cases h1 with | lst h3 h4 =>
          obtain rfl := ra_bls h4
          exact ⟨_, _, rfl, Evl.sq_of (mi_some h3).2, q _ H (Evl.Ex.refl _) (.bl _)⟩
      · exact absurd rfl h
    · exact absurd rfl h
  rename_i f4
  rw [if_neg f4]
  split at h
  · rename_i hf
    rw [if_pos hf]
    subst hf
    split at h
    · split at h
      · rename_i i is hb
        rw [asInts_eq hb]
        refine ⟨_, _, rfl, rfl, fun vs H hd hv Q q => ⟨rMax K, fun X g => by rw [← g.eK]; exact cr_max g.calm, ?_⟩⟩
        cases hv with | cons h1 h2 => cases h2; cases h1 with | lst h3 h4 =>
          obtain rfl := ra_ints h4
          refine ⟨_, i :: is, rfl, Evl.sq_of (mi_some h3).2, by simp, fun m hm hy => ?_⟩
          obtain ⟨k1, k2⟩ := maxI_mem (l := i :: is) (by simp)
          have : m = maxI (i :: is) := Int.le_antisymm (k2 m hm) (hy _ k1)
          rw [this]
          exact q _ H (Evl.Ex.refl _) (.int _)
      · exact absurd rfl h
    · exact absurd rfl h
  rename_i f5
  rw [if_neg f5]
  split at h
  · rename_i hf
    rw [if_pos hf]
    subst hf
    split at h
    · split at h
      · rename_i i is hb
        rw [asInts_eq hb]
        refine ⟨_, _, rfl, rfl, fun vs H hd hv Q q => ⟨rMin K, fun X g => by rw [← g.eK]; exact cr_min g.calm, ?_⟩⟩
        cases hv with | cons h1 h2 => cases h2; cases h1 with | lst h3 h4 =>
          obtain rfl := ra_ints h4
          refine ⟨_, i :: is, rfl, Evl.sq_of (mi_some h3).2, by simp, fun m hm hy => ?_⟩
          obtain ⟨k1, k2⟩ := minI_mem (l := i :: is) (by simp)
          have : m = minI (i :: is) := Int.le_antisymm (hy _ k1) (k2 m hm)
          rw [this]
          exact q _ H (Evl.Ex.refl _) (.int _)
      · exact absurd rfl h
    · exact absurd rfl h
  rename_i f6
  rw [if_neg f6]
  split at h
  · rename_i hf
    rw [if_pos hf]
    subst hf
    split at h
    · split at h
      · rename_i hz
        rw [if_pos hz]
        refine ⟨_, _, rfl, rfl, fun vs H hd hv Q q => ⟨_, fun X g => call_str_int, ?_⟩⟩
        cases hv with | cons h1 h2 => cases h2; cases h1; exact ⟨_, rfl, hz, q _ H (Evl.Ex.refl _) (.str _)⟩
      · exact absurd rfl h
    · exact absurd rfl h
  rename_i f7
  rw [if_neg f7]
  split at h
  · rename_i hf
    rw [if_pos hf]
    subst hf
    split at h
    · refine ⟨_, _, rfl, rfl, fun vs H hd hv Q q => ⟨_, fun X g => call_int1, ?_⟩⟩
      cases hv with | cons h1 h2 => cases h2; cases h1; exact .inl ⟨_, rfl, q _ H (Evl.Ex.refl _) (.int _)⟩
    · refine ⟨_, _, rfl, rfl, fun vs H hd hv Q q => ⟨_, fun X g => call_int1, ?_⟩⟩
      cases hv with | cons h1 h2 => cases h2; cases h1; exact .inr ⟨_, rfl, q _ H (Evl.Ex.refl _) (.int _)⟩
    · exact absurd rfl h
  rename_i f8
  rw [if_neg f8]
  split at h
  · rename_i hf
    rw [if_pos hf]
    subst hf
    split at h
    · refine ⟨_, _, rfl, rfl, fun vs H hd hv Q q => ⟨fun xs H Q => ∃ p ys, xs = [V.ref p] ∧ ((SqL K H p ys ∧ ∀ l, H l = none → Q (.ref l) (upd H l (.tup ys))) ∨ (SqT K H p ys ∧ Q (.ref p) H)), fun X g => by rw [← g.eK]; exact call_tuple_of, ?_⟩⟩
      cases hv with | cons h1 h2 => cases h2; cases h1 with | lst h3 h4 => exact ⟨_, _, rfl, .inl ⟨Evl.sq_of (mi_some h3).2, fun l hl => q _ _ (Evl.Ex.new hl) (.tup (mi_of (hd.nin hl) upd_same) (res (Evl.Ex.new hl) h4))⟩⟩
    · refine ⟨_, _, rfl, rfl, fun vs H hd hv Q q => ⟨fun xs H Q => ∃ p ys, xs = [V.ref p] ∧ ((SqL K H p ys ∧ ∀ l, H l = none → Q (.ref l) (upd H l (.tup ys))) ∨ (SqT K H p ys ∧ Q (.ref p) H)), fun X g => by rw [← g.eK]; exact call_tuple_of, ?_⟩⟩
      cases hv with | cons h1 h2 => cases h2; cases h1 with | tup h3 h4 => exact ⟨_, _, rfl, .inr ⟨Evl.st_of (mi_some h3).2, q _ H (Evl.Ex.refl _) (.tup h3 h4)⟩⟩
    · exact absurd rfl h
  · exact absurd rfl h
theorem bls_ok {f : Str} {ds xs : List PyData} (h : bls f ds = .ok xs) : ∃ v, bval f = some v ∧ BlN P w K mg base k N sc W v L ds xs := by
  unfold bls at h
  split at h
  · rename_i hf
    subst hf
    split at h
    · cases h
      refine ⟨_, rfl, fun vs H hv Q q => ⟨fun xs H Q => ∃ p ys, xs = [V.ref p] ∧ (SqL K H p ys ∨ SqT K H p ys) ∧ ∀ l, H l = none → Q (.ref l) (upd H l (.lst ys)), fun X g => by rw [← g.eK]; exact call_list_of, ?_⟩⟩
      cases hv with | cons h1 h2 => cases h2; cases h1 with | lst h3 h4 => exact ⟨_, _, rfl, .inl (Evl.sq_of (mi_some h3).2), fun l hl => q l _ _ hl (Evl.Ex.new hl) upd_same (res (Evl.Ex.new hl) (radds hl h4))⟩
    · cases h
      refine ⟨_, rfl, fun vs H hv Q q => ⟨fun xs H Q => ∃ p ys, xs = [V.ref p] ∧ (SqL K H p ys ∨ SqT K H p ys) ∧ ∀ l, H l = none → Q (.ref l) (upd H l (.lst ys)), fun X g => by rw [← g.eK]; exact call_list_of, ?_⟩⟩
      cases hv with | cons h1 h2 => cases h2; cases h1 with | tup h3 h4 => exact ⟨_, _, rfl, .inr (Evl.st_of (mi_some h3).2), fun l hl => q l _ _ hl (Evl.Ex.new hl) upd_same (res (Evl.Ex.new hl) (radds hl h4))⟩
    · cases h
  split at h
  · rename_i hf
    subst hf
    split at h
    · split at h
      · rename_i is hb
        cases h
        rw [asInts_eq hb]
        refine ⟨_, rfl, fun vs H hv Q q => ⟨rSortedI K, fun X g => by rw [← g.eK]; exact cr_sortedI, ?_⟩⟩
        cases hv with | cons h1 h2 => cases h2; cases h1 with | lst h3 h4 =>
          obtain rfl := ra_ints h4
          refine ⟨_, is, rfl, Evl.sq_of (mi_some h3).2, fun ns' p hp hs hn => ?_⟩
          rw [TM.asc_uni hp hs, ← srt_asc]
          exact q p _ _ hn (Evl.Ex.new hn) upd_same (rv_ints _)
      · cases h
    · cases h
  · cases h
end
end PY

set_option Elab.async false
set_option linter.all false
set_option maxRecDepth 100000
set_option maxHeartbeats 4000000
namespace PY
open PySem PySem.Spec PyProof.Rows L2 DK DD
section
variable {P : Program} {w : World} {K : PySem.W.Frag} {mg : Str → Option Value} {base : Heap} {k : Nat} {cl : Nat → Addr} {c : Cn} {sc : Scope} {W : WX}
variable {L : List Addr} {σ : L2.St} {H H' : Hp} {e a b : Expr} {es : List Expr} {r : Rs PyData} {rs : Rs (List PyData)} {N : List Str}
theorem Mdl.non (m : Mdl P w K mg base k cl c) {x : Str} (h : x ∈ (["len", "abs", "all", "any", "max", "min", "str", "int", "tuple", "list", "sorted", "isinstance", "range", "enumerate", "zip", "bool", "set"] : List Str)) : mg x = none := m.blt x h
theorem bval_some {f : Str} {v : Value} (h : bval f = some v) : f ∈ (["len", "abs", "all", "any", "max", "min", "str", "int", "tuple", "list", "sorted", "isinstance", "range", "enumerate", "zip", "bool", "set"] : List Str) ∧ f ≠ "__name__" ∧ (f == ("__debug__" : Str)) = false ∧ bootBuiltins f = some v ∧ ((∃ i, v = .builtin i) ∨ ∃ T, v = .type T) := by
  unfold bval at h
  split at h
  · rename_i hf; subst hf; cases h; exact ⟨by decide +kernel, by decide +kernel, by decide +kernel, by decide +kernel, .inl ⟨_, rfl⟩⟩
  split at h
  · rename_i hf; subst hf; cases h; exact ⟨by decide +kernel, by decide +kernel, by decide +kernel, by decide +kernel, .inl ⟨_, rfl⟩⟩
  split at h
  · rename_i hf; subst hf; cases h; exact ⟨by decide +kernel, by decide +kernel, by decide +kernel, by decide +kernel, .inl ⟨_, rfl⟩⟩
  split at h
  · rename_i hf; subst hf; cases h; exact ⟨by decide +kernel, by decide +kernel, by decide +kernel, by decide +kernel, .inl ⟨_, rfl⟩⟩
  split at h
  · rename_i hf; subst hf; cases h; exact ⟨by decide +kernel, by decide +kernel, by decide +kernel, by decide +kernel, .inl ⟨_, rfl⟩⟩
  split at h
  · rename_i hf; subst hf; cases h; exact ⟨by decide +kernel, by decide +kernel, by decide +kernel, by decide +kernel, .inl ⟨_, rfl⟩⟩
  split at h
  · rename_i hf; subst hf; cases h; exact ⟨by decide +kernel, by decide +kernel, by decide +kernel, by decide +kernel, .inl ⟨_, rfl⟩⟩
  split at h
  · rename_i hf; subst hf; cases h; exact ⟨by decide +kernel, by decide +kernel, by decide +kernel, by decide +kernel, .inr ⟨_, rfl⟩⟩
  split at h
  · rename_i hf; subst hf; cases h; exact ⟨by decide +kernel, by decide +kernel, by decide +kernel, by decide +kernel, .inr ⟨_, rfl⟩⟩
  split at h
  · rename_i hf; subst hf; cases h; exact ⟨by decide +kernel, by decide +kernel, by decide +kernel, by decide +kernel, .inr ⟨_, rfl⟩⟩
  split at h
  · rename_i hf; subst hf; cases h; exact ⟨by decide +kernel, by decide +kernel, by decide +kernel, by decide +kernel, .inr ⟨_, rfl⟩⟩
  · cases h
/-- a built-in called by its name -/
theorem pe_blt {f : Str} {v : Value} {p pos : Pos} (m : Mdl P w K mg base k cl c) (hn : nmOf N sc f = .glob) (hb : bval f = some v) (hs : (e :: es).all noStar = true) {X : Cx} (g : Good P w K mg base k N sc W X) :
    PE X (.Call (.Name f p) (e :: es) [] pos) (tCB (bR P w K mg base k N sc W v) (tBA P w K mg base k N sc W (e :: es))) := by
  obtain ⟨h1, h2, h3, h4, h5⟩ := bval_some hb
  obtain ⟨g1, g2⟩ := nm_glob hn
  have hmg : X.mg f = none := by rw [g.em]; exact m.blt f h1
  rw [List.all_cons, Bool.and_eq_true] at hs
  rcases h5 with ⟨i, rfl⟩ | ⟨T, rfl⟩
  · exact pe_callB (br g _) (g.gl g1) hmg h4 (ba g _) h2 h3 (star1 hs.1) (star_all hs.2)
  · exact pe_callTy (br g _) (g.gl g1) hmg h4 (ba g _) h2 h3 (star1 hs.1) (star_all hs.2)
theorem bfn_er {f : Str} {ds : List PyData} {i : Nat} : bfn f ds ≠ .er i := by
  unfold bfn
  (repeat' split) <;> exact fun h => nomatch h
theorem bls_er {f : Str} {ds : List PyData} {i : Nat} : bls f ds ≠ .er i := by
  unfold bls
  (repeat' split) <;> exact fun h => nomatch h
/-- a call of a built-in -/
theorem ok_blt {f : Str} {p pos : Pos} (m : Mdl P w K mg base k cl c) (hd : Dom L H) (hn : nmOf N sc f = .glob) (hs : (e :: es).all noStar = true) (ha : OkA P w K mg base k cl N sc W L (e :: es) rs σ H) (hk : (bval f).isSome = true) :
    OkE P w K mg base k cl N sc W L (.Call (.Name f p) (e :: es) [] pos) (rs.bind fun ds => match bls f ds with
      | .ok xs => .ok (.list xs)
      | _ => bfn f ds) σ H := fun H1 x Q q => by
  obtain ⟨v, hb⟩ := Option.isSome_iff_exists.mp hk
  refine ⟨_, fun X g => pe_blt m hn hb hs g, ?_⟩
  refine ha H1 x _ ((Out.bind q).mono (Evl.Ex.refl _) fun ds _ s vs H2 x2 hv => ?_)
  cases hl : bls f ds with
  | ok xs =>
    rw [hl] at s
    obtain ⟨v', hb', hN⟩ := bls_ok (P := P) (w := w) (K := K) (mg := mg) (base := base) (k := k) (N := N) (sc := sc) (W := W) (L := L) hl
    rw [hb] at hb'
    cases hb'
    exact hN vs H2 hv Q fun p us H3 n3 x3 h3 hu => s _ H3 (x2.trans x3) (.lst (mi_of ((hd.ex (x.trans x2)).nin n3) h3) (rlesss (fun m hm => List.mem_cons_of_mem p hm) hu))
  | er i => exact absurd hl bls_er
  | no =>
    rw [hl] at s
    have hne : bfn f ds ≠ .no := fun z => by
      have s' : Out cl W σ H1 (bfn f ds) _ := s
      rw [z] at s'
      exact s'.elim
    obtain ⟨d, v', e1, hb', hB⟩ := bfn_ok (P := P) (w := w) (K := K) (mg := mg) (base := base) (k := k) (N := N) (sc := sc) (W := W) (L := L) hne
    have s' : Out cl W σ H1 (bfn f ds) _ := s
    rw [e1] at s'
    rw [hb] at hb'
    cases hb'
    exact hB vs H2 (hd.ex (x.trans x2)) hv Q fun v H3 x3 h3 => s' v H3 (x2.trans x3) h3
theorem ok_bltN {f : Str} {p pos : Pos} (m : Mdl P w K mg base k cl c) (hn : nmOf N sc f = .glob) (hs : (e :: es).all noStar = true) (ha : OkA P w K mg base k cl N sc W L (e :: es) rs σ H) (hk : (bval f).isSome = true) :
    OkN P w K mg base k cl N sc W L (.Call (.Name f p) (e :: es) [] pos) (rs.bind fun ds => bls f ds) σ H := fun H1 x Q q => by
  obtain ⟨v, hb⟩ := Option.isSome_iff_exists.mp hk
  refine ⟨_, fun X g => pe_blt m hn hb hs g, ?_⟩
  refine ha H1 x _ ((Out.bind q).mono (Evl.Ex.refl _) fun ds _ s vs H2 x2 hv => ?_)
  cases hl : bls f ds with
  | ok xs =>
    rw [hl] at s
    obtain ⟨v', hb', hN⟩ := bls_ok (P := P) (w := w) (K := K) (mg := mg) (base := base) (k := k) (N := N) (sc := sc) (W := W) (L := L) hl
    rw [hb] at hb'
    cases hb'
    exact hN vs H2 hv Q fun p us H3 n3 x3 h3 hu => s p us H3 (Evl.fresh_back x2 n3) (x2.trans x3) h3 hu
  | er i => exact absurd hl bls_er
  | no => rw [hl] at s; exact s.elim
/-- isinstance -/
theorem isi_ty {T : Str} {d : PyData} (h : isi T d ≠ .no) : ∃ b T', isi T d = .ok b ∧ tyval T = some T' ∧ kitB (tyN d) T' = some b := by
  unfold isi at h ⊢
  split at h
  · rename_i hf; subst hf
    exact ⟨_, "int", rfl, rfl, kit_int d⟩
  rename_i f1
  rw [if_neg f1]
  split at h
  · rename_i hf; subst hf
    exact ⟨_, "bool", rfl, rfl, kit_bool d⟩
  rename_i f2
  rw [if_neg f2]
  split at h
  · rename_i hf; subst hf
    exact ⟨_, "list", rfl, rfl, TM.kit_list d⟩
  rename_i f3
  rw [if_neg f3]
  split at h
  · rename_i hf; subst hf
    exact ⟨_, "tuple", rfl, rfl, kit_tuple d⟩
  rename_i f4
  rw [if_neg f4]
  split at h
  · rename_i hf; subst hf
    exact ⟨_, "str", rfl, rfl, kit_str d⟩
  · exact absurd rfl h
theorem tyval_some {T : Str} {T' : String} (h : tyval T = some T') : T ∈ (["len", "abs", "all", "any", "max", "min", "str", "int", "tuple", "list", "sorted", "isinstance", "range", "enumerate", "zip", "bool", "set"] : List Str) ∧ T ≠ "__name__" ∧ (T == ("__debug__" : Str)) = false ∧ bootBuiltins T = some (.type T') := by
  unfold tyval at h
  split at h
  · rename_i hf; subst hf; cases h; exact ⟨by decide +kernel, by decide +kernel, by decide +kernel, by decide +kernel⟩
  split at h
  · rename_i hf; subst hf; cases h; exact ⟨by decide +kernel, by decide +kernel, by decide +kernel, by decide +kernel⟩
  split at h
  · rename_i hf; subst hf; cases h; exact ⟨by decide +kernel, by decide +kernel, by decide +kernel, by decide +kernel⟩
  split at h
  · rename_i hf; subst hf; cases h; exact ⟨by decide +kernel, by decide +kernel, by decide +kernel, by decide +kernel⟩
  split at h
  · rename_i hf; subst hf; cases h; exact ⟨by decide +kernel, by decide +kernel, by decide +kernel, by decide +kernel⟩
  · cases h
theorem ok_isi {T : Str} {p pT pos : Pos} {L0 : List Addr} (m : Mdl P w K mg base k cl c) (hn : nmOf N sc "isinstance" = .glob) (hT : nmOf N sc T = .glob) (hk : (tyval T).isSome = true) (hs : noStar a = true) (ha : OkE P w K mg base k cl N sc W L0 a r σ H) :
    OkE P w K mg base k cl N sc W L (.Call (.Name "isinstance" p) [a, .Name T pT] [] pos) (r.bind fun d => (isi T d).bind fun b => .ok (.bool b)) σ H := fun H1 x Q q => by
  obtain ⟨g1, g2⟩ := nm_glob hn
  obtain ⟨t1, t2⟩ := nm_glob hT
  obtain ⟨T', hv⟩ := Option.isSome_iff_exists.mp hk
  · obtain ⟨b1, b2, b3, b4⟩ := tyval_some hv
    refine ⟨tCB (rIsi K) (tCons (tB P w K mg base k N sc W a) (tCons (tC (.ty T')) tNil)), fun X g => ?_, ?_⟩
    · have hc : CallR X (.builtin "isinstance") (rIsi K) := by rw [← g.eK]; exact call_isi
      exact pe_callB hc (g.gl g1) (by rw [g.em]; exact m.blt _ (by decide +kernel)) (by decide +kernel)
        (pa_cons (be g a) (pa_cons (pe_bltn (v := .ty T') (g.gl t1) (by rw [g.em]; exact m.blt _ b1) b4 rfl b2 t2) pa_nil) (star1 hs)) (by decide +kernel) (by decide +kernel) (star1 hs) (star_all rfl)
    · refine ha H1 x _ ((Out.bind q).mono (Evl.Ex.refl _) fun d _ s v H2 x2 hv2 => ?_)
      have hne : isi T d ≠ .no := fun z => by
        rw [z] at s
        exact s.elim
      obtain ⟨b, T2, e1, e2, e3⟩ := isi_ty hne
      rw [hv] at e2
      cases e2
      rw [e1] at s
      exact ⟨v, .ty T', .type (tyN d), .type T', b, rfl, .ty T', tyx_rv (rfull hv2), kit_ty e3, s _ H2 x2 (.bl b)⟩
/-- a call of a def -/
theorem ok_fn {f : Str} {p pos : Pos} (m : Mdl P w K mg base k cl c) (hd : Dom L H) (hn : nmOf N sc f = .glob) (hs : (e :: es).all noStar = true) (hf : c.isF f = true) (ha : OkA P w K mg base k cl N sc W L (e :: es) rs σ H) :
    OkE P w K mg base k cl N sc W L (.Call (.Name f p) (e :: es) [] pos) (rs.bind fun ds => c.phi f ds) σ H := fun H1 x Q q => by
  obtain ⟨kf, fa, fd, ps, hk, hm, hkp, hb, F⟩ := m.phi f hf
  obtain ⟨g1, g2⟩ := nm_glob hn
  rw [List.all_cons, Bool.and_eq_true] at hs
  refine ⟨tCallS (spP K cl (c.phi f)) (WE W) (tBA P w K mg base k N sc W (e :: es)), fun X g => ?_, ?_⟩
  · have hP := g.eP
    have hw := g.ew
    have hK := g.eK
    have hm' := g.em
    have hb' := g.eb
    refine pe_callS (CX := CX P w) (k := kf) (by rw [hP, hw, hK, hm', hb']; exact F) (g.room.mono hk) (g.gl g1) (by rw [hm']; exact hm) (by rw [hK]; exact hkp) (by rw [hK]; exact hb) (fun σ => by rw [← hP, ← hw]; exact passAt g.tk σ) (ba g _) g2 (star1 hs.1) (star_all hs.2)
  · refine ha H1 x _ ((Out.bind q).mono (Evl.Ex.refl _) fun ds _ s vs H2 x2 hv => ?_)
    refine ⟨L, ds, hd.ex (x.trans x2), hv, ?_⟩
    cases hr : c.phi f ds with
    | ok d =>
      rw [hr] at s
      exact fun v H3 x3 h3 => s v H3 (x2.trans x3) h3
    | er i =>
      rw [hr] at s
      exact fun H3 x3 => s H3 (x2.trans x3)
    | no => rw [hr] at s; exact s.elim
/-- a call without arguments, that lets no error out -/
theorem ok_fn0 {f : Str} {p pos : Pos} (m : Mdl P w K mg base k cl c) (hd : Dom L H) (hn : nmOf N sc f = .glob) (hf : c.isF f = true) : OkE P w K mg base k cl N sc W L (.Call (.Name f p) [] [] pos) (noEr (c.phi f [])) σ H := fun H1 x Q q => by
  obtain ⟨kf, fa, fd, ps, hk, hm, hkp, hb, F⟩ := m.phi f hf
  obtain ⟨g1, g2⟩ := nm_glob hn
  refine ⟨tCall (spP K cl (c.phi f)) [] E0 tNil, fun X g => ?_, ?_⟩
  · have hP := g.eP
    have hw := g.ew
    have hK := g.eK
    have hm' := g.em
    have hb' := g.eb
    refine pe_call0 (CX := CX P w) (k := kf) (by rw [hP, hw, hK, hm', hb']; exact F) (g.room.mono hk) (g.gl g1) (by rw [hm']; exact hm) (by rw [hK]; exact hkp) (by rw [hK]; exact hb) .nil (by rw [← hP, ← hw]; exact passL) g2
  · refine ⟨L, [], hd.ex x, .nil, ?_⟩
    cases hr : c.phi f [] with
    | ok d =>
      rw [hr] at q
      exact fun v H3 x3 h3 => q v H3 x3 h3
    | er i => rw [hr] at q; exact q.elim
    | no => rw [hr] at q; exact q.elim
end
end PY

set_option Elab.async false
set_option linter.all false
set_option maxRecDepth 100000
set_option maxHeartbeats 2000000
/-! zip of any number of lists and tuples. -/
namespace ZN
open PySem PySem.Spec PyProof.Rows L2 RZ
theorem newCall_c (v : Value) (vs : List Value) : checkBuiltinCall "zip.__new__" ⟨.type "zip" :: v :: vs, []⟩ = Bind.checkCount "zip" [⟨"iterables", .varPos, false⟩, ⟨"strict", .kwOnly, false⟩] (vs.length + 1) := by kernel_rfl
theorem newCall_n (v : Value) (vs : List Value) : checkBuiltinCall "zip.__new__" ⟨.type "zip" :: v :: vs, []⟩ = pure () := by
  rw [newCall_c]
  unfold Bind.checkCount
  have h1 : ([⟨"iterables", .varPos, false⟩, ⟨"strict", .kwOnly, false⟩] : List Manifest.Param).any (·.kind == .varPos) = true := by decide
  have h2 : (([⟨"iterables", .varPos, false⟩, ⟨"strict", .kwOnly, false⟩] : List Manifest.Param).filter fun p => Bind.isPositional p && p.required).length = 0 := by decide
  simp only [h1, h2, Nat.not_lt_zero, if_false, Bool.not_true, Bool.and_false]
  rfl
theorem typeCall_n (vs : List Value) : checkTypeCall "zip" ⟨vs, []⟩ = pure () := by kernel_rfl
theorem args_n (vs : List Value) : argsOk "object.__init__" ⟨vs, []⟩ := by
  unfold argsOk; rw [signature?_of (id := "object.__init__") (n := ['_', '_', 't', 'i', 'n', 'i', '_', '_']) (o := ['t', 'c', 'e', 'j', 'b', 'o']) (by kernel_rfl) F.owner_object]; kernel_rfl
/-- an iterator of a tuple or of a list -/
def ItAt (h : Heap) (it l : Addr) (k : Nat) (b : Bool) : Prop := if b then h.IsTupleIter it l k else h.IsListIter it l k
def SeqO (h : Heap) (l : Addr) (xs : Array Value) (b : Bool) : Prop := if b then h.IsTuple l xs else h.IsList l xs
theorem ItAt.at {h h' : Heap} {it l : Addr} {k : Nat} {b : Bool} (i : ItAt h it l k b) (e : ∀ o, h.get? it = some o → h'.get? it = some o) : ItAt h' it l k b := by
  cases b with
  | true => exact Heap.IsTupleIter.at (show h.IsTupleIter it l k from i) fun o q => e o q
  | false => exact Heap.IsListIter.at (show h.IsListIter it l k from i) fun o q => e o q
theorem ItAt.obj {h : Heap} {it l : Addr} {k : Nat} {b : Bool} (i : ItAt h it l k b) : ∃ o, h.get? it = some o ∧ ∀ v, o.data ≠ .cell v := by
  cases b with
  | true =>
    obtain ⟨o, e, _, d⟩ := (show h.IsTupleIter it l k from i)
    exact ⟨o, e, fun v q => by rw [d] at q; cases q⟩
  | false =>
    obtain ⟨o, e, _, d⟩ := (show h.IsListIter it l k from i)
    exact ⟨o, e, fun v q => by rw [d] at q; cases q⟩
theorem SeqO.at {h h' : Heap} {l : Addr} {xs : Array Value} {b : Bool} (i : SeqO h l xs b) (e : ∀ o, h.get? l = some o → h'.get? l = some o) : SeqO h' l xs b := by
  cases b with
  | true =>
    obtain ⟨o, ho, r⟩ := (show h.IsTuple l xs from i)
    exact ⟨o, e o ho, r⟩
  | false =>
    obtain ⟨o, ho, r⟩ := (show h.IsList l xs from i)
    exact ⟨o, e o ho, r⟩
section
variable {s : Shared} {prog : Program} {w : World} {E : Value → Shared → Prop} {A : Around}
theorem next_o {it l : Addr} {i : Nat} {b : Bool} {items : Array Value} {x : Value} {Q : Value → Shared → Prop} (hit : ItAt s.heap it l i b) (hl : SeqO s.heap l items b) (hx : items[i]? = some x)
    (hQ : ∀ h', ItAt h' it l (i + 1) b → Heap.SameBut it s.heap h' → Q x { s with heap := h' }) : wpAny (model prog w) A (Builtin.SmallTypes.nextOf (.ref it)) Q E s := by
  cases b with
  | true => exact nextOf_tuple_item hit hl hx hQ
  | false => exact wpAny_nextOf_list_item hit hl hx hQ
theorem next_e {it l : Addr} {i : Nat} {b : Bool} {items : Array Value} {Q : Value → Shared → Prop} (hh : A.handled = none) (hit : ItAt s.heap it l i b) (hl : SeqO s.heap l items b) (hx : items[i]? = none)
    (hE : ∀ h1 x, Heap.ExtBut it s.heap h1 → (∃ o, h1.get? x = some o ∧ o.cls = .type "StopIteration") → E (.ref x) { s with heap := h1 }) : wpAny (model prog w) A (Builtin.SmallTypes.nextOf (.ref it)) Q E s := by
  cases b with
  | true => exact nextOf_tuple_end hh hit hl hx hE
  | false => exact wpAny_nextOf_list_end hh hit hl hx hE
abbrev zNext (z : Addr) := Builtin.«zip.__next__» ⟨[.ref z], []⟩
/-- the zip object -/
abbrev Zst (h : Heap) (z TI TO : Addr) (f0 f1 : Value) : Prop := h.get? z = some { cls := .type "zip", data := .fields #[f0, f1, .bool false, .ref TI, .ref TO] }
abbrev TupAt (h : Heap) (t : Addr) (xs : Array Value) : Prop := h.get? t = some { cls := .type "tuple", data := .seq xs }
abbrev Src := Addr × Addr × Bool
/-- the iterators: the first j of them one ahead -/
def Its (h : Heap) (srcs : List Src) (k j : Nat) : Prop := ∀ (i : Nat) (e : Src), srcs[i]? = some e → ItAt h e.1 e.2.1 (if i < j then k + 1 else k) e.2.2
/-- each gives its item -/
def Gives (h : Heap) (srcs : List Src) (k : Nat) (xs : List Value) : Prop := xs.length = srcs.length ∧ ∀ (i : Nat) (e : Src), srcs[i]? = some e → ∃ ys : Array Value, SeqO h e.2.1 ys e.2.2 ∧ ys[k]? = xs[i]?
structure Apart (z TI TO : Addr) (srcs : List Src) : Prop where
  nd : (srcs.map (·.1)).Nodup
  zI : TI ≠ z
  zO : TO ≠ z
  IO : TI ≠ TO
  it : ∀ e ∈ srcs, e.1 ≠ z ∧ e.1 ≠ TI ∧ e.1 ≠ TO
  ls : ∀ e ∈ srcs, ∀ f ∈ srcs, e.2.1 ≠ f.1
  lz : ∀ e ∈ srcs, e.2.1 ≠ z ∧ e.2.1 ≠ TO
def fpN (z TI TO : Addr) (srcs : List Src) : List Addr := z :: TI :: TO :: srcs.map (·.1)
/-- what else there is stays -/
def Kp (z TO : Addr) (srcs : List Src) (h h' : Heap) : Prop := ∀ c o, c ≠ z → c ≠ TO → (∀ e ∈ srcs, c ≠ e.1) → h.get? c = some o → h'.get? c = some o
theorem its_step {h h' : Heap} {srcs : List Src} {k j : Nat} {e : Src} (he : srcs[j]? = some e) (nd : (srcs.map (·.1)).Nodup) (I : Its h srcs k j) (hn : ItAt h' e.1 e.2.1 (k + 1) e.2.2) (sb : Heap.SameBut e.1 h h') : Its h' srcs k (j + 1) := fun i f hf => by
  by_cases hij : i = j
  · subst hij
    rw [he] at hf
    cases hf
    rw [if_pos (by omega)]
    exact hn
  · have ne : f.1 ≠ e.1 := fun z => by
      have h1 : (srcs.map (·.1))[i]? = some f.1 := by rw [List.getElem?_map, hf] <;> rfl
      have h2 : (srcs.map (·.1))[j]? = some e.1 := by rw [List.getElem?_map, he] <;> rfl
      have l1 := (List.getElem?_eq_some_iff.mp h1).1
      have l2 := (List.getElem?_eq_some_iff.mp h2).1
      rw [List.getElem?_eq_getElem l1] at h1
      rw [List.getElem?_eq_getElem l2] at h2
      exact hij ((List.getElem_inj nd).mp ((Option.some.inj h1).trans (z.trans (Option.some.inj h2).symm)))
    have hI := I i f hf
    have hc : (if i < j + 1 then k + 1 else k) = if i < j then k + 1 else k := by
      by_cases h1 : i < j
      · rw [if_pos h1, if_pos (by omega)]
      · rw [if_neg h1, if_neg (by omega)]
    rw [hc]
    exact hI.at fun o q => sb.extBut f.1 o ne q
/-- is the kept tuple free? -/
theorem free_no {z TI TO : Addr} {a : Int} {t : Tok} {b : Bool} {Q : Bool → Shared → Prop} (hz : Zst s.heap z TI TO (.int a t) (.bool b)) (hal : (s.heap.get? a.toNat).isNone = false)
    (hQ : ∀ h1, Zst h1 z TI TO (.int a t) (.bool true) → Heap.SameBut z s.heap h1 → Q false { s with heap := h1 }) : wpAny (model prog w) A (Builtin.SmallTypes.ownedTupleIsFree (.ref z)) Q E s := by
  unfold Builtin.SmallTypes.ownedTupleIsFree
  refine wpAny_bind (wpAny_field hz rfl (x := .int a t) rfl ?_)
  have hl : wpAny (model prog w) A (loadIfAlive a.toNat) (fun r s' => r = s.heap.get? a.toNat ∧ s' = s) E s := by
    intro Γ p hΓ
    show Sem.wp (model prog w) Γ (.loadIfAlive a.toNat .pure) _ _ p s
    rw [Sem.wp_loadIfAlive, Sem.wp]
    exact ⟨rfl, rfl⟩
  refine wpAny_bind (wpAny_mono hl (fun r s' hr => ?_) fun _ _ e => e)
  obtain ⟨rfl, rfl⟩ := hr
  rw [if_neg (by rw [hal]; exact Bool.false_ne_true)]
  refine wpAny_bind (wpAny_field hz rfl (x := .bool b) rfl ?_)
  cases b with
  | true => exact wpAny_pure (hQ _ hz ⟨rfl, fun _ _ => rfl⟩)
  | false =>
    show wpAny _ _ (setField (.ref z) 1 (.bool true) >>= _) _ _ _
    refine wpAny_bind (wpAny_setField_rec hz (by simp) fun h₁ hz₁ hs₁ => wpAny_pure ?_)
    exact hQ h₁ hz₁ hs₁
theorem free_yes {z TI TO : Addr} {f0 f1 : Value} {Q : Bool → Shared → Prop} (hz : Zst s.heap z TI TO f0 f1) (hf : f0 = .none ∨ ∃ a t, f0 = .int a t ∧ (s.heap.get? a.toNat).isNone = true) (hQ : Q true s) : wpAny (model prog w) A (Builtin.SmallTypes.ownedTupleIsFree (.ref z)) Q E s := by
  unfold Builtin.SmallTypes.ownedTupleIsFree
  rcases hf with rfl | ⟨a, t, rfl, hd⟩
  · exact wpAny_bind (wpAny_field hz rfl (x := .none) rfl (wpAny_pure hQ))
  · refine wpAny_bind (wpAny_field hz rfl (x := .int a t) rfl ?_)
    have hl : wpAny (model prog w) A (loadIfAlive a.toNat) (fun r s' => r = s.heap.get? a.toNat ∧ s' = s) E s := by
      intro Γ p hΓ
      show Sem.wp (model prog w) Γ (.loadIfAlive a.toNat .pure) _ _ p s
      rw [Sem.wp_loadIfAlive, Sem.wp]
      exact ⟨rfl, rfl⟩
    refine wpAny_bind (wpAny_mono hl (fun r s' hr => ?_) fun _ _ e => e)
    obtain ⟨rfl, rfl⟩ := hr
    rw [if_pos hd]
    exact wpAny_pure hQ
theorem drop_at {srcs : List Src} {j : Nat} {x : Value} {rest : List Value} (h : x :: rest = (srcs.drop j).map fun e => Value.ref e.1) : ∃ e, srcs[j]? = some e ∧ x = .ref e.1 ∧ rest = (srcs.drop (j + 1)).map fun e => Value.ref e.1 := by
  cases hd : srcs.drop j with
  | nil => rw [hd] at h; cases h
  | cons e l =>
    rw [hd] at h
    cases h
    have hj : j < srcs.length := by
      have := congrArg List.length hd
      simp at this
      omega
    rw [List.drop_eq_getElem_cons hj] at hd
    cases hd
    exact ⟨_, List.getElem?_eq_getElem hj, rfl, rfl⟩
/-- the kept tuple is another's: a new one -/
theorem next_new {z TI TO : Addr} {a : Int} {t : Tok} {b : Bool} {srcs : List Src} {k : Nat} {xs : List Value} {Q : Value → Shared → Prop} (D : Apart z TI TO srcs) (hz : Zst s.heap z TI TO (.int a t) (.bool b))
    (hTI : TupAt s.heap TI (srcs.map fun e => Value.ref e.1).toArray) (h0 : srcs ≠ []) (hI : Its s.heap srcs k 0) (hG : Gives s.heap srcs k xs) (hal : (s.heap.get? a.toNat).isNone = false) (hn : srcs.length ≤ 1000)
    (hQ : ∀ h', Zst h' z TI TO (.int a t) (.bool true) → Its h' srcs k srcs.length → TupAt h' s.heap.objs.size xs.toArray → h'.objs.size = s.heap.objs.size + 1 → Kp z TO srcs s.heap h' → (∀ o, s.heap.get? TO = some o → h'.get? TO = some o) → Q (.ref s.heap.objs.size) { s with heap := h' }) :
    wpAny (model prog w) A (zNext z) (fun fin s1 => ∃ v, fin = .done (.ret v) ∧ Q v s1) E s := by
  refine (show wpAny _ _ (field (.ref z) 2 >>= _) _ _ _ from wpAny_bind (wpAny_field hz rfl (x := .bool false) rfl (show wpAny _ _ (field (.ref z) 3 >>= _) _ _ _ from wpAny_bind (wpAny_field hz rfl (x := .ref TI) rfl (wpAny_bind (wpAny_seqItems hTI rfl ?_))))))
  have hne : (srcs.map fun e => Value.ref e.1).toArray.isEmpty = false := by
    cases srcs with
    | nil => exact absurd rfl h0
    | cons e l => rfl
  simp only [hne]
  refine (show wpAny _ _ (Builtin.SmallTypes.ownedTupleIsFree (.ref z) >>= _) _ _ _ from wpAny_bind (free_no hz hal fun h1 hz1 sb1 => ?_))
  simp only [Bool.false_eq_true, if_false]
  have hlx := hG.1
  refine wpAny_bind (MeetsSeq2.wpAny_forIn_array _ (fun rest b s' => ∃ j h', j ≤ srcs.length ∧ rest = (srcs.drop j).map (fun e => Value.ref e.1) ∧ b.1 = none ∧ b.2.toList = xs.take j ∧ s' = { s with heap := h' } ∧ Its h' srcs k j ∧ Zst h' z TI TO (.int a t) (.bool true) ∧ h'.objs.size = s.heap.objs.size ∧ Kp z TO srcs s.heap h' ∧ (∀ o, s.heap.get? TO = some o → h'.get? TO = some o)) _ (fun x rest b s' hi => ?_) (fun b s' hi => ?_) _ _ ?_)
  · obtain ⟨j, h', hj, hr, hb1, hb2, rfl, hIt, hz', hsz, hk, hTO⟩ := hi
    obtain ⟨e, he, rfl, hr2⟩ := drop_at hr
    obtain ⟨ys, hs, hy⟩ := hG.2 j e he
    have hjl := (List.getElem?_eq_some_iff.mp he).1
    obtain ⟨v, hv⟩ : ∃ v, xs[j]? = some v := ⟨_, List.getElem?_eq_getElem (by omega)⟩
    rw [hv] at hy
    have hit := hIt j e he
    rw [if_neg (by omega)] at hit
    have hem := List.mem_of_getElem? he
    have hs' : SeqO h' e.2.1 ys e.2.2 := hs.at fun o q => hk _ o (D.lz e hem).1 (D.lz e hem).2 (fun f hf => D.ls e hem f hf) q
    obtain ⟨b1, b2⟩ := b
    simp only at hb1 hb2
    subst hb1
    refine wpAny_bind (wpAny_holding ?_)
    show wpAny _ _ (Builtin.SmallTypes.nextOf (.ref e.1) >>= _) _ _ _
    refine wpAny_bind (next_o hit hs' hy fun h2 hit2 sb => wpAny_pure (wpAny_pure ?_))
    obtain ⟨n1, n2, n3⟩ := D.it e hem
    refine ⟨j + 1, h2, by omega, hr2, rfl, ?_, rfl, its_step he D.nd hIt hit2 sb, sb.extBut _ _ (Ne.symm n1) hz', by rw [sb.1, hsz], fun c o c1 c2 c3 q => sb.extBut _ _ (c3 e hem) (hk c o c1 c2 c3 q), fun o q => sb.extBut _ _ (Ne.symm n3) (hTO o q)⟩
    rw [List.take_add_one, hv]
    simp [hb2]
  · obtain ⟨j, h', hj, hr, hb1, hb2, rfl, hIt, hz', hsz, hk, hTO⟩ := hi
    have hjl : j = srcs.length := by
      have := congrArg List.length hr
      simp at this
      omega
    subst hjl
    obtain ⟨b1, b2⟩ := b
    simp only at hb1 hb2
    subst hb1
    have hb : b2.toList = xs := by rw [hb2, ← hlx, List.take_length]
    refine wpAny_bind (wpAny_newTuple ?_ (by rw [hb, hlx]; exact Nat.le_trans hn (by decide)))
    refine wpAny_pure ⟨_, rfl, ?_⟩
    show Q (.ref h'.objs.size) _
    rw [hsz]
    refine hQ _ (Heap.get?_push_of_some _ hz') (fun i e he => (hIt i e he).at fun o q => Heap.get?_push_of_some _ q) ?_ (by rw [Heap.size_push, hsz]) (fun c o c1 c2 c3 q => Heap.get?_push_of_some _ (hk c o c1 c2 c3 q)) (fun o q => Heap.get?_push_of_some _ (hTO o q))
    rw [← hsz, ← hb]
    exact Heap.get?_push_size _ rfl
  · refine ⟨0, h1, by omega, by simp, rfl, by simp, rfl, fun i e he => (hI i e he).at fun o q => sb1.extBut _ _ (D.it e (List.mem_of_getElem? he)).1 q, hz1, sb1.1, fun c o c1 c2 c3 q => sb1.extBut _ _ c1 q, fun o q => sb1.extBut _ _ D.zO q⟩
theorem upd_tup {T : Addr} {ws : Array Value} {x : Value} {k : Nat} {Q : Unit → Shared → Prop} (hT : TupAt s.heap T ws) (hz : ws.size ≤ 1000)
    (h : ∀ h', TupAt h' T (ws.setIfInBounds k x) → Heap.SameBut T s.heap h' → Q () { s with heap := h' }) : wpAny (model prog w) A (updateSeq T (·.setIfInBounds k x)) Q E s := by
  refine wpAny_updateSeq hT rfl (h _ ?_ (Heap.SameBut.update ..)) (Nat.le_trans hz (by decide)) (by rw [Array.size_setIfInBounds]; exact Nat.le_trans hz (by decide))
  show Heap.get? _ _ = _
  rw [Heap.get?_update_self _ hT rfl]
  simp [Obj.mapSeq]
theorem dropI_at {l : List Value} {j : Nat} {x : Value × Nat} {rest : List (Value × Nat)} (h : x :: rest = l.zipIdx.drop j) : l[j]? = some x.1 ∧ x.2 = j ∧ rest = l.zipIdx.drop (j + 1) := by
  have hj : j < l.zipIdx.length := by
    have := congrArg List.length h
    simp at this
    rw [List.length_zipIdx]
    omega
  rw [List.drop_eq_getElem_cons hj] at h
  have hx := (List.cons.inj h).1
  have hr := (List.cons.inj h).2
  rw [List.getElem_zipIdx] at hx
  subst hx
  rw [List.length_zipIdx] at hj
  exact ⟨by rw [List.getElem?_eq_getElem hj], by simp, hr⟩
/-- the kept tuple is free: it is filled, and handed out anew -/
theorem next_own {z TI TO : Addr} {f0 f1 : Value} {ws0 : Array Value} {srcs : List Src} {k : Nat} {xs : List Value} {Q : Value → Shared → Prop} (D : Apart z TI TO srcs) (hz : Zst s.heap z TI TO f0 f1) (hf : f0 = .none ∨ ∃ a t, f0 = .int a t ∧ (s.heap.get? a.toNat).isNone = true)
    (hTI : TupAt s.heap TI (srcs.map fun e => Value.ref e.1).toArray) (hTO : TupAt s.heap TO ws0) (hws : ws0.size = srcs.length) (h0 : srcs ≠ []) (hI : Its s.heap srcs k 0) (hG : Gives s.heap srcs k xs) (hn : srcs.length ≤ 1000)
    (hQ : ∀ h', Zst h' z TI TO (rawInt s.heap.objs.size) (.bool false) → Its h' srcs k srcs.length → TupAt h' s.heap.objs.size xs.toArray → (∃ ws, TupAt h' TO ws ∧ ws.size = srcs.length) → h'.objs.size = s.heap.objs.size + 1 → Kp z TO srcs s.heap h' → Q (.ref s.heap.objs.size) { s with heap := h' }) :
    wpAny (model prog w) A (zNext z) (fun fin s1 => ∃ v, fin = .done (.ret v) ∧ Q v s1) E s := by
  refine (show wpAny _ _ (field (.ref z) 2 >>= _) _ _ _ from wpAny_bind (wpAny_field hz rfl (x := .bool false) rfl (show wpAny _ _ (field (.ref z) 3 >>= _) _ _ _ from wpAny_bind (wpAny_field hz rfl (x := .ref TI) rfl (wpAny_bind (wpAny_seqItems hTI rfl ?_))))))
  have hne : (srcs.map fun e => Value.ref e.1).toArray.isEmpty = false := by
    cases srcs with
    | nil => exact absurd rfl h0
    | cons e l => rfl
  simp only [hne]
  refine (show wpAny _ _ (Builtin.SmallTypes.ownedTupleIsFree (.ref z) >>= _) _ _ _ from wpAny_bind (free_yes hz hf ?_))
  simp only [if_true]
  refine wpAny_bind (wpAny_rule ?_)
  refine wpAny_bind (wpAny_field hz rfl (x := .ref TO) rfl ?_)
  refine wpAny_bind (wpAny_setField_rec hz (by simp) fun h1 hz1 sb1 => ?_)
  replace hz1 : Zst h1 z TI TO .ellipsis f1 := hz1
  have hlx := hG.1
  refine wpAny_bind (wpAny_forIn_list _ (fun rest b s' => ∃ j h' ws, j ≤ srcs.length ∧ rest = (srcs.map fun e => Value.ref e.1).zipIdx.drop j ∧ b = (none, ()) ∧ s' = { s with heap := h' } ∧ Its h' srcs k j ∧ Zst h' z TI TO .ellipsis f1 ∧ h'.objs.size = s.heap.objs.size ∧ Kp z TO srcs s.heap h' ∧ TupAt h' TO ws ∧ ws.size = srcs.length ∧ ∀ i, i < j → ws[i]? = xs[i]?) _ (fun x rest b s' hi => ?_) (fun b s' hi => ?_) _ _ ?_)
  · obtain ⟨j, h', ws, hj, hr, rfl, rfl, hIt, hz', hsz, hk, hTO', hw, hit0⟩ := hi
    obtain ⟨hx1, hx2, hr2⟩ := dropI_at hr
    rw [List.getElem?_map] at hx1
    cases he : srcs[j]? with
    | none => rw [he] at hx1; cases hx1
    | some e =>
    rw [he] at hx1
    obtain ⟨x1, x2⟩ := x
    simp only at hx1 hx2
    cases hx1
    subst hx2
    obtain ⟨ys, hs, hy⟩ := hG.2 x2 e he
    have hjl := (List.getElem?_eq_some_iff.mp he).1
    obtain ⟨v, hv⟩ : ∃ v, xs[x2]? = some v := ⟨_, List.getElem?_eq_getElem (by omega)⟩
    rw [hv] at hy
    have hit := hIt x2 e he
    rw [if_neg (by omega)] at hit
    have hem := List.mem_of_getElem? he
    have hs' : SeqO h' e.2.1 ys e.2.2 := hs.at fun o q => hk _ o (D.lz e hem).1 (D.lz e hem).2 (fun f hf => D.ls e hem f hf) q
    obtain ⟨n1, n2, n3⟩ := D.it e hem
    refine wpAny_bind (wpAny_onRaise ?_)
    show wpAny _ _ (Builtin.SmallTypes.nextOf (.ref e.1) >>= _) _ _ _
    refine wpAny_bind (next_o hit hs' hy fun h2 hit2 sb => wpAny_pure ?_)
    have hTO2 : TupAt h2 TO ws := sb.extBut _ _ (Ne.symm n3) hTO'
    refine wpAny_bind (wpAny_seqItems hTO2 rfl ?_)
    refine wpAny_bind (upd_tup hTO2 (by omega) fun h3 hTO3 sb3 => ?_)
    refine wpAny_bind (wpAny_letGo (wpAny_pure ?_))
    have I2 := its_step he D.nd hIt hit2 sb
    refine ⟨x2 + 1, h3, _, by omega, hr2, rfl, rfl, fun i f hf => (I2 i f hf).at fun o q => sb3.extBut _ _ (D.it f (List.mem_of_getElem? hf)).2.2 q, sb3.extBut _ _ (Ne.symm D.zO) (sb.extBut _ _ (Ne.symm n1) hz'), by rw [sb3.1, sb.1, hsz], fun c o c1 c2 c3 q => sb3.extBut _ _ c2 (sb.extBut _ _ (c3 e hem) (hk c o c1 c2 c3 q)), hTO3, by rw [Array.size_setIfInBounds]; exact hw, fun i hi => ?_⟩
    rw [Array.getElem?_setIfInBounds]
    by_cases hii : x2 = i
    · subst hii
      rw [if_pos rfl, if_pos (by omega), hv]
    · rw [if_neg hii]
      exact hit0 i (by omega)
  · obtain ⟨j, h', ws, hj, hr, rfl, rfl, hIt, hz', hsz, hk, hTO', hw, hit0⟩ := hi
    have hjl : j = srcs.length := by
      have := congrArg List.length hr
      rw [List.length_drop, List.length_zipIdx, List.length_map] at this
      simp at this
      omega
    subst hjl
    have hwx : ws.toList = xs := by
      refine List.ext_getElem? fun i => ?_
      by_cases hi : i < srcs.length
      · rw [← hit0 i hi, Array.getElem?_toList]
      · rw [List.getElem?_eq_none (by rw [Array.length_toList]; omega), List.getElem?_eq_none (by omega)]
    refine wpAny_bind (wpAny_seqItems hTO' rfl ?_)
    refine wpAny_bind (wpAny_newTuple ?_ (by rw [hwx, hlx]; exact Nat.le_trans hn (by decide)))
    show wpAny _ _ (Builtin.SmallTypes.ownedTupleHandOut (.ref z) (.ref h'.objs.size) >>= _) _ _ _
    refine wpAny_bind ?_
    unfold Builtin.SmallTypes.ownedTupleHandOut
    have hz6 : Zst (h'.push { cls := .type "tuple", data := .seq ws.toList.toArray }) z TI TO .ellipsis f1 := Heap.get?_push_of_some _ hz'
    refine wpAny_bind (wpAny_setField_rec hz6 (by simp) fun h7 hz7 sb7 => ?_)
    replace hz7 : Zst h7 z TI TO (rawInt h'.objs.size) f1 := hz7
    refine wpAny_setField_rec hz7 (by simp) fun h8 hz8 sb8 => ?_
    replace hz8 : Zst h8 z TI TO (rawInt h'.objs.size) (.bool false) := hz8
    have up : ∀ c o, c ≠ z → h'.get? c = some o → h8.get? c = some o := fun c o c1 q => sb8.extBut _ _ c1 (sb7.extBut _ _ c1 (Heap.get?_push_of_some _ q))
    have hzlt : z < h'.objs.size := Heap.lt_size hz'
    have hT8 : TupAt h8 h'.objs.size ws.toList.toArray := sb8.extBut _ _ (Nat.ne_of_gt hzlt) (sb7.extBut _ _ (Nat.ne_of_gt hzlt) (Heap.get?_push_size _ rfl))
    have hs8 : h8.objs.size = h'.objs.size + 1 := by rw [sb8.1, sb7.1, Heap.size_push]
    rw [hsz, hwx] at hT8
    rw [hsz] at hz8 hs8
    refine wpAny_pure ⟨_, rfl, ?_⟩
    show Q (.ref h'.objs.size) _
    rw [hsz]
    exact hQ h8 hz8 (fun i e he => (hIt i e he).at fun o q => up _ o (D.it e (List.mem_of_getElem? he)).1 q) hT8 ⟨ws, up _ _ D.zO hTO', hw⟩ hs8 fun c o c1 c2 c3 q => up c o c1 (hk c o c1 c2 c3 q)
  · refine ⟨0, h1, ws0, by omega, by simp, rfl, rfl, fun i e he => (hI i e he).at fun o q => sb1.extBut _ _ (D.it e (List.mem_of_getElem? he)).1 q, hz1, sb1.1, fun c o c1 c2 c3 q => sb1.extBut _ _ c1 q, sb1.extBut _ _ D.zO hTO, hws, fun i hi => by omega⟩
end
end ZN

set_option Elab.async false
set_option linter.all false
set_option maxRecDepth 100000
set_option maxHeartbeats 2000000
/-! zip of any number: its end, its turns. -/
namespace ZN
open PySem PySem.Spec PyProof.Rows L2 RZ
section
variable {s : Shared} {prog : Program} {w : World} {E : Value → Shared → Prop} {A : Around}
/-- the first has no more -/
theorem next_end {z TI TO : Addr} {f0 f1 : Value} {e : Src} {l : List Src} {k : Nat} {ys : Array Value} {Q : Fin → Shared → Prop} (hh : A.handled = none) (D : Apart z TI TO (e :: l)) (hz : Zst s.heap z TI TO f0 f1) (hf : f0 = .none ∨ ∃ a t b, f0 = .int a t ∧ f1 = .bool b)
    (hTI : TupAt s.heap TI ((e :: l).map fun e => Value.ref e.1).toArray) (hI : ItAt s.heap e.1 e.2.1 k e.2.2) (hs : SeqO s.heap e.2.1 ys e.2.2) (hy : ys[k]? = none)
    (hE : ∀ h' x, Kp z TO (e :: l) s.heap h' → (∃ o, h'.get? x = some o ∧ o.cls = .type "StopIteration") → E (.ref x) { s with heap := h' }) :
    wpAny (model prog w) A (zNext z) Q E s := by
  refine (show wpAny _ _ (field (.ref z) 2 >>= _) _ _ _ from wpAny_bind (wpAny_field hz rfl (x := .bool false) rfl (show wpAny _ _ (field (.ref z) 3 >>= _) _ _ _ from wpAny_bind (wpAny_field hz rfl (x := .ref TI) rfl (wpAny_bind (wpAny_seqItems hTI rfl ?_))))))
  have hne : ((e :: l).map fun e => Value.ref e.1).toArray.isEmpty = false := rfl
  simp only [hne]
  obtain ⟨n1, n2, n3⟩ := D.it e (by simp)
  have sp : (f0 = .none ∨ ∃ a t, f0 = .int a t ∧ (s.heap.get? a.toNat).isNone = true) ∨ ∃ a t b, f0 = .int a t ∧ f1 = .bool b ∧ (s.heap.get? a.toNat).isNone = false := by
    rcases hf with h | ⟨a, t, b, h, h'⟩
    · exact .inl (.inl h)
    · cases hx : (s.heap.get? a.toNat).isNone with
      | true => exact .inl (.inr ⟨a, t, h, hx⟩)
      | false => exact .inr ⟨a, t, b, h, h', hx⟩
  rcases sp with hfree | ⟨a, t, b, rfl, rfl, hal⟩
  · refine (show wpAny _ _ (Builtin.SmallTypes.ownedTupleIsFree (.ref z) >>= _) _ _ _ from wpAny_bind (free_yes hz hfree ?_))
    simp only [if_true]
    refine wpAny_bind (wpAny_rule ?_)
    refine wpAny_bind (wpAny_field hz rfl (x := .ref TO) rfl ?_)
    refine wpAny_bind (wpAny_setField_rec hz (by simp) fun h1 hz1 sb1 => ?_)
    replace hz1 : Zst h1 z TI TO .ellipsis f1 := hz1
    have hI1 : ItAt h1 e.1 e.2.1 k e.2.2 := hI.at fun o q => sb1.extBut _ _ n1 q
    have hs1 : SeqO h1 e.2.1 ys e.2.2 := hs.at fun o q => sb1.extBut _ _ (D.lz e (by simp)).1 q
    refine wpAny_bind (wpAny_forIn_list _ (fun rest b' s' => rest = ((e :: l).map fun e => Value.ref e.1).zipIdx ∧ s' = { s with heap := h1 }) _ (fun x rest b' s' hi => ?_) (fun b' s' hi => by cases hi.1) _ _ ⟨rfl, rfl⟩)
    obtain ⟨hr, rfl⟩ := hi
    cases hr
    refine wpAny_bind (wpAny_onRaise ?_)
    show wpAny _ _ (Builtin.SmallTypes.nextOf (.ref e.1) >>= _) _ _ _
    refine wpAny_bind (next_e hh hI1 hs1 hy fun h2 x hs2 hx => ?_)
    obtain ⟨oe, hoe, hce⟩ := hx
    have hz2 : Zst h2 z TI TO .ellipsis f1 := hs2 _ _ (Ne.symm n1) hz1
    have hez : x ≠ z := fun q => by
      subst q
      rw [hz2] at hoe
      cases hoe
      simp at hce
    refine wpAny_setField_rec hz2 (by simp) fun h3 _ sb3 => ?_
    exact hE h3 x (fun c o c1 c2 c3 q => sb3.extBut _ _ c1 (hs2 _ _ (c3 e (by simp)) (sb1.extBut _ _ c1 q))) ⟨oe, sb3.extBut _ _ hez hoe, hce⟩
  · refine (show wpAny _ _ (Builtin.SmallTypes.ownedTupleIsFree (.ref z) >>= _) _ _ _ from wpAny_bind (free_no hz hal fun h1 hz1 sb1 => ?_))
    simp only [Bool.false_eq_true, if_false]
    have hI1 : ItAt h1 e.1 e.2.1 k e.2.2 := hI.at fun o q => sb1.extBut _ _ n1 q
    have hs1 : SeqO h1 e.2.1 ys e.2.2 := hs.at fun o q => sb1.extBut _ _ (D.lz e (by simp)).1 q
    refine wpAny_bind (MeetsSeq2.wpAny_forIn_array _ (fun rest b' s' => rest = (e :: l).map (fun e => Value.ref e.1) ∧ s' = { s with heap := h1 }) _ (fun x rest b' s' hi => ?_) (fun b' s' hi => by cases hi.1) _ _ ⟨by simp, rfl⟩)
    obtain ⟨hr, rfl⟩ := hi
    cases hr
    refine wpAny_bind (wpAny_holding ?_)
    show wpAny _ _ (Builtin.SmallTypes.nextOf (.ref e.1) >>= _) _ _ _
    refine wpAny_bind (next_e hh hI1 hs1 hy fun h2 x hs2 hx => ?_)
    exact hE h2 x (fun c o c1 c2 c3 q => hs2 _ _ (c3 e (by simp)) (sb1.extBut _ _ c1 q)) hx
theorem iter_zip {o TI TO : Addr} {f0 f1 : Value} {Q : Value → Shared → Prop} (hz : Zst s.heap o TI TO f0 f1) (h : Q (.ref o) s) : wpAny (model prog w) A (pyIter (.ref o)) Q E s := by
  have ty : s.TypeIs (.ref o) "zip" := ⟨_, hz, rfl⟩
  exact wpAny_pyIter_slot ty F.slot_zip_iter (wpAny_call_entry F.slot_zip_iter ty F.entry_zip_iter (show wpAny _ _ (ret (.ref o)) _ _ s from wpAny_pure ⟨_, rfl, "zip", _, ty, F.slot_zip_next.lookup, h⟩) (F.args_zip_iter_1 _))
/-- what the zip object holds ahead of a turn -/
structure ZS (h : Heap) (z TI TO : Addr) (srcs : List Src) (k : Nat) : Prop where
  st : ∃ f0 f1, Zst h z TI TO f0 f1 ∧ (f0 = .none ∨ ∃ a t b, f0 = .int a t ∧ f1 = .bool b)
  ti : TupAt h TI (srcs.map fun e => Value.ref e.1).toArray
  to_ : ∃ ws, TupAt h TO ws ∧ ws.size = srcs.length
  its : Its h srcs k 0
theorem its_all {h : Heap} {srcs : List Src} {k : Nat} (I : Its h srcs k srcs.length) : Its h srcs (k + 1) 0 := fun i e he => by
  have := I i e he
  have hi := (List.getElem?_eq_some_iff.mp he).1
  rw [if_pos hi] at this
  rw [if_neg (by omega)]
  exact this
/-- a turn -/
theorem turn_item {z TI TO : Addr} {srcs : List Src} {k : Nat} {xs : List Value} {Q : Option Value → Shared → Prop} (D : Apart z TI TO srcs) (Z : ZS s.heap z TI TO srcs k) (h0 : srcs ≠ []) (hG : Gives s.heap srcs k xs) (hn : srcs.length ≤ 1000)
    (hQ : ∀ h', ZS h' z TI TO srcs (k + 1) → TupAt h' s.heap.objs.size xs.toArray → h'.objs.size = s.heap.objs.size + 1 → Kp z TO srcs s.heap h' → Q (some (.ref s.heap.objs.size)) { s with heap := h' }) : wpAny (model prog w) A (pyNext (.ref z)) Q E s := by
  obtain ⟨f0, f1, hz, hf⟩ := Z.st
  obtain ⟨ws, hTO, hws⟩ := Z.to_
  have ty : s.TypeIs (.ref z) "zip" := ⟨_, hz, rfl⟩
  have hsz : TI < s.heap.objs.size := Heap.lt_size Z.ti
  have keepTI : ∀ h', Kp z TO srcs s.heap h' → TupAt h' TI (srcs.map fun e => Value.ref e.1).toArray := fun h' hk => hk TI _ D.zI D.IO (fun e he => Ne.symm (D.it e he).2.1) Z.ti
  have key : wpAny (model prog w) A.in1 (zNext z) (fun fin s' => ∃ v, fin = .done (.ret v) ∧ ∃ h', v = .ref s.heap.objs.size ∧ s' = { s with heap := h' } ∧ ZS h' z TI TO srcs (k + 1) ∧ TupAt h' s.heap.objs.size xs.toArray ∧ h'.objs.size = s.heap.objs.size + 1 ∧ Kp z TO srcs s.heap h') (fun _ _ => False) s := by
    have sp : (f0 = .none ∨ ∃ a t, f0 = .int a t ∧ (s.heap.get? a.toNat).isNone = true) ∨ ∃ a t b, f0 = .int a t ∧ f1 = .bool b ∧ (s.heap.get? a.toNat).isNone = false := by
      rcases hf with h | ⟨a, t, b, h, h'⟩
      · exact .inl (.inl h)
      · cases hx : (s.heap.get? a.toNat).isNone with
        | true => exact .inl (.inr ⟨a, t, h, hx⟩)
        | false => exact .inr ⟨a, t, b, h, h', hx⟩
    rcases sp with hfree | ⟨a, t, b, rfl, rfl, hal⟩
    · exact next_own D hz hfree Z.ti hTO hws h0 Z.its hG hn fun h' z1 z2 z3 z4 z5 z6 => ⟨h', rfl, rfl, ⟨⟨_, _, z1, .inr ⟨_, _, _, rfl, rfl⟩⟩, keepTI h' z6, z4, its_all z2⟩, z3, z5, z6⟩
    · exact next_new D hz Z.ti h0 Z.its hG hal hn fun h' z1 z2 z3 z4 z5 z6 => ⟨h', rfl, rfl, ⟨⟨_, _, z1, .inr ⟨_, _, _, rfl, rfl⟩⟩, keepTI h' z5, ⟨ws, z6 _ hTO, hws⟩, its_all z2⟩, z3, z4, z5⟩
  unfold pyNext
  refine wpAny_bind (wpAny_attempt (wpAny_callSpecial?_slot (name := Str.ofString "__next__") ty F.slot_zip_next (wpAny_call_entry F.slot_zip_next ty F.entry_zip_next (wpAny_mono key (fun fin s' hr => ?_) (fun _ _ q => q.elim)) (F.args_zip_next_1 _))))
  obtain ⟨v, e1, h', rfl, rfl, a1, a2, a3, a4⟩ := hr
  exact ⟨_, e1, wpAny_pure (hQ h' a1 a2 a3 a4)⟩
theorem turn_end {z TI TO : Addr} {e : Src} {l : List Src} {k : Nat} {ys : Array Value} {Q : Option Value → Shared → Prop} (hh : A.handled = none) (D : Apart z TI TO (e :: l)) (Z : ZS s.heap z TI TO (e :: l) k) (hs : SeqO s.heap e.2.1 ys e.2.2) (hy : ys[k]? = none)
    (hQ : ∀ h', Kp z TO (e :: l) s.heap h' → Q none { s with heap := h' }) : wpAny (model prog w) A (pyNext (.ref z)) Q E s := by
  obtain ⟨f0, f1, hz, hf⟩ := Z.st
  have ty : s.TypeIs (.ref z) "zip" := ⟨_, hz, rfl⟩
  have hI := Z.its 0 e rfl
  unfold pyNext
  refine wpAny_bind (wpAny_attempt (wpAny_callSpecial?_slot (name := Str.ofString "__next__") ty F.slot_zip_next (wpAny_call_entry F.slot_zip_next ty F.entry_zip_next (next_end hh D hz hf Z.ti hI hs hy fun h' x hk hx => ?_) (F.args_zip_next_1 _))))
  obtain ⟨o, ho, hc⟩ := hx
  exact wpAny_bind (wpAny_isInstance (T := "StopIteration") (b := true) ⟨o, ho, hc⟩ isSubtype_stop (wpAny_pure (hQ _ hk)))
end
end ZN

set_option Elab.async false
set_option linter.all false
set_option maxRecDepth 100000
set_option maxHeartbeats 2000000
/-! zip of any number: an iterator of L2. -/
namespace ZN
open PySem PySem.Spec PyProof.Rows L2 RZ
def SqO (K : PySem.W.Frag) (H : Hp) (l : Addr) (xs : List V) (b : Bool) : Prop := if b then SqT K H l xs else SqL K H l xs
/-- the lists at es, turn by turn their items in a new tuple -/
def ItzN (K : PySem.W.Frag) (es : List (Addr × Bool)) : It :=
  ⟨fun i H => ∃ xs : List V, xs.length = es.length ∧ ∀ (j : Nat) (e : Addr × Bool), es[j]? = some e → ∃ ys, SqO K H e.1 ys e.2 ∧ ys[i]? = xs[j]?,
    fun i H v H' => ∃ (T : Addr) (xs : List V), v = .ref T ∧ H T = none ∧ H' = upd H T (.tup xs) ∧ xs.length = es.length ∧ ∀ (j : Nat) (e : Addr × Bool) (ys : List V), es[j]? = some e → SqO K H e.1 ys e.2 → ys[i]? = xs[j]?,
    fun i H => ∃ e es' ys, es = e :: es' ∧ SqO K H e.1 ys e.2 ∧ ys.length ≤ i⟩
/-- a target that is a name or a tuple -/
def nmTp : Expr → Bool
  | .Name _ _ => true
  | .Tuple _ _ _ => true
  | _ => false
section
variable {s : Shared} {prog : Program} {w : World} {E : Value → Shared → Prop} {A : Around}
theorem go_zip {tg : Expr} {z TI TO T : Addr} {srcs : List Src} {k : Nat} {Q : Unit → Shared → Prop} (ht : nmTp tg = true) (D : Apart z TI TO srcs) (Z : ZS s.heap z TI TO srcs k) (hT : T ≠ z) (hQ : ∀ h', ZS h' z TI TO srcs k → Heap.SameBut z s.heap h' → Q () { s with heap := h' }) :
    wpAny (model prog w) A (letOwnedTupleGo tg (.ref z) (.ref T)) Q E s := by
  have stay : Q () s := hQ s.heap Z ⟨rfl, fun _ _ => rfl⟩
  cases tg with
  | Name x p => exact wpAny_pure stay
  | Tuple es c p =>
    obtain ⟨f0, f1, hz, hf⟩ := Z.st
    unfold letOwnedTupleGo
    refine wpAny_bind (wpAny_load hz ?_)
    show wpAny _ _ (if (_ && (#[f0, f1, .bool false, .ref TI, .ref TO] : Array Value)[0]? == some (rawInt T)) = true then _ else _) Q E s
    split
    · refine wpAny_bind (wpAny_rule ?_)
      show wpAny _ _ (setField (.ref z) 0 .none) Q E s
      refine wpAny_setField_rec hz (by simp) fun h' hz' sb => hQ h' ⟨⟨.none, f1, hz', .inl rfl⟩, sb.extBut _ _ D.zI Z.ti, ?_, fun i e he => (Z.its i e he).at fun o q => sb.extBut _ _ (D.it e (List.mem_of_getElem? he)).1 q⟩ sb
      obtain ⟨ws, h1, h2⟩ := Z.to_
      exact ⟨ws, sb.extBut _ _ D.zO h1, h2⟩
    · exact wpAny_pure stay
  | _ => cases ht
end
theorem mem_fp {z TI TO : Addr} {srcs : List Src} {c : Addr} : c ∈ fpN z TI TO srcs ↔ c = z ∨ c = TI ∨ c = TO ∨ ∃ e ∈ srcs, c = e.1 := by
  unfold fpN
  simp only [List.mem_cons, List.mem_map]
  refine ⟨fun h => ?_, fun h => ?_⟩
  · rcases h with h | h | h | ⟨e, h1, h2⟩
    · exact .inl h
    · exact .inr (.inl h)
    · exact .inr (.inr (.inl h))
    · exact .inr (.inr (.inr ⟨e, h1, h2.symm⟩))
  · rcases h with h | h | h | ⟨e, h1, h2⟩
    · exact .inl h
    · exact .inr (.inl h)
    · exact .inr (.inr (.inl h))
    · exact .inr (.inr (.inr ⟨e, h1, h2.symm⟩))
theorem sqo_heap {X : Cx} {pins : List (Addr × Obj)} {σ : L2.St} {H : Hp} {s : Shared} {l : Addr} {ys : List V} {b : Bool} (I : Inv X pins σ H s) (h : SqO X.K H l ys b) : ∃ its : List Value, Vals ys its ∧ SeqO s.heap l its.toArray b := by
  cases b with
  | true =>
    obtain ⟨its, rv, p, _⟩ := I.tuple (show SqT X.K H l ys from h)
    exact ⟨its, rv, p⟩
  | false =>
    obtain ⟨its, rv, p, _⟩ := I.list (show SqL X.K H l ys from h)
    exact ⟨its, rv, p.isList⟩
theorem sqo_inj {X : Cx} {pins : List (Addr × Obj)} {σ : L2.St} {H : Hp} {s : Shared} {l : Addr} {ys zs : List V} {b : Bool} (I : Inv X pins σ H s) (h : SqO X.K H l ys b) (h' : SqO X.K H l zs b) : ys = zs := by
  cases b with
  | true => exact I.tuple_inj (show SqT X.K H l ys from h) (show SqT X.K H l zs from h')
  | false => exact I.list_inj (show SqL X.K H l ys from h) (show SqL X.K H l zs from h')
/-- the values at a turn -/
theorem gives_of {X : Cx} {pins : List (Addr × Obj)} {σ : L2.St} {H : Hp} {s : Shared} {i : Nat} (I : Inv X pins σ H s) : ∀ {srcs : List Src} {xs : List V}, xs.length = srcs.length → (∀ (j : Nat) (e : Src), srcs[j]? = some e → ∃ ys, SqO X.K H e.2.1 ys e.2.2 ∧ ys[i]? = xs[j]?) → ∃ us, Vals xs us ∧ Gives s.heap srcs i us
  | [], [], _, _ => ⟨[], .nil, rfl, fun j e he => nomatch he⟩
  | [], _ :: _, h, _ => nomatch h
  | _ :: _, [], h, _ => nomatch h
  | e :: srcs, x :: xs, hl, h => by
    obtain ⟨us, h1, h2, h3⟩ := gives_of I (srcs := srcs) (xs := xs) (by simpa using hl) fun j f hf => h (j + 1) f hf
    obtain ⟨ys, hq, hy⟩ := h 0 e rfl
    obtain ⟨its, rv, p⟩ := sqo_heap I hq
    obtain ⟨u, hu, ru⟩ := rv.get (show ys[i]? = some x from hy)
    refine ⟨u :: us, .cons ru h1, by simp [h2], fun j f hf => ?_⟩
    cases j with
    | zero =>
      cases hf
      exact ⟨its.toArray, p, by simpa using hu⟩
    | succ j => exact h3 j f hf
theorem turn_zipN {P : Program} {w : World} {K : PySem.W.Frag} {tg : Expr} {z TI TO : Addr} {srcs : List Src} (ht : nmTp tg = true) (D : Apart z TI TO srcs) (h0 : srcs ≠ []) (hn : srcs.length ≤ 1000) :
    Turn P w K tg (ItzN K (srcs.map fun e => (e.2.1, e.2.2))) (fpN z TI TO srcs) z (fun i h => ZS h z TI TO srcs i) where
  mem := mem_fp.mpr (.inl rfl)
  obj := fun i h Z c hc => by
    rcases mem_fp.mp hc with rfl | rfl | rfl | ⟨e, he, rfl⟩
    · obtain ⟨f0, f1, hz, _⟩ := Z.st
      exact ⟨_, hz, fun v q => nomatch q⟩
    · exact ⟨_, Z.ti, fun v q => nomatch q⟩
    · obtain ⟨ws, h1, _⟩ := Z.to_
      exact ⟨_, h1, fun v q => nomatch q⟩
    · obtain ⟨j, hj, e'⟩ := List.getElem_of_mem he
      exact (Z.its j e (by rw [List.getElem?_eq_getElem hj, e'])).obj
  keep := fun i h h' Z k => by
    obtain ⟨f0, f1, hz, hf⟩ := Z.st
    obtain ⟨ws, h1, h2⟩ := Z.to_
    exact ⟨⟨f0, f1, k z (mem_fp.mpr (.inl rfl)) _ hz, hf⟩, k TI (mem_fp.mpr (.inr (.inl rfl))) _ Z.ti, ⟨ws, k TO (mem_fp.mpr (.inr (.inr (.inl rfl)))) _ h1, h2⟩, fun j e he => (Z.its j e he).at fun o q => k e.1 (mem_fp.mpr (.inr (.inr (.inr ⟨e, List.mem_of_getElem? he, rfl⟩)))) o q⟩
  item := by
    intro X hP hw hK hc i pins s σ H E I hf Z hg
    subst hP hw hK
    obtain ⟨xs, hxl, hx⟩ := hg
    rw [List.length_map] at hxl
    obtain ⟨us, hv, hG⟩ := gives_of I hxl fun j e he => hx j (e.2.1, e.2.2) (by rw [List.getElem?_map, he] <;> rfl)
    have hzl : z < s.heap.objs.size := by
      obtain ⟨f0, f1, hz, _⟩ := Z.st
      exact Heap.lt_size hz
    refine turn_item D Z h0 hG hn fun h' Z' hT hsz hk => ⟨_, rfl, go_zip (s := { s with heap := h' }) ht D Z' (Nat.ne_of_gt hzl) fun h'' Z'' sb => ?_⟩
    have hT2 : TupAt h'' s.heap.objs.size us.toArray := (sb.2 _ (Nat.ne_of_gt hzl)).trans hT
    have hul : us.length = srcs.length := hG.1
    have new : ObjOk X.prog X.w (upd H s.heap.objs.size (.tup xs)) h'' s.heap.objs.size (.tup xs) := ⟨by rw [hxl]; exact Nat.le_trans hn (by decide), us, hv, ⟨_, hT2, rfl, _, rfl⟩⟩
    have out : ∀ b, b ∉ fpN z TI TO srcs → b ≠ z ∧ b ≠ TO ∧ ∀ e ∈ srcs, b ≠ e.1 := fun b hb => ⟨fun q => hb (mem_fp.mpr (.inl q)), fun q => hb (mem_fp.mpr (.inr (.inr (.inl q)))), fun e he q => hb (mem_fp.mpr (.inr (.inr (.inr ⟨e, he, q⟩))))⟩
    have I1 : Inv X pins σ (upd H s.heap.objs.size (.tup xs)) { s with heap := h'' } := I.turnedNew (t' := s.toks) (ch := fpN z TI TO srcs) (fun c o hb q => (sb.2 c (out c hb).1).trans (hk c o (out c hb).1 (out c hb).2.1 (out c hb).2.2 q)) hf (Nat.le_refl _) new
    refine ⟨.ref s.heap.objs.size, _, I1, rfl, ⟨_, xs, rfl, I.hok.fresh (Nat.le_refl _), rfl, by rw [hxl, List.length_map], fun j e ys' he hq' => ?_⟩, Z'', fun c hcm => ?_⟩
    · obtain ⟨ys, hq, hy⟩ := hx j e he
      rw [sqo_inj I hq' hq]
      exact hy
    have hlt : c < s.heap.objs.size := by
      rcases mem_fp.mp hcm with rfl | rfl | rfl | ⟨e, he, rfl⟩
      · exact hzl
      · exact Heap.lt_size Z.ti
      · obtain ⟨ws, h1, _⟩ := Z.to_
        exact Heap.lt_size h1
      · obtain ⟨j, hj, e'⟩ := List.getElem_of_mem he
        obtain ⟨o, ho, _⟩ := (Z.its j e (by rw [List.getElem?_eq_getElem hj, e'])).obj
        exact Heap.lt_size ho
    rw [upd_ne (Nat.ne_of_lt hlt)]
    exact (hf c hcm).1
  done := by
    intro X hP hw hK hc i pins s σ H E I hf Z hg
    subst hP hw hK
    obtain ⟨e', es', ys, hes, hq, hl⟩ := hg
    cases srcs with
    | nil => exact absurd rfl h0
    | cons e l =>
      cases hes
      obtain ⟨its, rv, p⟩ := sqo_heap I hq
      have hlen := rv.length
      refine turn_end (I.ok.hd hc) D Z p (by rw [List.getElem?_toArray, List.getElem?_eq_none (by omega)]) fun h' hk => ⟨rfl, I.turnedL (t' := s.toks) (ch := fpN z TI TO (e :: l)) (fun c o hb q => hk c o (fun x => hb (mem_fp.mpr (.inl x))) (fun x => hb (mem_fp.mpr (.inr (.inr (.inl x))))) (fun f hf' x => hb (mem_fp.mpr (.inr (.inr (.inr ⟨f, hf', x⟩))))) q) hf⟩
  self := fun A i s Q E Z h => by
    obtain ⟨f0, f1, hz, _⟩ := Z.st
    exact iter_zip hz h
end ZN

set_option Elab.async false
set_option linter.all false
set_option maxRecDepth 100000
set_option maxHeartbeats 2000000
/-! zip of any number is made. -/
namespace ZN
open PySem PySem.Spec PyProof.Rows L2 RZ
/-- iterators from m on, one for each list -/
def srcsOf : Nat → List (Addr × Bool) → List Src
  | _, [] => []
  | m, e :: l => (m, e.1, e.2) :: srcsOf (m + 1) l
theorem srcs_len : ∀ (m : Nat) (ls : List (Addr × Bool)), (srcsOf m ls).length = ls.length
  | _, [] => rfl
  | m, e :: l => congrArg (· + 1) (srcs_len (m + 1) l)
theorem srcs_at : ∀ (m : Nat) (ls : List (Addr × Bool)) (i : Nat), (srcsOf m ls)[i]? = ls[i]?.map fun e => (m + i, e.1, e.2)
  | _, [], i => rfl
  | m, e :: l, 0 => rfl
  | m, e :: l, i + 1 => by
    show (srcsOf (m + 1) l)[i]? = (l[i]?).map _
    rw [srcs_at (m + 1) l i]
    congr 1
    funext e
    rw [show m + 1 + i = m + (i + 1) by omega]
theorem srcs_snd (m : Nat) (ls : List (Addr × Bool)) : (srcsOf m ls).map (fun e => (e.2.1, e.2.2)) = ls := by
  refine List.ext_getElem? fun i => ?_
  rw [List.getElem?_map, srcs_at]
  cases ls[i]? <;> rfl
theorem srcs_fst : ∀ (m : Nat) (ls : List (Addr × Bool)), (srcsOf m ls).map (·.1) = List.range' m ls.length
  | _, [] => rfl
  | m, e :: l => by
    show m :: (srcsOf (m + 1) l).map (·.1) = _
    rw [srcs_fst (m + 1) l, List.length_cons, List.range'_succ]
theorem srcs_mem {m : Nat} {ls : List (Addr × Bool)} {e : Src} (h : e ∈ srcsOf m ls) : m ≤ e.1 ∧ e.1 < m + ls.length ∧ (e.2.1, e.2.2) ∈ ls := by
  obtain ⟨i, hi, he⟩ := List.getElem_of_mem h
  have h2 : (srcsOf m ls)[i]? = some e := by rw [List.getElem?_eq_getElem hi, he]
  rw [srcs_at] at h2
  rw [srcs_len] at hi
  rw [List.getElem?_eq_getElem hi] at h2
  cases h2
  exact ⟨Nat.le_add_right _ _, Nat.add_lt_add_left hi _, List.getElem_mem hi⟩
theorem seqo_lt {h : Heap} {l : Addr} {xs : Array Value} {b : Bool} (p : SeqO h l xs b) : l < h.objs.size := by
  cases b with
  | true =>
    obtain ⟨o, ho, _⟩ := (show h.IsTuple l xs from p)
    exact Heap.lt_size ho
  | false =>
    obtain ⟨o, ho, _⟩ := (show h.IsList l xs from p)
    exact Heap.lt_size ho
theorem apart_new {m : Nat} {ls : List (Addr × Bool)} (h : ∀ e ∈ ls, e.1 < m) : Apart (m + ls.length + 2) (m + ls.length) (m + ls.length + 1) (srcsOf m ls) where
  nd := by rw [srcs_fst]; exact List.nodup_range'
  zI := Nat.ne_of_lt (by omega)
  zO := Nat.ne_of_lt (by omega)
  IO := Nat.ne_of_lt (by omega)
  it := fun e he => by
    obtain ⟨h1, h2, _⟩ := srcs_mem he
    exact ⟨Nat.ne_of_lt (Nat.lt_trans h2 (by omega)), Nat.ne_of_lt h2, Nat.ne_of_lt (Nat.lt_trans h2 (by omega))⟩
  ls := fun e he f hf => by
    obtain ⟨h1, h2, h3⟩ := srcs_mem he
    obtain ⟨k1, k2, _⟩ := srcs_mem hf
    exact Nat.ne_of_lt (Nat.lt_of_lt_of_le (h _ h3) k1)
  lz := fun e he => by
    obtain ⟨h1, h2, h3⟩ := srcs_mem he
    exact ⟨Nat.ne_of_lt (Nat.lt_of_lt_of_le (h _ h3) (by omega)), Nat.ne_of_lt (Nat.lt_of_lt_of_le (h _ h3) (by omega))⟩
section
variable {s : Shared} {prog : Program} {w : World} {E : Value → Shared → Prop} {A : Around}
theorem iter_o {l : Addr} {xs : Array Value} {b : Bool} {Q : Value → Shared → Prop} (p : SeqO s.heap l xs b) (hQ : ∀ h', ItAt h' s.heap.objs.size l 0 b → h'.objs.size = s.heap.objs.size + 1 → (∀ c o, s.heap.get? c = some o → h'.get? c = some o) → Q (.ref s.heap.objs.size) { s with heap := h' }) :
    wpAny (model prog w) A (pyIter (.ref l)) Q E s := by
  cases b with
  | true => exact wpAny_pyIter_tuple (show s.heap.IsTuple l xs from p) (hQ _ ⟨_, Heap.get?_push_size _ rfl, rfl, rfl⟩ (Heap.size_push ..) fun c o q => Heap.get?_push_of_some _ q)
  | false => exact wpAny_pyIter_list (show s.heap.IsList l xs from p) (hQ _ ⟨_, Heap.get?_push_size _ rfl, rfl, rfl⟩ (Heap.size_push ..) fun c o q => Heap.get?_push_of_some _ q)
/-- an iterator of each -/
theorem iter_all {ls : List (Addr × Bool)} {Q : List Value → Shared → Prop} (hx : ∀ e ∈ ls, ∃ xs, SeqO s.heap e.1 xs e.2) (hQ : ∀ h', Its h' (srcsOf s.heap.objs.size ls) 0 0 → h'.objs.size = s.heap.objs.size + ls.length → (∀ c o, s.heap.get? c = some o → h'.get? c = some o) → Q ((srcsOf s.heap.objs.size ls).map fun e => Value.ref e.1) { s with heap := h' }) :
    wpAny (model prog w) A (Builtin.SmallTypes.iterAll (ls.map fun e => Value.ref e.1)) Q E s := by
  unfold Builtin.SmallTypes.iterAll
  refine wpAny_bind (wpAny_forIn_list _ (fun rest b s' => ∃ j h', j ≤ ls.length ∧ rest = (ls.drop j).map (fun e => Value.ref e.1) ∧ b.toList = ((srcsOf s.heap.objs.size ls).take j).map (fun e => Value.ref e.1) ∧ s' = { s with heap := h' } ∧ (∀ (i : Nat) (e : Src), i < j → (srcsOf s.heap.objs.size ls)[i]? = some e → ItAt h' e.1 e.2.1 0 e.2.2) ∧ h'.objs.size = s.heap.objs.size + j ∧ (∀ c o, s.heap.get? c = some o → h'.get? c = some o)) _ (fun x rest b s' hi => ?_) (fun b s' hi => ?_) _ _ ⟨0, s.heap, by omega, by simp, by simp, rfl, fun i e hi => by omega, rfl, fun _ _ q => q⟩)
  · obtain ⟨j, h', hj, hr, hb, rfl, hIt, hsz, hk⟩ := hi
    have hjl : j < ls.length := by
      have := congrArg List.length hr
      simp at this
      omega
    rw [List.drop_eq_getElem_cons hjl] at hr
    cases hr
    obtain ⟨xs, p⟩ := hx ls[j] (List.getElem_mem hjl)
    have p' : SeqO h' ls[j].1 xs ls[j].2 := p.at fun o q => hk _ o q
    refine wpAny_bind (wpAny_holding (iter_o (s := { s with heap := h' }) p' fun h2 hit hs2 hk2 => ?_))
    have hsj : (srcsOf s.heap.objs.size ls)[j]? = some (s.heap.objs.size + j, ls[j].1, ls[j].2) := by rw [srcs_at, List.getElem?_eq_getElem hjl] <;> rfl
    refine wpAny_pure ⟨j + 1, h2, by omega, rfl, ?_, rfl, fun i e hi he => ?_, by rw [hs2]; show h'.objs.size + 1 = _; omega, fun c o q => hk2 c o (hk c o q)⟩
    · rw [List.take_add_one, hsj, List.map_append, Array.toList_push, hb]
      show _ ++ [Value.ref h'.objs.size] = _
      rw [hsz]
      rfl
    · by_cases hij : i = j
      · subst hij
        rw [hsj] at he
        cases he
        show ItAt h2 (s.heap.objs.size + i) _ _ _
        rw [← hsz]
        exact hit
      · exact (hIt i e (by omega) he).at fun o q => hk2 _ o q
  · obtain ⟨j, h', hj, hr, hb, rfl, hIt, hsz, hk⟩ := hi
    have hjl : j = ls.length := by
      have := congrArg List.length hr
      simp at this
      omega
    subst hjl
    rw [List.take_of_length_le (by rw [srcs_len]; exact Nat.le_refl _)] at hb
    refine wpAny_pure ?_
    rw [hb]
    refine hQ h' (fun i e he => ?_) hsz hk
    have hi := (List.getElem?_eq_some_iff.mp he).1
    rw [srcs_len] at hi
    rw [if_neg (by omega)]
    exact hIt i e hi he
end
theorem class_zip (vs : List Value) : Builtin.SmallTypes.newClass "zip" ⟨.type "zip" :: vs, []⟩ = pure (.type "zip", vs) := by
  have h1 : isType (.type "zip") = pure true := rfl
  unfold Builtin.SmallTypes.newClass
  simp only [h1, sub_zip, pure_bind, Bool.not_true, Bool.false_eq_true, if_false]
section
variable {s : Shared} {prog : Program} {w : World} {E : Value → Shared → Prop} {A : Around}
theorem new_tup {items : List Value} {Q : Value → Shared → Prop} (hz : items.length ≤ sizeLine) (hQ : ∀ h', TupAt h' s.heap.objs.size items.toArray → h'.objs.size = s.heap.objs.size + 1 → (∀ c o, s.heap.get? c = some o → h'.get? c = some o) → Q (.ref s.heap.objs.size) { s with heap := h' }) :
    wpAny (model prog w) A (newTuple items) Q E s := wpAny_newTuple (hQ _ (Heap.get?_push_size _ rfl) (Heap.size_push ..) fun c o q => Heap.get?_push_of_some _ q) hz
theorem new_rec {vs : List Value} {Q : Value → Shared → Prop} (hv : vs.length ≤ 5) (hQ : ∀ h', h'.get? s.heap.objs.size = some { cls := .type "zip", data := .fields vs.toArray } → h'.objs.size = s.heap.objs.size + 1 → (∀ c o, s.heap.get? c = some o → h'.get? c = some o) → Q (.ref s.heap.objs.size) { s with heap := h' }) :
    wpAny (model prog w) A (Builtin.SmallTypes.newRecord (.type "zip") vs) Q E s := by
  unfold Builtin.SmallTypes.newRecord
  exact wpAny_newObj_type (hQ _ (Heap.get?_push_size _ rfl) (Heap.size_push ..) fun c o q => Heap.get?_push_of_some _ q) (by show vs.toArray.size ≤ sizeLine + 2; rw [List.size_toArray]; exact Nat.le_trans hv (by decide))
theorem new_n (ls : List (Addr × Bool)) {Q : Value → Shared → Prop} (hn : ls.length ≤ 1000) (hx : ∀ e ∈ ls, ∃ xs, SeqO s.heap e.1 xs e.2)
    (hQ : ∀ h', ZS h' (s.heap.objs.size + ls.length + 2) (s.heap.objs.size + ls.length) (s.heap.objs.size + ls.length + 1) (srcsOf s.heap.objs.size ls) 0 → h'.objs.size = s.heap.objs.size + ls.length + 3 → (∀ c o, s.heap.get? c = some o → h'.get? c = some o) → Q (.ref (s.heap.objs.size + ls.length + 2)) { s with heap := h' }) :
    wpAny (model prog w) A (Builtin.«zip.__new__» ⟨.type "zip" :: ls.map (fun e => Value.ref e.1), []⟩) (fun fin s' => ∃ v, fin = .done (.ret v) ∧ Q v s') E s := by
  unfold PySem.Builtin.«zip.__new__»
  rw [class_zip]
  simp only [pure_bind]
  rw [if_neg (by decide)]
  refine wpAny_bind (iter_all hx fun h1 hI hs1 hk1 => ?_)
  have hsz : ((srcsOf s.heap.objs.size ls).map fun e => Value.ref e.1).length ≤ sizeLine := by
    rw [List.length_map, srcs_len]
    exact Nat.le_trans hn (by decide)
  refine wpAny_bind (new_tup (s := { s with heap := h1 }) hsz fun h2 t2 hs2 hk2 => ?_)
  refine wpAny_bind (new_tup (s := { s with heap := h2 }) (by rw [List.length_map]; exact hsz) fun h3 t3 hs3 hk3 => ?_)
  refine wpAny_bind (new_rec (s := { s with heap := h3 }) (Nat.le_refl 5) fun h4 t4 hs4 hk4 => wpAny_pure ⟨_, rfl, ?_⟩)
  have e1 : h1.objs.size = s.heap.objs.size + ls.length := hs1
  have e2 : h2.objs.size = s.heap.objs.size + ls.length + 1 := (show h2.objs.size = h1.objs.size + 1 from hs2).trans (by rw [e1])
  have e3 : h3.objs.size = s.heap.objs.size + ls.length + 2 := (show h3.objs.size = h2.objs.size + 1 from hs3).trans (by rw [e2])
  have t2' : TupAt h2 (s.heap.objs.size + ls.length) ((srcsOf s.heap.objs.size ls).map fun e => Value.ref e.1).toArray := by
    rw [← e1]
    exact t2
  have t3' : TupAt h3 (s.heap.objs.size + ls.length + 1) (((srcsOf s.heap.objs.size ls).map fun e => Value.ref e.1).map fun _ => Value.none).toArray := by
    rw [← e2]
    exact t3
  have t4' : Zst h4 (s.heap.objs.size + ls.length + 2) (s.heap.objs.size + ls.length) (s.heap.objs.size + ls.length + 1) .none (.bool false) := by
    rw [← e3, ← e2, ← e1]
    exact t4
  show Q (.ref h3.objs.size) _
  rw [e3]
  refine hQ h4 ⟨⟨.none, .bool false, t4', .inl rfl⟩, hk4 _ _ (hk3 _ _ t2'), ⟨_, hk4 _ _ t3', ?_⟩, fun i e he => (hI i e he).at fun o q => hk4 _ o (hk3 _ o (hk2 _ o q))⟩ (by rw [show h4.objs.size = h3.objs.size + 1 from hs4, e3]) fun c o q => hk4 c o (hk3 c o (hk2 c o (hk1 c o q)))
  rw [List.size_toArray, List.length_map, List.length_map, srcs_len]
end
end ZN

set_option Elab.async false
set_option linter.all false
set_option maxRecDepth 100000
set_option maxHeartbeats 2000000
/-! for x in zip(*ls), for x in zip(a, b). -/
namespace ZN
open PySem PySem.Spec PyProof.Rows L2 RZ
theorem meets_new (ls : List (Addr × Bool)) : Meets (Builtin.«zip.__new__» ⟨.type "zip" :: ls.map (fun e => Value.ref e.1), []⟩) (fun _ R s => ls.length ≤ 1000 ∧ (∀ e ∈ ls, ∃ xs, SeqO s.heap e.1 xs e.2) ∧
      ∀ h', ZS h' (s.heap.objs.size + ls.length + 2) (s.heap.objs.size + ls.length) (s.heap.objs.size + ls.length + 1) (srcsOf s.heap.objs.size ls) 0 → h'.objs.size = s.heap.objs.size + ls.length + 3 → (∀ c o, s.heap.get? c = some o → h'.get? c = some o) → R (.ok (.ret (.ref (s.heap.objs.size + ls.length + 2)))) { s with heap := h' }) :=
  Meets.of_wp fun prog w A R s h => new_n ls (Q := fun v s' => R (.ok (.ret v)) s') h.1 h.2.1 h.2.2
section
variable {s : Shared} {prog : Program} {w : World} {E : Value → Shared → Prop} {A : Around}
theorem call_zipN {e : Addr × Bool} {l : List (Addr × Bool)} {Q : Value → Shared → Prop} (hn : (e :: l).length ≤ 1000) (hx : ∀ f ∈ e :: l, ∃ xs, SeqO s.heap f.1 xs f.2)
    (hQ : ∀ h', ZS h' (s.heap.objs.size + (e :: l).length + 2) (s.heap.objs.size + (e :: l).length) (s.heap.objs.size + (e :: l).length + 1) (srcsOf s.heap.objs.size (e :: l)) 0 → h'.objs.size = s.heap.objs.size + (e :: l).length + 3 → (∀ c o, s.heap.get? c = some o → h'.get? c = some o) → Q (.ref (s.heap.objs.size + (e :: l).length + 2)) { s with heap := h' }) :
    wpAny (model prog w) A (call (.type "zip") ((e :: l).map fun e => Value.ref e.1)) Q E s := by
  refine callType_new F.called_zip (by decide) (typeCall_n _) (newCall_n _ _) (fun obj => args_n _) F.entry_zip_new (meets_new (e :: l)) ⟨hn, hx, fun h' z1 z2 z3 => ?_⟩
  obtain ⟨f0, f1, hz, _⟩ := z1.st
  exact ⟨⟨_, hz, rfl⟩, hQ h' z1 z2 z3⟩
end
theorem vals_refs : ∀ {es : List (Addr × Bool)} {us : List Value}, Vals (es.map fun e => V.ref e.1) us → us = es.map fun e => Value.ref e.1
  | [], _, h => by cases h; rfl
  | e :: es, _, h => by
    cases h with
    | cons r h =>
      rw [vals_refs h]
      cases r
      rfl
section
variable {X : Cx} {e : Expr} {es : List Expr} {te : TE} {ta : TA} {p pos sp : Pos} {tg : Expr}
/-- an iterator of the lists at ls -/
theorem zip_here {pins : List (Addr × Obj)} {σ : L2.St} {H : Hp} {s : Shared} {R : It → Hp → Prop} {E : Value → Shared → Prop} {f : Addr × Bool} {l : List (Addr × Bool)} (ht : nmTp tg = true) (I : Inv X pins σ H s) (hn : (f :: l).length ≤ 1000) (hq : ∀ g ∈ f :: l, ∃ ys, SqO X.K H g.1 ys g.2) (q : R (ItzN X.K (f :: l)) H) :
    wpAny (model X.prog X.w) X.A (call (.type "zip") ((f :: l).map fun e => Value.ref e.1)) (fun v s1 => wpAny (model X.prog X.w) X.A (pyIter v) (PIE X pins σ tg R) E s1) E s := by
  have hx : ∀ g ∈ f :: l, ∃ xs, SeqO s.heap g.1 xs g.2 := fun g hg => by
    obtain ⟨ys, h1⟩ := hq g hg
    obtain ⟨its, _, p⟩ := sqo_heap I h1
    exact ⟨_, p⟩
  refine call_zipN hn hx fun h' Z hsz hk => ?_
  obtain ⟨f0, f1, hz, _⟩ := Z.st
  refine iter_zip (s := { s with heap := h' }) hz ?_
  have I2 : Inv X pins σ H { s with heap := h' } := I.kept (t' := s.toks) hk
  have D : Apart (s.heap.objs.size + (f :: l).length + 2) (s.heap.objs.size + (f :: l).length) (s.heap.objs.size + (f :: l).length + 1) (srcsOf s.heap.objs.size (f :: l)) := apart_new fun g hg => by
    obtain ⟨xs, p⟩ := hx g hg
    exact seqo_lt p
  have T := turn_zipN (P := X.prog) (w := X.w) (K := X.K) ht D (fun z => nomatch z) (by rw [srcs_len]; exact hn)
  rw [srcs_snd] at T
  refine ⟨_, _, _, _, H, rfl, I2, T, Z, fun b hb => ?_, q⟩
  have hle : s.heap.objs.size ≤ b := by
    rcases mem_fp.mp hb with rfl | rfl | rfl | ⟨g, hg, rfl⟩
    · exact Nat.le_trans (Nat.le_add_right _ _) (Nat.le_add_right _ _)
    · exact Nat.le_add_right _ _
    · exact Nat.le_trans (Nat.le_add_right _ _) (Nat.le_add_right _ _)
    · exact (srcs_mem hg).1
  exact I.fpOk hle (I.hok.fresh hle)
/-- for x in zip(a, b, ..) -/
def iZipV (K : PySem.W.Frag) (ta : TA) : TI := fun σ H R => ta σ H fun vs H1 => ∃ f l, vs = (f :: l).map (fun e : Addr × Bool => V.ref e.1) ∧ (f :: l).length ≤ 1000 ∧ (∀ g ∈ f :: l, ∃ ys, SqO K H1 g.1 ys g.2) ∧ R (ItzN K (f :: l)) H1
theorem pi_zipV (ht : nmTp tg = true) (hg : Gl X "zip") (hm : X.mg "zip" = none) (ha : PA X (e :: es) ta)
    (hs : starEach (e :: es) X.env = (false, eval e X.env) :: starEach es X.env := by rfl) (hpl : (backTo pos (starEach es X.env)).any (·.1) = false := by rfl) :
    PI X tg (.Call (.Name "zip" p) (e :: es) [] pos) (iZipV X.K ta) := by
  refine ⟨fun pins s σ H R I h => ?_⟩
  refine Call_ (ld_blt I hg hm PyProof.Rows.boot_zip (PyProof.Rows.callWith_type1 (thn (ha.run pos pins s σ H _ I h) fun us s1 ⟨vs, H1, I1, r1, f, l, ev, hn, hq, q⟩ => ?_) hs hpl))
  subst ev
  rw [vals_refs r1]
  exact zip_here ht I1 hn hq q
/-- for x in zip(*ls) -/
def iZipS (K : PySem.W.Frag) (te : TE) : TI := fun σ H R => te σ H fun x H1 => ∃ a f l, x = .ref a ∧ SqL K H1 a ((f :: l).map fun e : Addr × Bool => V.ref e.1) ∧ (f :: l).length ≤ 1000 ∧ (∀ g ∈ f :: l, ∃ ys, SqO K H1 g.1 ys g.2) ∧ R (ItzN K (f :: l)) H1
theorem pi_zipS (ht : nmTp tg = true) (hg : Gl X "zip") (hm : X.mg "zip" = none) (he : PE X e te) : PI X tg (.Call (.Name "zip" p) [.Starred e sp] [] pos) (iZipS X.K te) := by
  refine ⟨fun pins s σ H R I h => ?_⟩
  have hk : ∀ h : Heap, True → ∃ k, (k = Keeper.frame ∨ k = Keeper.machine ∨ k = Keeper.boundFrame) ∧ PySem.W.Looks (model X.prog X.w) h (keeperOf (.type "zip")) k := fun _ _ => ⟨.machine, .inr (.inl rfl), fun _ _ _ _ _ q => wpAny_pure q⟩
  refine Call_ (ld_blt I hg hm PyProof.Rows.boot_zip (PySem.W.ks_call (P := fun _ => True) rfl hk (PySem.W.ks_lone (thn (he.run pins s σ H _ I h) fun v s1 ⟨y, H1, I1, ry, a, f, l, ey, hl, hn, hq, q⟩ => ?_))))
  subst ey
  obtain rfl : v = Value.ref a := ry
  refine StX.star_lst I1 hl fun us s2 I2 rv => ⟨True.intro, ?_⟩
  rw [List.nil_append, vals_refs rv]
  exact zip_here ht I2 hn hq q
end
end ZN

set_option Elab.async false
set_option linter.all false
set_option maxRecDepth 100000
set_option maxHeartbeats 4000000
/-! The reckoning is right: what is walked, targets. -/
namespace PY
open PySem PySem.Spec PyProof.Rows L2 DK DD
section
variable {P : Program} {w : World} {K : PySem.W.Frag} {mg : Str → Option Value} {base : Heap} {k : Nat} {cl : Nat → Addr} {c : Cn} {sc : Scope} {W : WX}
variable {L : List Addr} {σ : L2.St} {H H' : Hp} {e a b tg : Expr} {es : List Expr} {r : Rs PyData} {rs : Rs (List PyData)} {N : List Str}
/-! walks -/
def WalkD (K : PySem.W.Frag) (L : List Addr) (J : It) (H2 : Hp) (ds : List PyData) : Prop := ∃ n G Y, Walk J n G Y ∧ n = ds.length ∧ ∀ M' : List Addr, (∀ m ∈ M', m ∈ L ∨ H2 m = none) →
  (∀ H', ExM M' H2 H' → G H') ∧ ∀ i H' x H'', i < n → ExM M' H2 H' → Dom M' H' → Y i H' x H'' → Evl.Ex H' H'' ∧ ∃ d, ds[i]? = some d ∧ Rv K (mi H'' M') x d
theorem apart {M' : List Addr} {H2 H' : Hp} (hM : ∀ m ∈ M', m ∈ L ∨ H2 m = none) (e : ExM M' H2 H') : Evl.Ex (mi H2 L) (mi H' M') := fun b o h => by
  obtain ⟨h1, h2⟩ := mi_some h
  have hn : b ∉ M' := fun z => (hM b z).elim h1 fun q => by rw [h2] at q; cases q
  exact mi_of hn (e b o hn h2)
theorem walk_lst {a : Addr} {xs : List V} {ds : List PyData} {H2 : Hp} (h1 : mi H2 L a = some (.lst xs)) (h2 : RvA K (mi H2 L) xs ds) : WalkD K L (Itl K a) H2 ds := by
  refine ⟨_, _, _, walk_list (K := K) (a := a) (xs := xs), ra_len h2, fun M' hM => ⟨fun H' e => Evl.sq_of (mi_some (apart hM e _ _ h1)).2, fun i H' x H'' _ e _ y => ?_⟩⟩
  obtain ⟨rfl, hx⟩ := y
  obtain ⟨d, hd, rd⟩ := ra_get' h2 hx
  exact ⟨Evl.Ex.refl _, d, hd, rx (apart hM e) _ _ rd⟩
theorem walk_tp {a : Addr} {xs : List V} {ds : List PyData} {H2 : Hp} (h1 : mi H2 L a = some (.tup xs)) (h2 : RvA K (mi H2 L) xs ds) : WalkD K L (Itt K a) H2 ds := by
  refine ⟨_, _, _, walk_tup (K := K) (a := a) (xs := xs), ra_len h2, fun M' hM => ⟨fun H' e => Evl.st_of (mi_some (apart hM e _ _ h1)).2, fun i H' x H'' _ e _ y => ?_⟩⟩
  obtain ⟨rfl, hx⟩ := y
  obtain ⟨d, hd, rd⟩ := ra_get' h2 hx
  exact ⟨Evl.Ex.refl _, d, hd, rx (apart hM e) _ _ rd⟩
theorem walk_st {z : Str} {H2 : Hp} : WalkD K L (Its z) H2 (z.cps.toList.map fun c => PyData.str ⟨#[c]⟩) := by
  refine ⟨_, _, _, walk_str (z := z), by simp, fun M' hM => ⟨fun H' e => True.intro, fun i H' x H'' _ e _ y => ?_⟩⟩
  obtain ⟨rfl, c, hc, rfl⟩ := y
  refine ⟨Evl.Ex.refl _, .str ⟨#[c]⟩, ?_, .str _⟩
  rw [List.getElem?_map, Array.getElem?_toList, hc] <;> rfl
theorem walk_rg {lo : Int} {n : Nat} {H2 : Hp} : WalkD K L (Itr lo n) H2 (rngF lo n) := by
  refine ⟨_, _, _, walk_range (lo := lo) (n := n), by simp [rngF], fun M' hM => ⟨fun H' e => True.intro, fun i H' x H'' hi e _ y => ?_⟩⟩
  obtain ⟨rfl, rfl⟩ := y
  refine ⟨Evl.Ex.refl _, .int (lo + (i : Nat)), ?_, .int _⟩
  unfold rngF
  rw [List.getElem?_map, List.getElem?_range hi] <;> rfl
theorem rngD_F (n : Nat) : rngD n = rngF 0 n := by
  unfold rngD rngF
  refine List.map_congr_left fun i _ => ?_
  rw [Int.zero_add]
theorem walk_pr {J : It} {n : Nat} {G : Hp → Prop} {f g : Nat → Option V} {xs ys : List PyData} {H2 : Hp} (wk : Walk J n G (YPair f g)) (hn : n = (xs.zip ys).length)
    (hG : ∀ M' : List Addr, (∀ m ∈ M', m ∈ L ∨ H2 m = none) → ∀ H', ExM M' H2 H' → G H')
    (hf : ∀ i x, i < n → f i = some x → ∃ d, xs[i]? = some d ∧ Rv K (mi H2 L) x d) (hg : ∀ i x, i < n → g i = some x → ∃ d, ys[i]? = some d ∧ Rv K (mi H2 L) x d) : WalkD K L J H2 (pairsD xs ys) := by
  refine ⟨_, _, _, wk, by rw [hn]; simp [pairsD], fun M' hM => ⟨hG M' hM, fun i H' x H'' hi e hD y => ?_⟩⟩
  obtain ⟨T, u, v, rfl, hT, rfl, h1, h2⟩ := y
  obtain ⟨d1, e1, r1⟩ := hf i u hi h1
  obtain ⟨d2, e2, r2⟩ := hg i v hi h2
  have eT : Evl.Ex H' (upd H' T (.tup [u, v])) := Evl.Ex.new hT
  have ap := (apart hM e).trans (ex_mi (M := M') eT)
  refine ⟨eT, .tuple [d1, d2], ?_, .tup (mi_of (hD.nin hT) upd_same) (.cons (rx ap _ _ r1) (.cons (rx ap _ _ r2) .nil))⟩
  unfold pairsD
  rw [List.getElem?_map]
  have : (xs.zip ys)[i]? = some (d1, d2) := by rw [List.getElem?_zip_eq_some]; exact ⟨e1, e2⟩
  rw [this] <;> rfl
/-! zip of some rows -/
def ob (b : Bool) (vs : List V) : HO := if b then .tup vs else .lst vs
inductive Cols (K : PySem.W.Frag) (Hm : Hp) (m : Nat) : List (Addr × Bool) → List (List V) → List (List PyData) → Prop
  | nil : Cols K Hm m [] [] []
  | cons {a : Addr} {b : Bool} {vs : List V} {ds : List PyData} {es : List (Addr × Bool)} {vss : List (List V)} {rws : List (List PyData)} : Hm a = some (ob b vs) → RvA K Hm vs ds → ds.length = m → Cols K Hm m es vss rws → Cols K Hm m ((a, b) :: es) (vs :: vss) (ds :: rws)
theorem Cols.len {Hm : Hp} {m : Nat} : ∀ {es : List (Addr × Bool)} {vss : List (List V)} {rws : List (List PyData)}, Cols K Hm m es vss rws → vss.length = es.length
  | _, _, _, .nil => rfl
  | _, _, _, .cons _ _ _ t => congrArg (· + 1) t.len
theorem Cols.at_ {Hm : Hp} {m : Nat} : ∀ {es : List (Addr × Bool)} {vss : List (List V)} {rws : List (List PyData)}, Cols K Hm m es vss rws → ∀ (j : Nat) (e : Addr × Bool), es[j]? = some e → ∃ vs, vss[j]? = some vs ∧ Hm e.1 = some (ob e.2 vs) ∧ vs.length = m
  | _, _, _, .nil, j, e, h => by cases h
  | _, _, _, .cons h1 h2 h3 t, 0, e, h => by
    cases h
    exact ⟨_, rfl, h1, (ra_len h2).trans h3⟩
  | _, _, _, .cons h1 h2 h3 t, j + 1, e, h => t.at_ j e h
theorem Cols.ra {Hm : Hp} {m i : Nat} (hi : i < m) : ∀ {es : List (Addr × Bool)} {vss : List (List V)} {rws : List (List PyData)}, Cols K Hm m es vss rws → RvA K Hm (vss.map fun vs => vs.getD i .non) (rws.map fun ds => ds.getD i .none)
  | _, _, _, .nil => .nil
  | _, _, _, .cons (vs := vs) (ds := ds) h1 h2 h3 t => by
    refine .cons ?_ (t.ra hi)
    obtain ⟨v, e1, e2⟩ := ra_get h2 (List.getElem?_eq_getElem (show i < ds.length by omega))
    show Rv K Hm (vs.getD i .non) (ds.getD i .none)
    rw [List.getD_eq_getElem?_getD, e1, List.getD_eq_getElem?_getD, List.getElem?_eq_getElem (show i < ds.length by omega)]
    exact e2
theorem sqo_of {H' : Hp} {a : Addr} {b : Bool} {vs : List V} (h : H' a = some (ob b vs)) : ZN.SqO K H' a vs b := by
  cases b with
  | true => exact Evl.st_of h
  | false => exact Evl.sq_of h
theorem walk_zN {H2 : Hp} {m : Nat} {f : Addr × Bool} {l : List (Addr × Bool)} {vss : List (List V)} {rws : List (List PyData)} (C : Cols K (mi H2 L) m (f :: l) vss rws) : WalkD K L (ZN.ItzN K (f :: l)) H2 (colsD rws m) := by
  have hl := C.len
  refine ⟨m, fun H => ∀ (j : Nat) (e : Addr × Bool) (vs : List V), (f :: l)[j]? = some e → vss[j]? = some vs → ZN.SqO K H e.1 vs e.2, fun i H v H' => ∃ T, v = .ref T ∧ H T = none ∧ H' = upd H T (.tup (vss.map fun vs => vs.getD i .non)), ⟨fun i H hi g => ?_, fun H g => ?_, fun i H v H' hi g y => ?_⟩, by simp [colsD], fun M' hM => ⟨fun H' e j g vs hg hv => ?_, fun i H' x H'' hi e hD y => ?_⟩⟩
  · refine ⟨vss.map fun vs => vs.getD i .non, by rw [List.length_map, hl], fun j e he => ?_⟩
    obtain ⟨vs, h1, h2, h3⟩ := C.at_ j e he
    refine ⟨vs, g j e vs he h1, ?_⟩
    rw [List.getElem?_map, h1, Option.map_some, List.getD_eq_getElem?_getD, List.getElem?_eq_getElem (show i < vs.length by omega)]
    rfl
  · obtain ⟨vs, h1, h2, h3⟩ := C.at_ 0 f rfl
    exact ⟨f, l, vs, rfl, g 0 f vs rfl h1, by omega⟩
  · obtain ⟨T, xs, rfl, hT, rfl, hx, hy⟩ := y
    refine ⟨T, rfl, hT, ?_⟩
    have : xs = vss.map fun vs => vs.getD i .non := by
      refine List.ext_getElem? fun j => ?_
      by_cases hj : j < (f :: l).length
      · obtain ⟨vs, h1, h2, h3⟩ := C.at_ j _ (List.getElem?_eq_getElem hj)
        rw [← hy j _ vs (List.getElem?_eq_getElem hj) (g j _ vs (List.getElem?_eq_getElem hj) h1), List.getElem?_map, h1, Option.map_some, List.getD_eq_getElem?_getD, List.getElem?_eq_getElem (show i < vs.length by omega)]
        rfl
      · rw [List.getElem?_eq_none (by omega), List.getElem?_eq_none (by rw [List.length_map, hl]; omega)]
    rw [this]
  · obtain ⟨us, h1, h2, h3⟩ := C.at_ j g hg
    rw [hv] at h1
    cases h1
    exact sqo_of (mi_some (apart hM e _ _ h2)).2
  · obtain ⟨T, rfl, hT, rfl⟩ := y
    have eT : Evl.Ex H' (upd H' T (.tup (vss.map fun vs => vs.getD i .non))) := Evl.Ex.new hT
    have ap := (apart hM e).trans (ex_mi (M := M') eT)
    refine ⟨eT, .tuple (rws.map fun x => x.getD i .none), ?_, .tup (mi_of (hD.nin hT) upd_same) (rxs ap _ _ (C.ra hi))⟩
    unfold colsD
    rw [List.getElem?_map, List.getElem?_range hi] <;> rfl
/-- rows as values bear them -/
theorem cols_of {H2 : Hp} {m : Nat} : ∀ {us : List V} {ds : List PyData} {rws : List (List PyData)}, RvA K (mi H2 L) us ds → rowsOf ds = some rws → (∀ x ∈ rws, x.length = m) → ∃ es vss, us = es.map (fun e : Addr × Bool => V.ref e.1) ∧ Cols K (mi H2 L) m es vss rws
  | _, _, rws, .nil, h, _ => by
    cases h
    exact ⟨[], [], rfl, .nil⟩
  | _, _, rws, .cons (d := d) (ds := ds) r t, h, hm => by
    unfold rowsOf at h
    cases h1 : rowOf d with
    | none => rw [h1] at h; cases h
    | some x =>
      cases h2 : rowsOf ds with
      | none => rw [h1, h2] at h; cases h
      | some rs =>
        rw [h1, h2] at h
        cases h
        obtain ⟨es, vss, e1, C⟩ := cols_of t h2 fun y hy => hm y (List.mem_cons_of_mem _ hy)
        have hx := hm x (by simp)
        cases d with
        | list ys =>
          cases h1
          cases r with
          | lst k1 k2 => exact ⟨(_, false) :: es, _, by rw [e1] <;> rfl, .cons k1 k2 hx C⟩
        | tuple ys =>
          cases h1
          cases r with
          | tup k1 k2 => exact ⟨(_, true) :: es, _, by rw [e1] <;> rfl, .cons k1 k2 hx C⟩
        | none => cases h1
        | bool _ => cases h1
        | int _ => cases h1
        | str _ => cases h1
        | dict _ => cases h1
theorem zip_of {H2 : Hp} {us : List V} {ds r : List PyData} (hv : RvA K (mi H2 L) us ds) (h : zipD ds = .ok r) : ∃ f l vss, us = (f :: l).map (fun e : Addr × Bool => V.ref e.1) ∧ (f :: l).length ≤ 1000 ∧ (∀ g ∈ f :: l, ∃ ys, ZN.SqO K H2 g.1 ys g.2) ∧ ∃ m rws, Cols K (mi H2 L) m (f :: l) vss rws ∧ r = colsD rws m := by
  unfold zipD at h
  split at h
  · rename_i r0 rs hr
    split at h
    · rename_i hc
      cases h
      obtain ⟨es, vss, e1, C⟩ := cols_of (m := r0.length) hv hr fun x hx => by
        rcases List.mem_cons.mp hx with rfl | hx
        · rfl
        · exact of_decide_eq_true (List.all_eq_true.mp hc.2 x hx)
      cases es with
      | nil => cases C
      | cons f l =>
        have hlu := ra_len hv
        rw [e1, List.length_map] at hlu
        refine ⟨f, l, vss, e1, by rw [hlu]; exact hc.1, fun g hg => ?_, _, _, C, rfl⟩
        obtain ⟨j, hj, e⟩ := List.getElem_of_mem hg
        obtain ⟨vs, _, h2, _⟩ := C.at_ j g (by rw [List.getElem?_eq_getElem hj, e])
        exact ⟨vs, sqo_of (mi_some h2).2⟩
    · cases h
  · cases h
theorem zipD_er {ds : List PyData} {i : Nat} : zipD ds ≠ .er i := by
  unfold zipD
  split
  · split <;> exact fun h => nomatch h
  · exact fun h => nomatch h
theorem nmT_eq {e : Expr} (h : nmT e = true) : ZN.nmTp e = true := by
  cases e <;> first | rfl | cases h
theorem tupT {e : Expr} (h : isTupE e = true) : ZN.nmTp e = true := by
  cases e <;> first | rfl | cases h
def tBI (P : Program) (w : World) (K : PySem.W.Frag) (mg : Str → Option Value) (base : Heap) (k : Nat) (N : List Str) (sc : Scope) (W : WX) (tg e : Expr) : TI := fun σ H R => ∃ wi : TI, (∀ X, Good P w K mg base k N sc W X → PI X tg e wi) ∧ wi σ H R
theorem bi {X : Cx} (g : Good P w K mg base k N sc W X) (tg e : Expr) : PI X tg e (tBI P w K mg base k N sc W tg e) := ⟨fun pins s σ H R I ⟨t, ht, q⟩ => (ht X g).run pins s σ H R I q⟩
def OkI (P : Program) (w : World) (K : PySem.W.Frag) (mg : Str → Option Value) (base : Heap) (k : Nat) (cl : Nat → Addr) (N : List Str) (sc : Scope) (W : WX) (L : List Addr) (tg e : Expr) (r : Rs (List PyData)) (σ : L2.St) (H : Hp) : Prop :=
  ∀ H1, Evl.Ex H H1 → ∀ R : It → Hp → Prop, Out cl W σ H1 r (fun ds => ∀ J H2, Evl.Ex H1 H2 → WalkD K L J H2 ds → R J H2) → tBI P w K mg base k N sc W tg e σ H1 R
theorem ok_iterD (h : OkE P w K mg base k cl N sc W L e r σ H) : OkI P w K mg base k cl N sc W L tg e (r.bind iterD) σ H := fun H1 x R q => by
  by_cases hs : ∃ z, r = .ok (.str z)
  · obtain ⟨z, rfl⟩ := hs
    refine ⟨_, fun X g => pi_str (be g e), ?_⟩
    refine h H1 x _ ?_
    intro v H2 x2 hv
    obtain rfl := rStr hv
    exact ⟨z, rfl, q _ H2 x2 walk_st⟩
  by_cases ht : ∃ ds, r = .ok (.tuple ds)
  · obtain ⟨ds, rfl⟩ := ht
    refine ⟨iTup K (tB P w K mg base k N sc W e), fun X g => by rw [← g.eK]; exact pi_tup (by rw [g.eK]; exact be g e), ?_⟩
    refine h H1 x _ ?_
    intro v H2 x2 hv
    cases hv with
    | tup h1 h2 => exact ⟨_, rfl, ⟨_, Evl.st_of (mi_some h1).2⟩, q _ H2 x2 (walk_tp h1 h2)⟩
  refine ⟨iList K (tB P w K mg base k N sc W e), fun X g => by rw [← g.eK]; exact pi_list (by rw [g.eK]; exact be g e), ?_⟩
  refine h H1 x _ ((Out.bind q).mono (Evl.Ex.refl _) fun d e1 s v H2 x2 hv => ?_)
  cases d with
  | list ds =>
    cases hv with
    | lst h1 h2 => exact ⟨_, rfl, ⟨_, Evl.sq_of (mi_some h1).2⟩, s _ H2 x2 (walk_lst h1 h2)⟩
  | str z => exact absurd ⟨z, e1⟩ hs
  | tuple z => exact absurd ⟨z, e1⟩ ht
  | none => exact s.elim
  | bool _ => exact s.elim
  | int _ => exact s.elim
  | dict _ => exact s.elim
theorem bltn_glob {x : Str} (h : bltn c sc x = true) : nmOf c.N sc x = .glob := by
  unfold bltn at h
  split at h
  · assumption
  · cases h
theorem ok_iter {f : Expr → Rs PyData} (m : Mdl P w K mg base k cl c) (h : ∀ e, OkE P w K mg base k cl c.N sc W L e (f e) σ H) (tg e : Expr) : OkI P w K mg base k cl c.N sc W L tg e (evIter f (bltn c sc) tg e) σ H := by
  unfold evIter
  split
  · rename_i gn p a sp q
    split
    · rename_i hc
      obtain ⟨rfl, hb, hT⟩ := hc
      obtain ⟨g1, g2⟩ := nm_glob (bltn_glob hb)
      intro H1 x R q
      refine ⟨ZN.iZipS K (tB P w K mg base k c.N sc W a), fun X g => by rw [← g.eK]; exact ZN.pi_zipS (nmT_eq hT) (g.gl g1) (by rw [g.em]; exact m.blt _ (by decide +kernel)) (by rw [g.eK]; exact be g a), ?_⟩
      refine h a H1 x _ ((Out.bind q).mono (Evl.Ex.refl _) fun d e1 s v H2 x2 hv => ?_)
      cases d with
      | list ds =>
        cases hv with
        | lst h1 h2 =>
        rename_i p2 us
        cases hz : zipD ds with
        | ok r =>
          have s' : ∀ J H3, Evl.Ex H1 H3 → WalkD K L J H3 r → R J H3 := by
            have s2 : Out cl W σ H1 (zipD ds) _ := s
            rw [hz] at s2
            exact s2
          obtain ⟨f0, l0, vss, e2, hn, hq, mm, rws, C, rfl⟩ := zip_of h2 hz
          subst e2
          exact ⟨p2, f0, l0, rfl, Evl.sq_of (mi_some h1).2, hn, hq, s' _ H2 x2 (walk_zN C)⟩
        | er i => exact absurd hz zipD_er
        | no =>
          have s2 : Out cl W σ H1 (zipD ds) _ := s
          rw [hz] at s2
          exact s2.elim
      | _ => exact s.elim
    · exact fun H1 x R q => q.elim
  · rename_i gn p a q hne
    split
    · rename_i hc
      obtain ⟨rfl, hb, hn⟩ := hc
      obtain ⟨g1, g2⟩ := nm_glob (bltn_glob hb)
      intro H1 x R q
      refine ⟨iRng1 (tBA P w K mg base k c.N sc W [a]), fun X g => pi_range1 (g.gl g1) (by rw [g.em]; exact m.blt _ (by decide +kernel)) (ba g _) (star1 hn), ?_⟩
      refine ok_cons hn (h a) ok_nil H1 x _ ?_
      refine (Out.bind (r := f a) q).mono (Evl.Ex.refl _) (fun d e1 s => s) |> fun z => ?_
      cases hf : f a with
      | ok d =>
        rw [hf] at z
        intro vs H2 x2 hv
        have z' : Out cl W σ H1 (match d with | .int j => if -(2 ^ 62) ≤ j ∧ j < 2 ^ 62 then Rs.ok (rngD j.toNat) else .no | _ => .no) _ := z
        cases hv with
        | cons hv1 hv2 =>
          cases hv2
          split at z'
          · split at z'
            · rename_i j hj
              obtain rfl := rInt hv1
              exact ⟨j, rfl, hj.1, hj.2, z' _ H2 x2 (by rw [rngD_F]; exact walk_rg)⟩
            · exact z'.elim
          · exact z'.elim
      | er i => rw [hf] at z; exact z
      | no => rw [hf] at z; exact z.elim
    · split
      · rename_i hc
        obtain ⟨rfl, hb, hn, hT⟩ := hc
        obtain ⟨g1, g2⟩ := nm_glob (bltn_glob hb)
        intro H1 x R q
        cases tg with
        | Tuple elts kk tp =>
          refine ⟨iEnum K (tBA P w K mg base k c.N sc W [a]), fun X g => by rw [← g.eK]; exact pi_enum (g.gl g1) (by rw [g.em]; exact m.blt _ (by decide +kernel)) (by rw [g.eK]; exact ba g _) (star1 hn), ?_⟩
          refine ok_cons hn (h a) ok_nil H1 x _ ?_
          refine (Out.bind (r := f a) q).mono (Evl.Ex.refl _) (fun d e1 s => s) |> fun z => ?_
          cases hf : f a with
          | ok d =>
            rw [hf] at z
            intro vs H2 x2 hv
            have z' : Out cl W σ H1 (match d with | .list ds => Rs.ok (pairsD (rngD ds.length) ds) | _ => .no) _ := z
            cases hv with
            | cons hv1 hv2 =>
              cases hv2
              split at z'
              · rename_i ds
                cases hv1 with
                | lst h1 h2 =>
                  rename_i p2 xs
                  have hl := ra_len h2
                  refine ⟨p2, xs, rfl, Evl.sq_of (mi_some h1).2, z' _ H2 x2 ?_⟩
                  refine walk_pr (walk_enum (K := K) (a := p2) (xs := xs)) (by rw [List.length_zip, hl]; simp [rngD]) (fun M' hM H' e => Evl.sq_of (mi_some (apart hM e _ _ h1)).2) (fun i u hi hu => ?_) (fun i u hi hu => ra_get' h2 hu)
                  cases hu
                  refine ⟨.int (i : Nat), ?_, .int _⟩
                  unfold rngD
                  rw [List.getElem?_map, List.getElem?_range (by omega)] <;> rfl
              · exact z'.elim
          | er i => rw [hf] at z; exact z
          | no => rw [hf] at z; exact z.elim
        | _ => cases hT
      · exact ok_iterD (h _)
  · rename_i gn p a b q
    split
    · rename_i hc
      obtain ⟨rfl, hb, hn, hn2⟩ := hc
      obtain ⟨g1, g2⟩ := nm_glob (bltn_glob hb)
      intro H1 x R q
      refine ⟨iRng2 (tBA P w K mg base k c.N sc W [a, b]), fun X g => pi_range2 (g.gl g1) (by rw [g.em]; exact m.blt _ (by decide +kernel)) (ba g _) (by rw [star1 hn, star1 hn2] <;> rfl) (star1 hn2), ?_⟩
      refine ok_cons hn (h a) (ok_cons hn2 (h b) ok_nil) H1 x _ ?_
      refine (Out.bind (r := f a) q).mono (Evl.Ex.refl _) (fun d e1 s => s) |> fun z => ?_
      cases hf : f a with
      | ok d =>
        rw [hf] at z
        have z1 := Out.bind (r := f b) z
        cases hf2 : f b with
        | ok d2 =>
          rw [hf2] at z1
          intro vs H2 x2 hv
          have z' : Out cl W σ H1 (match d, d2 with | .int i, .int j => if -(2 ^ 62) ≤ i ∧ i < 2 ^ 62 ∧ -(2 ^ 62) ≤ j ∧ j < 2 ^ 62 then Rs.ok (rngF i (j - i).toNat) else .no | _, _ => .no) _ := z1
          cases hv with
          | cons hv1 hv2 =>
            cases hv2 with
            | cons hv2 hv3 =>
              cases hv3
              split at z'
              · split at z'
                · rename_i i j hj
                  obtain rfl := rInt hv1
                  obtain rfl := rInt hv2
                  exact ⟨i, j, rfl, hj, z' _ H2 x2 walk_rg⟩
                · exact z'.elim
              · exact z'.elim
        | er i => rw [hf2] at z1; exact z1
        | no => rw [hf2] at z1; exact z1.elim
      | er i => rw [hf] at z; exact z
      | no => rw [hf] at z; exact z.elim
    · split
      · rename_i hc
        obtain ⟨rfl, hb, hn, hn2, hT⟩ := hc
        obtain ⟨g1, g2⟩ := nm_glob (bltn_glob hb)
        intro H1 x R q
        cases tg with
        | Tuple elts kk tp =>
          by_cases hll : ∃ xs ys, f a = .ok (.list xs) ∧ f b = .ok (.list ys)
          · obtain ⟨xs, ys, hf, hf2⟩ := hll
            refine ⟨iZip K (tBA P w K mg base k c.N sc W [a, b]), fun X g => by rw [← g.eK]; exact pi_zip (g.gl g1) (by rw [g.em]; exact m.blt _ (by decide +kernel)) (by rw [g.eK]; exact ba g _) (star1 hn) (star_all (by simp [hn2])), ?_⟩
            refine ok_cons hn (h a) (ok_cons hn2 (h b) ok_nil) H1 x _ ?_
            rw [hf, hf2]
            rw [hf, hf2] at q
            intro vs H2 x2 hv
            cases hv with
            | cons hv1 hv2 =>
              cases hv2 with
              | cons hv2 hv3 =>
                cases hv3
                cases hv1 with
                | lst h1 h2 =>
                  rename_i p1 us
                  cases hv2 with
                  | lst h3 h4 =>
                    rename_i p2 ws
                    refine ⟨p1, p2, us, ws, rfl, Evl.sq_of (mi_some h1).2, Evl.sq_of (mi_some h3).2, q _ H2 x2 ?_⟩
                    exact walk_pr (walk_zip (K := K) (a := p1) (b := p2) (xs := us) (ys := ws) rfl) (by rw [List.length_zip, ra_len h2, ra_len h4]) (fun M' hM H' e => ⟨Evl.sq_of (mi_some (apart hM e _ _ h1)).2, Evl.sq_of (mi_some (apart hM e _ _ h3)).2⟩) (fun i u hi hu => ra_get' h2 hu) (fun i u hi hu => ra_get' h4 hu)
          · refine ⟨ZN.iZipV K (tBA P w K mg base k c.N sc W [a, b]), fun X g => by rw [← g.eK]; exact ZN.pi_zipV rfl (g.gl g1) (by rw [g.em]; exact m.blt _ (by decide +kernel)) (by rw [g.eK]; exact ba g _) (star1 hn) (star_all (by simp [hn2])), ?_⟩
            refine ok_cons hn (h a) (ok_cons hn2 (h b) ok_nil) H1 x _ ?_
            cases hf : f a with
            | er i => rw [hf] at q; exact q
            | no => rw [hf] at q; exact q.elim
            | ok d =>
              rw [hf] at q
              cases hf2 : f b with
              | er i => rw [hf2] at q; exact q
              | no => rw [hf2] at q; exact q.elim
              | ok d2 =>
                rw [hf2] at q
                have q2 : Out cl W σ H1 (zipD [d, d2]) (fun ds => ∀ J H2, Evl.Ex H1 H2 → WalkD K L J H2 ds → R J H2) := by
                  have q3 : Out cl W σ H1 (match d, d2 with | .list xs, .list ys => Rs.ok (pairsD xs ys) | _, _ => zipD [d, d2]) (fun ds => ∀ J H2, Evl.Ex H1 H2 → WalkD K L J H2 ds → R J H2) := q
                  split at q3
                  · exact absurd ⟨_, _, hf, hf2⟩ hll
                  · exact q3
                intro vs H2 x2 hv
                cases hz : zipD [d, d2] with
                | ok r =>
                  rw [hz] at q2
                  obtain ⟨f0, l0, vss, e2, hn', hq, mm, rws, C, rfl⟩ := zip_of hv hz
                  exact ⟨f0, l0, e2, hn', hq, q2 _ H2 x2 (walk_zN C)⟩
                | er i => exact absurd hz zipD_er
                | no => rw [hz] at q2; exact q2.elim
        | _ => cases hT
      · exact ok_iterD (h _)
  · exact ok_iterD (h _)
end
end PY

set_option Elab.async false
set_option linter.all false
set_option maxRecDepth 100000
set_option maxHeartbeats 4000000
/-! The reckoning is right: slots, targets. -/
namespace PY
open PySem PySem.Spec PyProof.Rows L2 DK DD
/-- the slots bear the data: own lists for reading alone (lev true), all others (lev false) -/
structure Cxt (c : Cn) (K : PySem.W.Frag) (lev : Bool → List Addr) (σ : L2.St) (H : Hp) (ρ : En) : Prop where
  ls : σ.length = c.N.length
  lr : ρ.length = c.N.length
  dom : ∀ w, Dom (lev w) H
  sub : ∀ a, a ∈ lev true → a ∈ lev false
  rd : ∀ (i : Nat) (x : Str) (d : PyData), c.N[i]? = some x → ρ[i]? = some (some d) → ∃ v, σ[i]? = some (some v) ∧ Rv K (mi H (lev (c.isOwn x))) v d
section
variable {P : Program} {w : World} {K : PySem.W.Frag} {mg : Str → Option Value} {base : Heap} {k : Nat} {cl : Nat → Addr} {c : Cn} {sc : Scope} {W : WX}
variable {L : List Addr} {σ : L2.St} {H H' : Hp} {e a b tg : Expr} {es : List Expr} {r : Rs PyData} {rs : Rs (List PyData)} {N : List Str} {lev : Bool → List Addr} {ρ : En}
theorem Cxt.ex (h : Cxt c K lev σ H ρ) (e : Evl.Ex H H') : Cxt c K lev σ H' ρ := ⟨h.ls, h.lr, fun w => (h.dom w).ex e, h.sub, fun i x d h1 h2 => let ⟨v, h3, h4⟩ := h.rd i x d h1 h2; ⟨v, h3, re e h4⟩⟩
/-- a slot that is no own list's takes a value -/
theorem Cxt.set {i : Nat} {x : Str} {v : V} {d : PyData} (h : Cxt c K lev σ H ρ) (hx : c.N[i]? = some x) (ho : c.isOwn x = false) (hv : Rv K (mi H (lev false)) v d) : Cxt c K lev (σ.set i (some v)) H (setE i d ρ) := by
  unfold setE
  refine ⟨by rw [List.length_set, h.ls], by rw [List.length_set, h.lr], h.dom, h.sub, fun j y d' h1 h2 => ?_⟩
  have hi : i < ρ.length := by rw [h.lr]; exact (List.getElem?_eq_some_iff.mp hx).1
  have hi' : i < σ.length := by rw [h.ls, ← h.lr]; exact hi
  by_cases e : i = j
  · subst e
    rw [List.getElem?_set_self hi] at h2
    cases h2
    rw [hx] at h1
    cases h1
    rw [List.getElem?_set_self hi', ho]
    exact ⟨v, rfl, hv⟩
  · rw [List.getElem?_set_ne e] at h2
    rw [List.getElem?_set_ne e]
    exact h.rd j y d' h1 h2
theorem Cxt.wipe (h : Cxt c K lev σ H ρ) : ∀ ws : List Nat, Cxt c K lev (L2.wipe σ ws) H (wipeE ρ ws)
  | [] => h
  | i :: ws => by
    have ih := h.wipe ws
    show Cxt c K lev ((L2.wipe σ ws).set i none) H ((wipeE ρ ws).set i none)
    refine ⟨by rw [List.length_set, ih.ls], by rw [List.length_set, ih.lr], ih.dom, ih.sub, fun j y d' h1 h2 => ?_⟩
    by_cases e : i = j
    · subst e
      by_cases hl : i < (wipeE ρ ws).length
      · rw [List.getElem?_set_self hl] at h2
        cases h2
      · rw [List.getElem?_eq_none (by rw [List.length_set]; omega)] at h2
        cases h2
    · rw [List.getElem?_set_ne e] at h2
      rw [List.getElem?_set_ne e]
      exact ih.rd j y d' h1 h2
/-- within a comprehension whose new list is at D -/
theorem Cxt.into (h : Cxt c K lev σ H ρ) {w0 : Bool} {D : Addr} {H2 H3 : Hp} (e : Evl.Ex H H2) (hD : H2 D = none) (e2 : Evl.Ex H2 H3) (h3 : H3 D ≠ none) : Cxt c K (fun w => D :: lev (w || w0)) σ H3 ρ := by
  have h2 := h.ex e
  refine ⟨h.ls, h.lr, fun w => ((h2.dom (w || w0)).ex e2).cons h3, fun a ha => ?_, fun i x d h1 h2' => ?_⟩
  · rcases List.mem_cons.mp ha with rfl | ha
    · exact List.mem_cons_self
    · refine List.mem_cons_of_mem _ ?_
      cases w0 with
      | true => simpa using ha
      | false => exact h.sub a (by simpa using ha)
  · obtain ⟨v, k1, k2⟩ := h2.rd i x d h1 h2'
    refine ⟨v, k1, re e2 (radd hD (rless (fun m hm => ?_) k2))⟩
    cases w0 with
    | false => simpa using hm
    | true =>
      have hm' : m ∈ lev true := by simpa using hm
      cases hq : c.isOwn x with
      | true => exact hm'
      | false => exact h.sub m hm'
/-! targets -/
def tBG (P : Program) (w : World) (K : PySem.W.Frag) (mg : Str → Option Value) (base : Heap) (k : Nat) (N : List Str) (sc : Scope) (W : WX) (e : Expr) : TG := fun v σ H Q => ∃ t : TG, (∀ X, Good P w K mg base k N sc W X → PG X e t) ∧ t v σ H Q
def tBGs (P : Program) (w : World) (K : PySem.W.Frag) (mg : Str → Option Value) (base : Heap) (k : Nat) (N : List Str) (sc : Scope) (W : WX) (es : List Expr) : TGs := fun vs σ H Q => ∃ t : TGs, (∀ X, Good P w K mg base k N sc W X → PGs X es t) ∧ t vs σ H Q
theorem bg {X : Cx} (g : Good P w K mg base k N sc W X) (e : Expr) : PG X e (tBG P w K mg base k N sc W e) := ⟨fun pins s σ H v u Q I r ⟨t, ht, q⟩ => (ht X g).run pins s σ H v u Q I r q⟩
theorem bgs {X : Cx} (g : Good P w K mg base k N sc W X) (es : List Expr) : PGs X es (tBGs P w K mg base k N sc W es) := ⟨fun pins s σ H v u Q I r ⟨t, ht, q⟩ => (ht X g).run pins s σ H v u Q I r q⟩
theorem tgt_star {n : Nat} {d : PyData} {ρ' : En} (h : tgt c sc n e d ρ = some ρ') : noStar e = true := by
  cases n with
  | zero => cases h
  | succ n => cases e <;> first | rfl | cases h
theorem starA {env : Env} (h : noStar e = true) : assignEach (e :: es) env = (false, assign e env) :: assignEach es env := by
  cases e <;> first | rfl | cases h
theorem tgts_star : ∀ {n : Nat} {es : List Expr} {ds : List PyData} {ρ ρ' : En}, tgts c sc n es ds ρ = some ρ' → ∀ env : Env, (assignEach es env).length = ds.length ∧ (assignEach es env).findIdx? (·.1) = none
  | 0, _, _, _, _, h => by cases h
  | n + 1, [], [], _, _, _ => fun env => ⟨rfl, rfl⟩
  | n + 1, [], d :: ds, _, _, h => by cases h
  | n + 1, e :: es, [], _, _, h => by cases h
  | n + 1, e :: es, d :: ds, ρ, ρ', h => fun env => by
    unfold tgts at h
    cases q : tgt c sc n e d ρ with
    | none => rw [q] at h; cases h
    | some ρ2 =>
      rw [q] at h
      obtain ⟨h1, h2⟩ := tgts_star (n := n) h env
      rw [starA (tgt_star q)]
      refine ⟨by rw [List.length_cons, h1] <;> rfl, ?_⟩
      rw [List.findIdx?_cons]
      simp [h2]
theorem wipe_set {i : Nat} {x : Option V} : ∀ {ws : List Nat} {σ : L2.St}, i ∈ ws → L2.wipe (σ.set i x) ws = L2.wipe σ ws
  | [], _, h => by simp at h
  | j :: ws, σ, h => by
    show (L2.wipe (σ.set i x) ws).set j none = (L2.wipe σ ws).set j none
    by_cases hm : i ∈ ws
    · rw [wipe_set hm]
    · have e : i = j := by
        rcases List.mem_cons.mp h with e | e
        · exact e
        · exact absurd e hm
      subst e
      have : ∀ (ws : List Nat) (σ : L2.St), i ∉ ws → L2.wipe (σ.set i x) ws = (L2.wipe σ ws).set i x := fun ws => by
        induction ws with
        | nil => exact fun σ _ => rfl
        | cons k ws ih =>
          intro σ hn
          have hk : i ≠ k := fun z => hn (by rw [z]; exact List.mem_cons_self)
          show (L2.wipe (σ.set i x) ws).set k none = ((L2.wipe σ ws).set k none).set i x
          rw [ih σ (fun z => hn (List.mem_cons_of_mem _ z)), List.set_comm _ _ hk]
      rw [this ws σ hm, List.set_set]
/-- the own lists' slots are as they were -/
def OwnSame (c : Cn) (σ : L2.St) (ρ : En) (σ' : L2.St) (ρ' : En) : Prop := ∀ (i : Nat) (x : Str), c.N[i]? = some x → c.isOwn x = true → σ'[i]? = σ[i]? ∧ ρ'[i]? = ρ[i]?
theorem OwnSame.set {i : Nat} {x : Str} {v : V} {d : PyData} (hx : c.N[i]? = some x) (ho : c.isOwn x = false) : OwnSame c σ ρ (σ.set i (some v)) (setE i d ρ) := fun j y h1 h2 => by
  have ne : i ≠ j := fun z => by
    subst z
    rw [hx] at h1
    cases h1
    rw [ho] at h2
    cases h2
  unfold setE
  rw [List.getElem?_set_ne ne, List.getElem?_set_ne ne]
  exact ⟨rfl, rfl⟩
theorem OwnSame.trans {σ1 σ2 σ3 : L2.St} {ρ1 ρ2 ρ3 : En} (a : OwnSame c σ1 ρ1 σ2 ρ2) (b : OwnSame c σ2 ρ2 σ3 ρ3) : OwnSame c σ1 ρ1 σ3 ρ3 := fun i x h1 h2 => ⟨(b i x h1 h2).1.trans (a i x h1 h2).1, (b i x h1 h2).2.trans (a i x h1 h2).2⟩
mutual
theorem ok_tgt : ∀ (n : Nat) {e : Expr} {d : PyData} {ρ ρ' : En} {σ : L2.St} {v : V}, tgt c sc n e d ρ = some ρ' → Cxt c K lev σ H ρ → Rv K (mi H (lev false)) v d → ∀ Q : L2.St → Hp → Prop,
    (∀ σ', Cxt c K lev σ' H ρ' → (∀ ws, tgtIn c.N ws n e = true → L2.wipe σ' ws = L2.wipe σ ws) → OwnSame c σ ρ σ' ρ' → Q σ' H) → tBG P w K mg base k c.N sc W e v σ H Q
  | 0, _, _, _, _, _, _, h, _, _, _, _ => by cases h
  | n + 1, e, d, ρ, ρ', σ, v, h, C, hv, Q, q => by
    unfold tgt at h
    split at h
    · rename_i x p
      split at h
      · rename_i i hn
        split at h
        · cases h
        · rename_i ho
          have ho : c.isOwn x = false := by simpa using ho
          obtain ⟨n1, n2, n3, n4⟩ := nm_slot hn
          have key : setE i d ρ = ρ' → (sc.names.lookup x = some .local ∨ sc.names.lookup x = some .cell) → tBG P w K mg base k c.N sc W (.Name x p) v σ H Q := fun hr hl => by
            subst hr
            refine ⟨gName i, fun X g => pg_name (by rw [g.eN]; exact g.nd) (by rw [g.eN]; exact n1) (g.loc hl) (g.hf hl), q _ (C.set n1 ho hv) (fun ws hw => wipe_set ?_) (OwnSame.set n1 ho)⟩
            simp only [tgtIn] at hw
            split at hw
            · rename_i j hj
              have : i = j := by
                unfold nmOf at hn
                split at hn
                · cases hn
                · split at hn
                  · cases hn
                  · cases hn
                  · cases hn
                  · rw [hj] at hn
                    cases hn
                    rfl
              subst this
              simpa using hw
            · cases hw
          split at h
          · cases h
          · rename_i hf
            refine key (Option.some.inj h) ?_
            rcases n2 with n2 | n2 | n2
            · exact .inl n2
            · exact .inr n2
            · exact absurd n2 hf
      · cases h
    · rename_i es kk p
      split at h
      · rename_i ds
        cases hv with
        | tup h1 h2 =>
          refine ⟨gTup K ds.length (tBGs P w K mg base k c.N sc W es), fun X g => ?_, ?_⟩
          · rw [← g.eK]
            exact pg_tup g.calm (by rw [g.eK]; exact bgs g es) (tgts_star h X.env).1 (tgts_star h X.env).2
          · exact ⟨_, _, rfl, Evl.st_of (mi_some h1).2, ra_len h2, ok_tgts n h C h2 Q fun σ' C' hw hs => q σ' C' (fun ws hws => hw ws (by unfold tgtIn at hws; exact hws)) hs⟩
      · rename_i ds
        cases hv with
        | lst h1 h2 =>
          refine ⟨gUnl K ds.length (tBGs P w K mg base k c.N sc W es), fun X g => ?_, ?_⟩
          · rw [← g.eK]
            exact pg_unl g.calm (by rw [g.eK]; exact bgs g es) (tgts_star h X.env).1 (tgts_star h X.env).2
          · exact ⟨_, _, rfl, Evl.sq_of (mi_some h1).2, ra_len h2, ok_tgts n h C h2 Q fun σ' C' hw hs => q σ' C' (fun ws hws => hw ws (by unfold tgtIn at hws; exact hws)) hs⟩
      · cases h
    · cases h
theorem ok_tgts : ∀ (n : Nat) {es : List Expr} {ds : List PyData} {ρ ρ' : En} {σ : L2.St} {vs : List V}, tgts c sc n es ds ρ = some ρ' → Cxt c K lev σ H ρ → RvA K (mi H (lev false)) vs ds → ∀ Q : L2.St → Hp → Prop,
    (∀ σ', Cxt c K lev σ' H ρ' → (∀ ws, tgtsIn c.N ws n es = true → L2.wipe σ' ws = L2.wipe σ ws) → OwnSame c σ ρ σ' ρ' → Q σ' H) → tBGs P w K mg base k c.N sc W es vs σ H Q
  | 0, _, _, _, _, _, _, h, _, _, _, _ => by cases h
  | n + 1, [], [], ρ, ρ', σ, vs, h, C, hv, Q, q => by
    cases hv
    cases h
    exact ⟨gNil, fun X g => pgs_nil, rfl, q σ C (fun _ _ => rfl) fun _ _ _ _ => ⟨rfl, rfl⟩⟩
  | n + 1, [], d :: ds, _, _, _, _, h, _, _, _, _ => by cases h
  | n + 1, e :: es, [], _, _, _, _, h, _, _, _, _ => by cases h
  | n + 1, e :: es, d :: ds, ρ, ρ', σ, vs, h, C, hv, Q, q => by
    unfold tgts at h
    cases z : tgt c sc n e d ρ with
    | none => rw [z] at h; cases h
    | some ρ2 =>
      rw [z] at h
      cases hv with
      | cons h1 h2 =>
        refine ⟨gCons (tBG P w K mg base k c.N sc W e) (tBGs P w K mg base k c.N sc W es), fun X g => pgs_cons (bg g e) (bgs g es) (by rw [starA (tgt_star z)] <;> rfl), _, _, rfl, ?_⟩
        refine ok_tgt n z C h1 _ fun σ2 C2 w2 s2 => ?_
        refine ok_tgts n h C2 h2 Q fun σ3 C3 w3 s3 => q σ3 C3 (fun ws hw => ?_) (s2.trans s3)
        unfold tgtsIn at hw
        rw [Bool.and_eq_true] at hw
        rw [w3 ws hw.2, w2 ws hw.1]
end
end
end PY

set_option Elab.async false
set_option linter.all false
set_option maxRecDepth 100000
set_option maxHeartbeats 8000000
/-! The reckoning is right: comprehensions; all expressions. -/
namespace PY
open PySem PySem.Spec PyProof.Rows L2 DK DD
section
variable {P : Program} {w : World} {K : PySem.W.Frag} {mg : Str → Option Value} {base : Heap} {k : Nat} {cl : Nat → Addr} {c : Cn} {sc : Scope} {W : WX}
variable {L : List Addr} {σ : L2.St} {H H' : Hp} {e a b tg : Expr} {es : List Expr} {r : Rs PyData} {rs : Rs (List PyData)} {N : List Str} {lev : Bool → List Addr} {ρ : En}
abbrev WF : WX := fun _ _ _ _ => False
theorem noSet_fold {e : Expr} {env : Env} (h : noSet e = true) : ∀ x, foldedSetIterable e env x = pure x := by
  cases e <;> first | (intro _; rfl) | cases h
theorem Good.bok {X : Cx} (g : Good P w K mg base k N sc W X) {sc' : Scope} {own : List (Str × Nat)} (h : blkC N sc sc' own = true) : BlkOk X.N X.env.scope sc' own := by
  have b := blkOk_by h
  refine ⟨b.kind, b.uniq, fun p hp => by rw [g.eN]; exact b.ix p hp, fun y hy e => ?_, fun y hy e => by rw [g.eN]; exact b.own y hy e⟩
  rcases b.free y hy e with z | z
  · rcases g.kd _ _ z with q | ⟨q, _⟩
    · exact .inl q
    · cases q
  · rcases g.kd _ _ z with q | ⟨_, q⟩
    · exact .inr q
    · exact .inl q
theorem noEr_er {α : Type} {r : Rs α} {i : Nat} : noEr r ≠ .er i := by
  cases r <;> exact fun h => nomatch h
theorem noEr_ok {α : Type} {r : Rs α} {a : α} (h : noEr r = .ok a) : r = .ok a := by
  cases r <;> first | exact h | cases h
theorem bind_is {α β : Type} {r : Rs α} {f : α → Rs β} {b : β} (h : r.bind f = .ok b) : ∃ a, r = .ok a ∧ f a = .ok b := by
  cases r with
  | ok a => exact ⟨a, rfl, h⟩
  | er i => cases h
  | no => cases h
theorem turn_er {g : PyData → Option En} {ifs : List Expr} {ft : Expr → En → Rs Bool} {fe : En → Rs PyData} {d : PyData} {i : Nat} : turnD g ifs ft fe d ≠ .er i := by
  unfold turnD
  split
  · exact fun h => nomatch h
  · rename_i ρ' _
    split
    · cases q : noEr (fe ρ') with
      | ok y => exact fun h => nomatch h
      | er j => exact absurd q noEr_er
      | no => exact fun h => nomatch h
    · rename_i t
      cases q : noEr (ft t ρ') with
      | ok y =>
        cases y with
        | true =>
          cases q : noEr (fe ρ') with
          | ok y => exact fun h => nomatch h
          | er j => exact absurd q noEr_er
          | no => exact fun h => nomatch h
        | false => exact fun h => nomatch h
      | er j => exact absurd q noEr_er
      | no => exact fun h => nomatch h
    · exact fun h => nomatch h
theorem mapD_er {f : PyData → Rs (Option PyData)} (hf : ∀ d i, f d ≠ .er i) : ∀ {ds : List PyData} {i : Nat}, mapD f ds ≠ .er i
  | [], _ => fun h => nomatch h
  | d :: ds, i => by
    unfold mapD
    cases q : f d with
    | ok o =>
      cases q2 : mapD f ds with
      | ok r => exact fun h => nomatch h
      | er j => exact absurd q2 (mapD_er hf)
      | no => exact fun h => nomatch h
    | er j => exact absurd q (hf d j)
    | no => exact fun h => nomatch h
theorem wipe_wipe (σ : L2.St) (ws : List Nat) : L2.wipe (L2.wipe σ ws) ws = L2.wipe σ ws := by
  have one : ∀ (vs : List Nat), (∀ v ∈ vs, v ∈ ws) → L2.wipe (L2.wipe σ vs) ws = L2.wipe σ ws := fun vs => by
    induction vs with
    | nil => exact fun _ => rfl
    | cons v vs ih =>
      intro h
      show L2.wipe ((L2.wipe σ vs).set v none) ws = _
      rw [wipe_set (h v List.mem_cons_self)]
      exact ih fun u hu => h u (List.mem_cons_of_mem _ hu)
  exact one ws fun _ h => h
theorem drop_at {ds : List PyData} {i : Nat} {d : PyData} (h : ds[i]? = some d) : ds.drop i = d :: ds.drop (i + 1) := by
  obtain ⟨h1, h2⟩ := List.getElem?_eq_some_iff.mp h
  rw [List.drop_eq_getElem_cons h1, h2]
/-- the reading of a comprehension -/
structure TLc (P : Program) (w : World) (K : PySem.W.Frag) (mg : Str → Option Value) (base : Heap) (k : Nat) (N : List Str) (sc : Scope) (W : WX) (elt tg iter : Expr) (ifs : List Expr) (sc' : Scope) (own : List (Str × Nat)) (wi : TI) (g : TG) (tt : TT) (te : TE) : Prop where
  pi : ∀ X, Good P w K mg base k N sc W X → PI X tg iter wi
  bo : ∀ X, Good P w K mg base k N sc W X → BlkOk X.N X.env.scope sc' own
  pg : ∀ X, Good P w K mg base k N sc W X → ∀ (s : Shared) (H : Hp) (C : Addr) (cl : List (Str × Addr)) (fp : List Addr), PG (X.blk s H sc' (compEnvC sc' cl C X.env) fp) tg g
  pt : ∀ X, Good P w K mg base k N sc W X → ∀ (s : Shared) (H : Hp) (C : Addr) (cl : List (Str × Addr)) (fp : List Addr), PTs (X.blk s H sc' (compEnvC sc' cl C X.env) fp) ifs tt
  pe : ∀ X, Good P w K mg base k N sc W X → ∀ (s : Shared) (H : Hp) (C : Addr) (cl : List (Str × Addr)) (fp : List Addr), PE (X.blk s H sc' (compEnvC sc' cl C X.env) fp) elt te
theorem ok_comp {elt iter : Expr} {ifs : List Expr} {sc' : Scope} {own : List (Str × Nat)} {fe : En → Rs PyData} {ft : Expr → En → Rs Bool} {w0 : Bool}
    (hb : blkC c.N sc sc' own = true) (ht : tgtIn c.N (own.map (·.2)) 8 tg = true) (hone : ifs.length ≤ 1) (C : Cxt c K lev σ H ρ)
    (hi : OkI P w K mg base k cl c.N sc W (lev w0) tg iter rs σ H)
    (he : ∀ lev' σ' H' ρ', Cxt c K lev' σ' H' ρ' → OkE P w K mg base k cl c.N sc' WF (lev' w0) elt (fe ρ') σ' H')
    (hft : ∀ t lev' σ' H' ρ', Cxt c K lev' σ' H' ρ' → OkT P w K mg base k cl c.N sc' WF t (ft t ρ') σ' H') :
    ∀ H1, Evl.Ex H H1 → ∀ Q : VK, Out cl W σ H1 (rs.bind fun ds => if ds.length ≤ 100000 then mapD (turnD (fun d => tgt c sc' 8 tg d (wipeE ρ (own.map (·.2)))) ifs ft fe) ds else .no)
        (fun ds => ∀ p vs H2, H1 p = none → Evl.Ex H1 H2 → H2 p = some (.lst vs) → RvA K (mi H2 (p :: lev w0)) vs ds → Q (.ref p) H2) →
      ∃ wi g tt te, TLc P w K mg base k c.N sc W elt tg iter ifs sc' own wi g tt te ∧ tLc wi g tt te (own.map (·.2)) σ H1 Q := fun H1 x Q q => by
  have hk : sc'.kind = .function := (blkOk_by hb).kind
  obtain ⟨tt, htt, hT⟩ : ∃ tt : TT, (∀ X, Good P w K mg base k c.N sc' WF X → PTs X ifs tt) ∧ ((ifs = [] ∧ tt = tYes) ∨ (∃ t, ifs = [t] ∧ tt = tBT P w K mg base k c.N sc' WF t)) := by
    match ifs, hone with
    | [], _ => exact ⟨tYes, fun X g => pts_nil, .inl ⟨rfl, rfl⟩⟩
    | [t], _ => exact ⟨_, fun X g => pts_one (bt g t), .inr ⟨t, rfl, rfl⟩⟩
    | a :: b :: l, h => simp at h
  refine ⟨tBI P w K mg base k c.N sc W tg iter, tBG P w K mg base k c.N sc' WF tg, tt, tB P w K mg base k c.N sc' WF elt, ⟨fun X g => bi g _ _, fun X g => g.bok hb, fun X g s H C cl fp => bg (g.blk hk) _, fun X g s H C cl fp => htt _ (g.blk hk), fun X g s H C cl fp => be (g.blk hk) _⟩, ?_⟩
  refine hi H1 x _ ((Out.bind q).mono (Evl.Ex.refl _) fun ds _ s J H2 x2 wd D hD => ?_)
  have hl : ds.length ≤ 100000 := Classical.byContradiction fun z => by
    rw [if_neg z] at s
    exact s.elim
  rw [if_pos hl] at s
  obtain ⟨n, G, Y, wk, hn, hw⟩ := wd
  have hMsub : ∀ m ∈ D :: lev w0, m ∈ lev w0 ∨ H2 m = none := fun m hm => by
    rcases List.mem_cons.mp hm with rfl | hm
    · exact .inr hD
    · exact .inl hm
  obtain ⟨hG, hY⟩ := hw (D :: lev w0) hMsub
  cases hm : mapD (turnD (fun d => tgt c sc' 8 tg d (wipeE ρ (own.map (·.2)))) ifs ft fe) ds with
  | er i => exact absurd hm (mapD_er fun d i => turn_er)
  | no => rw [hm] at s; exact s.elim
  | ok total =>
  rw [hm] at s
  have x02 := x.trans x2
  refine lc_it wk (fun i H' => Evl.Ex H2 H' ∧ ∃ acc pre suf, H' D = some (.lst acc) ∧ RvA K (mi H' (D :: lev w0)) acc pre ∧ mapD (turnD (fun d => tgt c sc' 8 tg d (wipeE ρ (own.map (·.2)))) ifs ft fe) (ds.drop i) = .ok suf ∧ pre ++ suf = total ∧ pre.length ≤ i)
    ⟨Evl.Ex.new hD, [], [], total, upd_same, .nil, by rw [List.drop_zero]; exact hm, rfl, Nat.zero_le _⟩ (fun i H' _ p => hG H' (ExM.of p.1)) (fun i u H' H'' hi' p y => ?_) (fun H' p => ?_)
  · obtain ⟨eH, acc, pre, suf, hacc, hpre, hsuf, htot, hlen⟩ := p
    have CI : Cxt c K (fun w => D :: lev (w || w0)) σ H' ρ := C.into x02 hD eH (by rw [hacc]; exact fun z => nomatch z)
    have hdom : Dom (D :: lev w0) H' := by
      have := CI.dom w0
      simpa using this
    obtain ⟨eY, d, hd, rd⟩ := hY i H' u H'' hi' (ExM.of eH) hdom y
    have hacc'' := eY _ _ hacc
    have C2 := (CI.ex eY).wipe (own.map (·.2))
    rw [drop_at hd] at hsuf
    unfold mapD at hsuf
    obtain ⟨o, ho, hsuf⟩ := bind_is hsuf
    obtain ⟨rest, hrest, hsuf⟩ := bind_is hsuf
    obtain rfl : suf = conso o rest := (Rs.ok.inj hsuf).symm
    have hiL : i < 100000 := by omega
    unfold turnD at ho
    split at ho
    · cases ho
    rename_i ρ' hρ
    refine ok_tgt 8 hρ C2 rd _ fun σ3 C3 hw3 _ => ⟨?_, ?_⟩
    · have := hw3 (own.map (·.2)) ht
      rw [this]
      exact wipe_wipe σ _
    · -- the element
      have elem : ∀ H4, Evl.Ex H'' H4 → ∀ yd, fe ρ' = .ok yd → o = some yd → tB P w K mg base k c.N sc' WF elt σ3 H4 fun y H5 => ∃ acc, H5 D = some (.lst acc) ∧ acc.length < sizeLine ∧
          (Evl.Ex H2 (upd H5 D (.lst (acc ++ [y]))) ∧ ∃ acc' pre suf, upd H5 D (.lst (acc ++ [y])) D = some (.lst acc') ∧ RvA K (mi (upd H5 D (.lst (acc ++ [y]))) (D :: lev w0)) acc' pre ∧ mapD (turnD (fun d => tgt c sc' 8 tg d (wipeE ρ (own.map (·.2)))) ifs ft fe) (ds.drop (i + 1)) = .ok suf ∧ pre ++ suf = total ∧ pre.length ≤ i + 1) := fun H4 e4 yd hy ho' => by
        refine he _ σ3 H'' ρ' C3 H4 e4 _ ?_
        rw [hy]
        intro y H5 e5 ry
        have ry : Rv K (mi H5 (D :: lev w0)) y yd := by
          have z : (w0 || w0) = w0 := by cases w0 <;> rfl
          have z2 : Rv K (mi H5 (D :: lev (w0 || w0))) y yd := ry
          rw [z] at z2
          exact z2
        have e2 := (eY.trans e4).trans e5
        have hacc5 := (e4.trans e5) _ _ hacc''
        have eM : ExM (D :: lev w0) H5 (upd H5 D (.lst (acc ++ [y]))) := ExM.mut (by simp)
        have hra := ra_len hpre
        refine ⟨acc, hacc5, Evl.sz_lt (by omega), (eH.trans e2).mut hD, acc ++ [y], pre ++ [yd], rest, upd_same, ra_app (rms eM (res e2 hpre)) (.cons (rm eM ry) .nil), hrest, ?_, by simp; omega⟩
        subst ho'
        rw [← htot]
        simp [conso]
      split at ho
      · -- no test
        rcases hT with ⟨_, rfl⟩ | ⟨t, hz, _⟩
        · obtain ⟨yd, hy, ho⟩ := bind_is ho
          have ho' : o = some yd := (Rs.ok.inj ho).symm
          simp only [tYes, ↓reduceIte]
          exact elem H'' (Evl.Ex.refl _) yd (noEr_ok hy) ho'
        · cases hz
      · -- a test
        rcases hT with ⟨hz, _⟩ | ⟨t', hz, rfl⟩
        · cases hz
        · cases hz
          obtain ⟨bb, hbb, ho⟩ := bind_is ho
          refine hft _ _ σ3 H'' ρ' C3 H'' (Evl.Ex.refl _) _ ?_
          rw [noEr_ok hbb]
          intro H4 e4
          cases bb with
          | true =>
            rw [if_pos rfl] at ho ⊢
            obtain ⟨yd, hy, ho⟩ := bind_is ho
            exact elem H4 e4 yd (noEr_ok hy) (Rs.ok.inj ho).symm
          | false =>
            rw [if_neg Bool.false_ne_true] at ho ⊢
            have ho' : o = none := (Rs.ok.inj ho).symm
            subst ho'
            exact ⟨(eH.trans eY).trans e4, acc, pre, rest, e4 _ _ hacc'', res (eY.trans e4) hpre, hrest, htot, by omega⟩
      · cases ho
  · obtain ⟨eH, acc, pre, suf, hacc, hpre, hsuf, htot, hlen⟩ := p
    rw [hn, List.drop_length] at hsuf
    cases hsuf
    rw [List.append_nil] at htot
    subst htot
    exact s D acc H' (Evl.fresh_back x2 hD) (x2.trans eH) hacc hpre
theorem ok_lcN {elt iter : Expr} {ifs : List Expr} {sc' : Scope} {own : List (Str × Nat)} {pos : Pos} {r : Rs (List PyData)} {L : List Addr} (hns : noSet iter = true)
    (h : ∀ H1, Evl.Ex H H1 → ∀ Q : VK, Out cl W σ H1 r (fun ds => ∀ p vs H2, H1 p = none → Evl.Ex H1 H2 → H2 p = some (.lst vs) → RvA K (mi H2 (p :: L)) vs ds → Q (.ref p) H2) →
      ∃ wi g tt te, TLc P w K mg base k N sc W elt tg iter ifs sc' own wi g tt te ∧ tLc wi g tt te (own.map (·.2)) σ H1 Q) :
    OkN P w K mg base k cl N sc W L (.ListComp elt [⟨tg, iter, ifs, 0⟩] sc' pos) r σ H := fun H1 x Q q => by
  obtain ⟨wi, g, tt, te, T, hq⟩ := h H1 x Q q
  exact ⟨_, fun X gd => pe_lc gd.calm (by rw [gd.eN]; exact gd.nd) (T.pi X gd) (T.bo X gd) (T.pg X gd) (T.pt X gd) (T.pe X gd) (noSet_fold hns), hq⟩
theorem yes_if {σ : L2.St} {H : Hp} {A B : Hp → Prop} (h : A H) : tYes σ H fun b H' => if b = true then A H' else B H' := by
  show (if true = true then A H else B H)
  rw [if_pos rfl]
  exact h
/-! comprehensions of two clauses -/
theorem walk_w {J : It} {n : Nat} {G : Hp → Prop} {Y : Nat → Hp → V → Hp → Prop} (wk : Walk J n G Y) {Stp : Hp → Prop} {Go : (Hp → Prop) → V → Hp → Prop} {H4 : Hp} (Pv : Nat → Hp → Prop) (h0 : Pv 0 H4) (hG : ∀ i H, i ≤ n → Pv i H → G H)
    (hs : ∀ i x H H', i < n → Pv i H → Y i H x H' → Go (Pv (i + 1)) x H') (hd : ∀ H, Pv n H → Stp H) :
    ∃ W : Nat → Nat → Hp → Prop, (∃ m, W 0 m H4) ∧ ∀ i m H, W i m H → (J.stop i H ∧ Stp H) ∨ (J.go i H ∧ ∃ Nx : Hp → Prop, (∀ H', Nx H' → ∃ m', m' < m ∧ W (i + 1) m' H') ∧ ∀ x H', J.yld i H x H' → Go Nx x H') := by
  refine ⟨fun i m H => m = n - i ∧ i ≤ n ∧ Pv i H, ⟨n, by simp, Nat.zero_le _, h0⟩, ?_⟩
  rintro i m H ⟨rfl, hi, p⟩
  have q := hG i H hi p
  by_cases hlt : i < n
  · exact .inr ⟨wk.goes i H hlt q, Pv (i + 1), fun H' p' => ⟨n - (i + 1), by omega, rfl, hlt, p'⟩, fun x H' y => hs i x H H' hlt p (wk.yields i H x H' hlt q y)⟩
  · have e : i = n := by omega
    subst e
    exact .inl ⟨wk.stops H q, hd H p⟩
def turn2 (c : Cn) (sc' : Scope) (ws vs1 : List Nat) (tg tg1 : Expr) (fi : En → Rs (List PyData)) (fe : En → Rs PyData) (ρ : En) (d : PyData) : Rs (List PyData) := match tgt c sc' 8 tg d (wipeE ρ ws) with
  | none => .no
  | some ρ1 => (noEr (fi ρ1)).bind fun ds1 => mapD (turnD (fun d1 => tgt c sc' 8 tg1 d1 (wipeE ρ1 vs1)) [] (fun _ _ => .no) fe) ds1
theorem turn2_er {sc' : Scope} {ws vs1 : List Nat} {tg tg1 : Expr} {fi : En → Rs (List PyData)} {fe : En → Rs PyData} {d : PyData} {i : Nat} : turn2 c sc' ws vs1 tg tg1 fi fe ρ d ≠ .er i := by
  unfold turn2
  split
  · exact fun h => nomatch h
  · rename_i ρ1 _
    cases q : noEr (fi ρ1) with
    | ok ds => exact mapD_er fun d i => turn_er
    | er j => exact absurd q noEr_er
    | no => exact fun h => nomatch h
theorem catD_er {f : PyData → Rs (List PyData)} (hf : ∀ d i, f d ≠ .er i) : ∀ {ds : List PyData} {i : Nat}, catD f ds ≠ .er i
  | [], _ => fun h => nomatch h
  | d :: ds, i => by
    unfold catD
    cases q : f d with
    | ok o =>
      cases q2 : catD f ds with
      | ok r => exact fun h => nomatch h
      | er j => exact absurd q2 (catD_er hf)
      | no => exact fun h => nomatch h
    | er j => exact absurd q (hf d j)
    | no => exact fun h => nomatch h
theorem ok_comp2 {elt iter tg1 iter1 : Expr} {sc' : Scope} {own : List (Str × Nat)} {vs1 : List Nat} {fe : En → Rs PyData} {fi : En → Rs (List PyData)} {w0 : Bool} {pos : Pos}
    (hb : blkC c.N sc sc' own = true) (ht : tgtIn c.N (own.map (·.2)) 8 tg = true) (ht1 : tgtIn c.N vs1 8 tg1 = true) (hv1 : ∀ i ∈ vs1, i ∈ own.map (·.2)) (hns : noSet iter = true) (hns1 : noSet iter1 = true) (C : Cxt c K lev σ H ρ)
    (hi : OkI P w K mg base k cl c.N sc W (lev w0) tg iter rs σ H)
    (hi1 : ∀ lev' σ' H' ρ', Cxt c K lev' σ' H' ρ' → OkI P w K mg base k cl c.N sc' WF (lev' w0) tg1 iter1 (fi ρ') σ' H')
    (he : ∀ lev' σ' H' ρ', Cxt c K lev' σ' H' ρ' → OkE P w K mg base k cl c.N sc' WF (lev' w0) elt (fe ρ') σ' H') :
    OkN P w K mg base k cl c.N sc W (lev w0) (.ListComp elt [⟨tg, iter, [], 0⟩, ⟨tg1, iter1, [], 0⟩] sc' pos)
      (rs.bind fun ds => if ds.length ≤ 100000 then (catD (turn2 c sc' (own.map (·.2)) vs1 tg tg1 fi fe ρ) ds).bind fun r => if r.length ≤ 100000 then .ok r else .no else .no) σ H := fun H1 x Q q => by
  have hk : sc'.kind = .function := (blkOk_by hb).kind
  refine ⟨tLc2 (tBI P w K mg base k c.N sc W tg iter) (tBG P w K mg base k c.N sc' WF tg) tYes (tBI P w K mg base k c.N sc' WF tg1 iter1) (tBG P w K mg base k c.N sc' WF tg1) tYes (tB P w K mg base k c.N sc' WF elt) (own.map (·.2)) vs1,
    fun X g => pe_lc2 g.calm (by rw [g.eN]; exact g.nd) (bi g _ _) (g.bok hb) hv1 (fun s H C cl fp => bg (g.blk hk) _) (fun s H C cl fp => pts_nil) (fun s H C cl fp => bi (g.blk hk) _ _) (fun s H C cl fp => bg (g.blk hk) _) (fun s H C cl fp => pts_nil) (fun s H C cl fp => be (g.blk hk) _) (noSet_fold hns) (fun env => noSet_fold hns1), ?_⟩
  refine hi H1 x _ ((Out.bind q).mono (Evl.Ex.refl _) fun ds _ s J H2 x2 wd D hD => ?_)
  have hl : ds.length ≤ 100000 := Classical.byContradiction fun z => by
    rw [if_neg z] at s
    exact s.elim
  rw [if_pos hl] at s
  obtain ⟨n, G, Y, wk, hn, hw⟩ := wd
  have hMsub : ∀ m ∈ D :: lev w0, m ∈ lev w0 ∨ H2 m = none := fun m hm => by
    rcases List.mem_cons.mp hm with rfl | hm
    · exact .inr hD
    · exact .inl hm
  obtain ⟨hG, hY⟩ := hw (D :: lev w0) hMsub
  cases hm : catD (turn2 c sc' (own.map (·.2)) vs1 tg tg1 fi fe ρ) ds with
  | er i => exact absurd hm (catD_er fun d i => turn2_er)
  | no => rw [hm] at s; exact s.elim
  | ok total =>
  rw [hm] at s
  have s : Out cl W σ H1 (if total.length ≤ 100000 then Rs.ok total else .no) _ := s
  have htl : total.length ≤ 100000 := Classical.byContradiction fun z => by
    rw [if_neg z] at s
    exact s.elim
  rw [if_pos htl] at s
  have x02 := x.trans x2
  let Pv : Nat → Hp → Prop := fun i H' => Evl.Ex H2 H' ∧ ∃ acc pre suf, H' D = some (.lst acc) ∧ RvA K (mi H' (D :: lev w0)) acc pre ∧ catD (turn2 c sc' (own.map (·.2)) vs1 tg tg1 fi fe ρ) (ds.drop i) = .ok suf ∧ pre ++ suf = total
  refine walk_w (H4 := upd H2 D (.lst [])) wk Pv
    ⟨Evl.Ex.new hD, [], [], total, upd_same, .nil, by rw [List.drop_zero]; exact hm, rfl⟩ (fun i H' _ p => hG H' (ExM.of p.1)) (fun i u H' H'' hi' p y => ?_) (fun H' p => ?_)
  · obtain ⟨eH, acc, pre, suf, hacc, hpre, hsuf, htot⟩ := p
    have CI : Cxt c K (fun w => D :: lev (w || w0)) σ H' ρ := C.into x02 hD eH (by rw [hacc]; exact fun z => nomatch z)
    have hdom : Dom (D :: lev w0) H' := by
      have := CI.dom w0
      simpa using this
    obtain ⟨eY, d, hd, rd⟩ := hY i H' u H'' hi' (ExM.of eH) hdom y
    have hacc'' := eY _ _ hacc
    have C2 := (CI.ex eY).wipe (own.map (·.2))
    rw [drop_at hd] at hsuf
    unfold catD at hsuf
    obtain ⟨o, ho, hsuf⟩ := bind_is hsuf
    obtain ⟨rest, hrest, hsuf⟩ := bind_is hsuf
    obtain rfl : suf = o ++ rest := (Rs.ok.inj hsuf).symm
    unfold turn2 at ho
    split at ho
    · cases ho
    rename_i ρ1 hρ
    obtain ⟨ds1, hds1, ho⟩ := bind_is ho
    refine ok_tgt 8 hρ C2 rd _ fun σ3 C3 hw3 _ => ⟨?_, ?_⟩
    · have := hw3 (own.map (·.2)) ht
      rw [this]
      exact wipe_wipe σ _
    · simp only [tYes, ↓reduceIte]
      refine hi1 _ σ3 H'' ρ1 C3 H'' (Evl.Ex.refl _) _ ?_
      rw [noEr_ok hds1]
      intro J1 H4 x4 wd1
      obtain ⟨n1, G1, Y1, wk1, hn1, hw1⟩ := wd1
      have lv0 : D :: lev (w0 || w0) = D :: lev w0 := by
        have z : (w0 || w0) = w0 := by cases w0 <;> rfl
        rw [z]
      rw [lv0] at hw1
      obtain ⟨hG1, hY1⟩ := hw1 (D :: lev w0) (fun m hm => .inl hm)
      have hM4 : ∀ H', ExM (D :: lev w0) H4 H' → True := fun _ _ => trivial
      let Pv1 : Nat → Hp → Prop := fun j H' => ExM (D :: lev w0) H4 H' ∧ Evl.Ex H2 H' ∧ Cxt c K (fun w => D :: lev (w || w0)) σ3 H' ρ1 ∧ ∃ acc pre1 suf1, H' D = some (.lst acc) ∧ RvA K (mi H' (D :: lev w0)) acc (pre ++ pre1) ∧ mapD (turnD (fun d1 => tgt c sc' 8 tg1 d1 (wipeE ρ1 vs1)) [] (fun _ _ => .no) fe) (ds1.drop j) = .ok suf1 ∧ pre1 ++ suf1 = o
      refine walk_w wk1 Pv1 ⟨ExM.refl _ _, eH.trans (eY.trans x4), C3.ex x4, acc, [], o, x4 _ _ hacc'', by rw [List.append_nil]; exact res (eY.trans x4) hpre, by rw [List.drop_zero]; exact ho, rfl⟩ (fun j H' _ p => hG1 H' p.1) (fun j u1 H5 H6 hj p y1 => ?_) (fun H5 p => ?_)
      · obtain ⟨em, e2, C5, acc5, pre1, suf1, hacc5, hpre5, hsuf1, hto⟩ := p
        have hdom5 : Dom (D :: lev w0) H5 := by
          have := C5.dom w0
          simpa using this
        obtain ⟨eY1, d1, hd1, rd1⟩ := hY1 j H5 u1 H6 hj em hdom5 y1
        have C6 := (C5.ex eY1).wipe vs1
        rw [drop_at hd1] at hsuf1
        unfold mapD at hsuf1
        obtain ⟨o1, ho1, hsuf1⟩ := bind_is hsuf1
        obtain ⟨rest1, hrest1, hsuf1⟩ := bind_is hsuf1
        obtain rfl : suf1 = conso o1 rest1 := (Rs.ok.inj hsuf1).symm
        unfold turnD at ho1
        split at ho1
        · cases ho1
        rename_i ρ2 hρ2
        obtain ⟨yd, hyd, ho1⟩ := bind_is ho1
        obtain rfl : o1 = some yd := (Rs.ok.inj ho1).symm
        refine ok_tgt 8 hρ2 C6 rd1 _ fun σ7 C7 hw7 _ => ⟨?_, ?_⟩
        · have := hw7 vs1 ht1
          rw [this]
          exact wipe_wipe σ3 _
        · refine he _ σ7 H6 ρ2 C7 H6 (Evl.Ex.refl _) _ ?_
          rw [noEr_ok hyd]
          intro y H7 e7 ry
          have ry : Rv K (mi H7 (D :: lev w0)) y yd := by
            have z2 : Rv K (mi H7 (D :: lev (w0 || w0))) y yd := ry
            rw [lv0] at z2
            exact z2
          have hacc7 := (eY1.trans e7) _ _ hacc5
          have eM : ExM (D :: lev w0) H7 (upd H7 D (.lst (acc5 ++ [y]))) := ExM.mut (by simp)
          have hra := ra_len hpre5
          have hlen : (pre ++ pre1).length < 100000 := by
            rw [← htot, ← hto] at htl
            simp [conso] at htl ⊢
            omega
          have eX : Evl.Ex H2 (upd H7 D (.lst (acc5 ++ [y]))) := (e2.trans (eY1.trans e7)).mut hD
          refine ⟨acc5, hacc7, Evl.sz_lt (by omega), (em.trans (ExM.of (eY1.trans e7))).trans eM, eX, ?_, acc5 ++ [y], pre1 ++ [yd], rest1, upd_same, by rw [← List.append_assoc]; exact ra_app (rms eM (res (eY1.trans e7) hpre5)) (.cons (rm eM ry) .nil), hrest1, by rw [← hto]; simp [conso]⟩
          -- the slots still bear their data
          have C8 := (C5.ex eY1).ex e7
          refine ⟨C8.ls, C8.lr, fun b => ?_, C8.sub, fun i' x' d' h1 h2 => ?_⟩
          · intro a ha
            by_cases z : a = D
            · rw [z, upd_same]
              exact fun z => nomatch z
            · rw [upd_ne z]
              exact C8.dom b a ha
          · obtain ⟨v', k1, k2⟩ := C8.rd i' x' d' h1 h2
            exact ⟨v', k1, rm (ExM.mut (by simp)) k2⟩
      · obtain ⟨em, e2, C5, acc5, pre1, suf1, hacc5, hpre5, hsuf1, hto⟩ := p
        rw [hn1, List.drop_length] at hsuf1
        cases hsuf1
        rw [List.append_nil] at hto
        subst hto
        exact ⟨e2, acc5, pre ++ pre1, rest, hacc5, hpre5, hrest, by rw [List.append_assoc]; exact htot⟩
  · obtain ⟨eH, acc, pre, suf, hacc, hpre, hsuf, htot⟩ := p
    rw [hn, List.drop_length] at hsuf
    cases hsuf
    rw [List.append_nil] at htot
    subst htot
    exact s D acc H' (Evl.fresh_back x2 hD) (x2.trans eH) hacc hpre
/-! sorted(set(x)) -/
theorem ok_sset {f g : Str} {p p2 pos pos2 : Pos} {r : Rs PyData} {L : List Addr} (m : Mdl P w K mg base k cl c) (hf : f = "sorted") (hg : g = "set") (hset : mg "set" = none) (hn : nmOf N sc f = .glob) (hng : nmOf N sc g = .glob) (hs : noStar a = true) (ha : OkE P w K mg base k cl N sc W L a r σ H) :
    OkN P w K mg base k cl N sc W L (.Call (.Name f p) [.Call (.Name g p2) [a] [] pos2] [] pos) (r.bind fun d => match d with
              | .list ds => match asInts ds with
                | some is => if is.length < 64 then .ok ((srtI (dedI is)).map PyData.int) else .no
                | none => .no
              | _ => .no) σ H := fun H1 x Q q => by
  subst hf hg
  obtain ⟨g1, g2⟩ := nm_glob hn
  obtain ⟨t1, t2⟩ := nm_glob hng
  refine ⟨tCB (rSortedSet w) (tCons (tCB (SE.rSetI K w) (tCons (tB P w K mg base k N sc W a) tNil)) tNil), fun X gd => ?_, ?_⟩
  · have c1 : CallR X (.type "set") (SE.rSetI K w) := by rw [← gd.eK, ← gd.ew]; exact SE.cr_setI gd.calm
    have c2 : CallR X (.builtin "sorted") (rSortedSet w) := by rw [← gd.ew]; exact cr_sortedSet gd.calm
    exact pe_callB c2 (gd.gl g1) (by rw [gd.em]; exact m.blt _ (by decide +kernel)) (by decide +kernel) (pa_cons (pe_callTy c1 (gd.gl t1) (by rw [gd.em]; exact hset) (by decide +kernel) (pa_cons (be gd a) pa_nil (star1 hs)) (by decide +kernel) (by decide +kernel) (star1 hs) (star_all rfl)) pa_nil) (by decide +kernel) (by decide +kernel) rfl (star_all rfl)
  · refine ha H1 x _ ((Out.bind q).mono (Evl.Ex.refl _) fun d _ s v H2 x2 hv => ?_)
    split at s
    · split at s
      · rename_i is his
        split at s
        · rename_i hl
          rw [asInts_eq his] at hv
          cases hv with
          | lst h1 h2 =>
            obtain rfl := ra_ints h2
            refine ⟨_, is, rfl, Evl.sq_of (mi_some h1).2, by omega, fun p' cc np hc => ?_⟩
            refine ⟨p', _, cc, rfl, upd_same, by omega, fun ns r hpw hm hlen hr => ?_⟩
            obtain rfl : ns = TM.uni is := TM.lt_uni hpw (TM.uni_lt is) fun i => by
              rw [hm, TM.mem_uni]
              simp
            rw [srt_uni] at s
            exact s r _ _ (by
              cases hz : H1 r with
              | none => rfl
              | some o =>
                have := Evl.Ex.new (o := SetO w p' (fun j => decide (j ∈ is)) cc) np _ _ (x2 _ _ hz)
                rw [this] at hr
                cases hr) ((x2.trans (Evl.Ex.new np)).trans (Evl.Ex.new hr)) upd_same (rv_ints _)
        · exact s.elim
      · exact s.elim
    · exact s.elim
/-! texts -/
theorem ok_fmt {pos : Pos} {r : Rs PyData} {L : List Addr} (ha : OkE P w K mg base k cl N sc W L a r σ H) : OkE P w K mg base k cl N sc W L (.FormattedValue a (-1) none pos) (r.bind fun d => match d with
      | .str y => if y.length ≤ 100000 then .ok (.str y) else .no
      | .int i => if i.natAbs.log2 < 1920 then .ok (.str (toString i : String)) else .no
      | _ => .no) σ H := fun H1 x Q q => by
  refine ⟨_, fun X g => pe_fmt (be g a), ?_⟩
  refine ha H1 x _ ((Out.bind q).mono (Evl.Ex.refl _) fun d _ s v H2 x2 hv => ?_)
  split at s
  · split at s
    · rename_i hz
      obtain rfl := rStr hv
      exact .inl ⟨_, rfl, Evl.sz_of hz, s _ H2 x2 (.str _)⟩
    · exact s.elim
  · split at s
    · rename_i hz
      obtain rfl := rInt hv
      exact .inr ⟨_, rfl, hz, s _ H2 x2 (.str _)⟩
    · exact s.elim
  · exact s.elim
theorem pj_all {X : Cx} (g : Good P w K mg base k N sc W X) : ∀ es : List Expr, PJ X es (es.map fun e => tB P w K mg base k N sc W e)
  | [] => .nil
  | e :: es => .cons (be g e) (pj_all g es)
theorem ok_js {f : Expr → Rs PyData} {L : List Addr} (h : ∀ e, OkE P w K mg base k cl N sc W L e (f e) σ H) : ∀ (es : List Expr) (acc : Str) (H1 : Hp), Evl.Ex H H1 → ∀ Q : Str → Hp → Prop, Out cl W σ H1 (evJs f es acc) (fun z => ∀ H2, Evl.Ex H1 H2 → Q z H2) →
    tJs (es.map fun e => tB P w K mg base k N sc W e) acc σ H1 Q
  | [], acc, H1, x, Q, q => q H1 (Evl.Ex.refl _)
  | e :: es, acc, H1, x, Q, q => by
    refine h e H1 x _ ((Out.bind (r := f e) q).mono (Evl.Ex.refl _) fun d _ s v H2 x2 hv => ?_)
    split at s
    · split at s
      · rename_i y he hz
        obtain rfl := rStr hv
        exact ⟨y, rfl, Evl.sz_of hz, ok_js h es _ H2 (x.trans x2) Q (s.mono x2 fun z _ s H3 x3 => s H3 (x2.trans x3))⟩
      · exact s.elim
    · exact s.elim
theorem ok_joined {f : Expr → Rs PyData} {L : List Addr} {v1 v2 : Expr} {rest : List Expr} {pos : Pos} (h : ∀ e, OkE P w K mg base k cl N sc W L e (f e) σ H) :
    OkE P w K mg base k cl N sc W L (.JoinedStr (v1 :: v2 :: rest) pos) ((evJs f (v1 :: v2 :: rest) Str.empty).bind fun z => .ok (.str z)) σ H := fun H1 x Q q => by
  refine ⟨_, fun X g => pe_joined (pj_all g (v1 :: v2 :: rest)), ?_⟩
  exact ok_js h (v1 :: v2 :: rest) Str.empty H1 x _ ((Out.bind q).mono (Evl.Ex.refl _) fun z _ s H2 x2 => s _ H2 x2 (.str _))
theorem asStrs_eq : ∀ {ds : List PyData} {is : List Str}, asStrs ds = some is → ds = is.map PyData.str
  | [], is, h => by cases h; rfl
  | d :: ds, is, h => by
    cases d with
    | str i =>
      unfold asStrs at h
      cases q : asStrs ds with
      | none => rw [q] at h; cases h
      | some js =>
        rw [q] at h
        cases h
        rw [asStrs_eq q] <;> rfl
    | _ => cases h
theorem base_plain {o : Expr} {m : Str} {env : Env} {whole : Sem Value} (h : plainO o = true) : attributeBase o m env whole = whole := by
  cases o <;> first | rfl | cases h
theorem ok_join {o : Expr} {ap cp : Pos} {r1 r2 : Rs PyData} {L L0 : List Addr} (ho : plainO o = true) (hln : (ap.endLine == cp.line) = true) (hs : noStar a = true) (h1 : OkE P w K mg base k cl N sc W L o r1 σ H) (h2 : OkE P w K mg base k cl N sc W L0 a r2 σ H) :
    OkE P w K mg base k cl N sc W L (.Call (.Attribute o "join" ap) [a] [] cp) (r1.bind fun x => (noEr r2).bind fun y => match x, y with
          | .str z, .list ds => match asStrs ds with
            | some ys => if (ys.map (·.length)).sum + ys.length * z.length ≤ 16777216 then .ok (.str (PySem.Txt.join z ys)) else .no
            | none => .no
          | _, _ => .no) σ H := fun H1 x Q q => by
  refine ⟨tM1 (fun x xs H Q => ∃ a p, ∃ ys : List Str, x = .str a ∧ xs = [.ref p] ∧ (SqL K H p (ys.map V.str) ∨ SqT K H p (ys.map V.str)) ∧ (ys.map (·.length)).sum + ys.length * a.length ≤ 16777216 ∧ Q (.str (PySem.Txt.join a ys)) H) (tB P w K mg base k N sc W o) (tB P w K mg base k N sc W a), fun X g => by
    rw [← g.eK]
    exact pe_join (by rw [g.eK]; exact be g o) (by rw [g.eK]; exact be g a) (star1 hs) (base_plain ho) hln, ?_⟩
  by_cases hz : ∃ z, r1 = .ok (.str z)
  · obtain ⟨z, rfl⟩ := hz
    refine h1 H1 x _ ?_
    intro v H2 x2 hv
    obtain rfl := rStr hv
    have q2 := Out.bind (r := noEr r2) q
    refine ⟨⟨z, rfl⟩, h2 H2 (x.trans x2) _ ?_⟩
    cases hr : r2 with
    | er i => rw [hr] at q2; exact q2.elim
    | no => rw [hr] at q2; exact q2.elim
    | ok d =>
    rw [hr] at q2
    have s := q2
    intro u H3 x3 hu
    cases d with
    | list ds =>
      have s : Out cl W σ H1 (match asStrs ds with
            | some ys => if (ys.map (·.length)).sum + ys.length * z.length ≤ 16777216 then Rs.ok (PyData.str (PySem.Txt.join z ys)) else .no
            | none => .no) (fun d => ∀ v H2, Evl.Ex H1 H2 → Rv K (mi H2 L) v d → Q v H2) := s
      split at s
      · rename_i ys hys
        split at s
        · rename_i hl
          rw [asStrs_eq hys] at hu
          cases hu with
          | lst k1 k2 =>
            obtain rfl := ra_strs k2
            exact ⟨_, _, ys, rfl, rfl, .inl (Evl.sq_of (mi_some k1).2), hl, s _ H3 (x2.trans x3) (.str _)⟩
        · exact s.elim
      · exact s.elim
    | _ => exact s.elim
  · refine h1 H1 x _ ((Out.bind q).mono (Evl.Ex.refl _) fun d e1 s v H2 x2 hv => ?_)
    cases hr : noEr r2 with
    | ok y =>
      rw [hr] at s
      cases d with
      | str z => exact absurd ⟨z, e1⟩ hz
      | _ => cases y <;> exact s.elim
    | er i => exact absurd hr noEr_er
    | no => rw [hr] at s; exact s.elim
theorem setArg_is {f g : Str} {a x : Expr} {rest : List Expr} (h : setArg f a rest = some (g, x)) : f = "sorted" ∧ g = "set" ∧ ∃ p q, a = .Call (.Name g p) [x] [] q ∧ rest = [] := by
  unfold setArg at h
  split at h
  · rename_i hf
    split at h
    · split at h
      · rename_i hg
        cases h
        exact ⟨hf, hg, _, _, rfl, rfl⟩
      · cases h
    · cases h
  · cases h
theorem ok_no {L : List Addr} {e : Expr} : OkE P w K mg base k cl N sc W L e .no σ H := fun _ _ _ q => q.elim
theorem ok_noN {L : List Addr} {e : Expr} : OkN P w K mg base k cl N sc W L e .no σ H := fun _ _ _ q => q.elim
theorem ok_noT {e : Expr} : OkT P w K mg base k cl N sc W e .no σ H := fun _ _ _ q => q.elim
/-- all expressions -/
theorem ev_ok (m : Mdl P w K mg base k cl c) : ∀ n,
    (∀ (sc : Scope) (W : WX) (lev : Bool → List Addr) (σ : L2.St) (H : Hp) (ρ : En), Cxt c K lev σ H ρ → ∀ (b : Bool) (e : Expr), OkE P w K mg base k cl c.N sc W (lev b) e (evE c n sc b e ρ) σ H) ∧
    (∀ (sc : Scope) (W : WX) (lev : Bool → List Addr) (σ : L2.St) (H : Hp) (ρ : En), Cxt c K lev σ H ρ → ∀ (b : Bool) (e : Expr), OkN P w K mg base k cl c.N sc W (lev b) e (evN c n sc b e ρ) σ H) ∧
    (∀ (sc : Scope) (W : WX) (lev : Bool → List Addr) (σ : L2.St) (H : Hp) (ρ : En), Cxt c K lev σ H ρ → ∀ (e : Expr), OkT P w K mg base k cl c.N sc W e (evT c n sc e ρ) σ H)
  | 0 => ⟨fun _ _ _ _ _ _ _ _ _ => ok_no, fun _ _ _ _ _ _ _ _ _ => ok_noN, fun _ _ _ _ _ _ _ _ => ok_noT⟩
  | n + 1 => by
    obtain ⟨hE, hN, hT⟩ := ev_ok m n
    refine ⟨fun sc W lev σ H ρ C b e => ?_, fun sc W lev σ H ρ C b e => ?_, fun sc W lev σ H ρ C e => ?_⟩
    · unfold evE
      split
      · -- constants
        split
        · exact ok_const (fun X g => pe_non) rfl
        · exact ok_const (fun X g => pe_bl) rfl
        · exact ok_const (fun X g => pe_int) rfl
        · exact ok_const (fun X g => pe_str) rfl
        · exact ok_no
      · -- names
        rename_i x p
        split
        · rename_i i hn
          split
          · exact ok_no
          · rename_i ho
            split
            · rename_i d hd
              obtain ⟨n1, _⟩ := nm_slot hn
              obtain ⟨v, h1, h2⟩ := C.rd i x d n1 hd
              refine ok_var hn h1 ?_
              cases hb : b with
              | true =>
                cases hq : c.isOwn x with
                | true => rw [hq] at h2; exact h2
                | false => rw [hq] at h2; exact rless C.sub h2
              | false =>
                rw [hb] at ho
                have hq : c.isOwn x = false := by simpa using ho
                rw [hq] at h2
                exact h2
            · exact ok_no
        · rename_i hn
          split
          · rename_i d hd
            split
            · rename_i hs
              obtain ⟨u, v, h1, h2, h3⟩ := m.cst x d hd hs
              obtain ⟨g1, g2⟩ := nm_glob hn
              exact ok_const (fun X g => pe_glob (g.gl g1) (by rw [g.em]; exact h1) h2 g2) h3
            · exact ok_no
          · exact ok_no
        · exact ok_no
      · split
        · intro H1 x Q q
          exact ⟨tDNewK, fun X g => pe_dnewK, fun p hp => q _ _ (Evl.Ex.new hp) (.emp (mi_of (((C.dom b).ex x).nin hp) upd_same))⟩
        · exact ok_no
      · exact ok_tup (C.dom b) (ok_all (fun e => hE sc W lev σ H ρ C b e) _)
      · exact ok_bop (C.dom b) (hE sc W lev σ H ρ C b _) (hE sc W lev σ H ρ C b _)
      · exact ok_neg (hE sc W lev σ H ρ C b _)
      · exact ok_notE (hE sc W lev σ H ρ C true _)
      · exact ok_andE (fun e => hE sc W lev σ H ρ C b e) _
      · exact ok_orE (fun e => hE sc W lev σ H ρ C b e) _
      · split
        · exact ok_cmpE (by assumption) (hE sc W lev σ H ρ C true _) (fun e => hE sc W lev σ H ρ C true e)
        · exact ok_no
      · exact ok_if (hT sc W lev σ H ρ C _) (hE sc W lev σ H ρ C b _) (hE sc W lev σ H ρ C b _)
      · exact ok_sl (C.dom b) (hE sc W lev σ H ρ C b _) (ok_opt (fun e => hE sc W lev σ H ρ C true e) _) (ok_opt (fun e => hE sc W lev σ H ρ C true e) _)
      · split
        · exact ok_ix (by assumption) (hE sc W lev σ H ρ C b _) (hE sc W lev σ H ρ C true _)
        · exact ok_no
      · -- calls
        split
        · rename_i hn
          split
          · rename_i h1 h2
            split
            · split
              · rename_i hf
                exact ok_fn0 m (C.dom b) hn hf
              · exact ok_no
            · split
              · rename_i hf
                subst hf
                split
                · split
                  · split
                    · rename_i hk
                      rw [Bool.and_eq_true] at hk
                      exact ok_isi m hn (by assumption) hk.1 hk.2 (hE sc W lev σ H ρ C true _)
                    · exact ok_no
                  · exact ok_no
                · exact ok_no
              · split
                · exact (hN sc W lev σ H ρ C b _).toE (C.dom b)
                split
                · rename_i hs
                  split
                  · rename_i hf
                    exact ok_fn m (C.dom b) hn hs hf (ok_all (fun e => hE sc W lev σ H ρ C b e) _)
                  · split
                    · exact ok_blt m (C.dom b) hn hs (ok_all (fun e => hE sc W lev σ H ρ C b e) _) (by assumption)
                    · exact ok_no
                · exact ok_no
          · exact ok_no
        · exact ok_no
      · exact ok_fmt (hE sc W lev σ H ρ C b _)
      · split
        · split
          · exact fun H1 x Q q => ⟨_, fun X g => pe_joined1 (be g _), hE sc W lev σ H ρ C b _ H1 x Q q⟩
          · exact ok_no
        · exact ok_joined (fun e => hE sc W lev σ H ρ C b e)
        · exact ok_no
      · split
        · rename_i hc
          obtain ⟨rfl, h1, h2, h3⟩ := hc
          exact ok_join h1 h2 h3 (hE sc W lev σ H ρ C b _) (hE sc W lev σ H ρ C true _)
        · exact ok_no
      · exact (hN sc W lev σ H ρ C b _).toE (C.dom b)
    · unfold evN
      split
      · exact ok_lst (ok_all (fun e => hE sc W lev σ H ρ C b e) _)
      · dsimp only
        split
        · rename_i hc
          simp only [Bool.and_eq_true, decide_eq_true_eq] at hc
          refine ok_lcN hc.1.2 (ok_comp hc.1.1.1 hc.1.1.2 hc.2 C (ok_iter m (fun e => hE sc W lev σ H ρ C b e) _ _) (fun lev' σ' H' ρ' C' => hE _ _ lev' σ' H' ρ' C' b _) (fun t lev' σ' H' ρ' C' => hT _ _ lev' σ' H' ρ' C' t))
        · exact ok_noN
      · dsimp only
        split
        · rename_i hc
          simp only [Bool.and_eq_true, List.all_eq_true, List.contains_iff_mem] at hc
          exact ok_comp2 hc.1.1.1.1.1 hc.1.1.1.1.2 hc.1.1.2 hc.2 hc.1.1.1.2 hc.1.2 C (ok_iter m (fun e => hE sc W lev σ H ρ C b e) _ _) (fun lev' σ' H' ρ' C' => ok_iter m (fun e => hE _ _ lev' σ' H' ρ' C' b e) _ _) (fun lev' σ' H' ρ' C' => hE _ _ lev' σ' H' ρ' C' b _)
        · exact ok_noN
      · split
        · rename_i hn
          split
          · split
            · rename_i gg xx hsa
              obtain ⟨h1, h2, h3⟩ := setArg_is hsa
              split
              · split
                · obtain ⟨pg, pp, rfl, rfl⟩ := h3
                  exact ok_sset m h1 h2 (m.blt _ (by decide +kernel)) hn (by assumption) (by assumption) (hE sc W lev σ H ρ C b _)
                · exact ok_noN
              · exact ok_noN
            · split
              · rename_i hc
                simp only [Bool.and_eq_true] at hc
                exact ok_bltN m hn hc.1.1 (ok_all (fun e => hE sc W lev σ H ρ C b e) _) hc.2
              · exact ok_noN
          · exact ok_noN
        · exact ok_noN
      · exact ok_lop (hE sc W lev σ H ρ C b _) (hE sc W lev σ H ρ C b _)
      · exact ok_slN (hE sc W lev σ H ρ C b _) (ok_opt (fun e => hE sc W lev σ H ρ C true e) _) (ok_opt (fun e => hE sc W lev σ H ρ C true e) _)
      · exact ok_noN
    · unfold evT
      split
      · split
        · exact ok_cmpT (by assumption) (hE sc W lev σ H ρ C true _) (fun e => hE sc W lev σ H ρ C true e)
        · exact ok_noT
      · exact (ok_andT (fun e => hT sc W lev σ H ρ C e) _).toT
      · exact (ok_orT (fun e => hT sc W lev σ H ρ C e) _).toT
      · exact ok_notT (hT sc W lev σ H ρ C _)
      · split
        · exact ok_valT (by assumption) (hE sc W lev σ H ρ C true _)
        · exact ok_noT
end
end PY

set_option Elab.async false
set_option linter.all false
set_option maxRecDepth 100000
set_option maxHeartbeats 8000000
/-! The reckoning is right: statements. -/
namespace PY
open PySem PySem.Spec PyProof.Rows L2 DK DD
/-- the slots bear the data, own lists at addresses of M -/
structure Rel (c : Cn) (K : PySem.W.Frag) (H0 : Hp) (M0 M : List Addr) (σ : L2.St) (H : Hp) (ρ : En) : Prop where
  ls : σ.length = c.N.length
  lr : ρ.length = c.N.length
  ext : Evl.Ex H0 H
  d0 : Dom M0 H0
  dom : Dom M H
  sub : ∀ a, a ∈ M0 → a ∈ M
  rd : ∀ (i : Nat) (x : Str) (d : PyData), c.N[i]? = some x → c.isOwn x = false → ρ[i]? = some (some d) → ∃ v, σ[i]? = some (some v) ∧ Rv K (mi H M) v d
  own : ∀ (i : Nat) (x : Str) (d : PyData), c.N[i]? = some x → c.isOwn x = true → ρ[i]? = some (some d) → ∃ p vs ds, d = .list ds ∧ σ[i]? = some (some (.ref p)) ∧ p ∈ M ∧ H0 p = none ∧ H p = some (.lst vs) ∧ RvA K (mi H M) vs ds
  inj : ∀ (i j : Nat) (x y : Str) (d d' : PyData) (p : Addr), c.N[i]? = some x → c.N[j]? = some y → c.isOwn x = true → c.isOwn y = true → ρ[i]? = some (some d) → ρ[j]? = some (some d') → σ[i]? = some (some (.ref p)) → σ[j]? = some (some (.ref p)) → i = j
  fixO : ∀ i v, c.fx = some (i, v) → ∃ x, c.N[i]? = some x ∧ c.isOwn x = true
  fix : ∀ i v, c.fx = some (i, v) → ρ[i]? = some none → σ[i]? = some (some v)
/-- how the own lists and the heap go on -/
structure Step (M : List Addr) (H : Hp) (M' : List Addr) (H' : Hp) : Prop where
  up : ∀ a, a ∈ M → a ∈ M'
  back : ∀ a, a ∈ M' → a ∈ M ∨ H a = none
  ex : ExM M' H H'
theorem Step.refl (M : List Addr) (H : Hp) : Step M H M H := ⟨fun _ h => h, fun _ h => .inl h, ExM.refl _ _⟩
theorem Step.of {M : List Addr} {H H' : Hp} (e : Evl.Ex H H') : Step M H M H' := ⟨fun _ h => h, fun _ h => .inl h, ExM.of e⟩
theorem Step.trans {M M1 M2 : List Addr} {H H1 H2 : Hp} (a : Step M H M1 H1) (d1 : Dom M1 H1) (b : Step M1 H1 M2 H2) : Step M H M2 H2 := by
  refine ⟨fun x h => b.up x (a.up x h), fun x h => ?_, fun x o n h => ?_⟩
  · rcases b.back x h with h | h
    · exact a.back x h
    · refine .inr ?_
      cases q : H x with
      | none => rfl
      | some o =>
        have n : x ∉ M1 := fun z => d1 x z h
        rw [a.ex x o n q] at h
        cases h
  · exact b.ex x o n (a.ex x o (fun z => n (b.up x z)) h)
section
variable {P : Program} {w : World} {K : PySem.W.Frag} {mg : Str → Option Value} {base : Heap} {k : Nat} {cl : Nat → Addr} {c : Cn} {sc : Scope} {W : WX}
variable {σ : L2.St} {H H' H0 : Hp} {e a b tg : Expr} {es : List Expr} {ρ ρ' : En} {M M' M0 : List Addr}
abbrev lv (M0 M : List Addr) : Bool → List Addr := fun b => if b then M0 else M
theorem Rel.cxt (R : Rel c K H0 M0 M σ H ρ) : Cxt c K (lv M0 M) σ H ρ := by
  refine ⟨R.ls, R.lr, fun w => ?_, fun a ha => R.sub a ha, fun i x d h1 h2 => ?_⟩
  · cases w with
    | true => exact R.d0.ex R.ext
    | false => exact R.dom
  · cases ho : c.isOwn x with
    | false => exact R.rd i x d h1 ho h2
    | true =>
      obtain ⟨p, vs, ds, rfl, h3, h4, h5, h6, h7⟩ := R.own i x d h1 ho h2
      exact ⟨_, h3, .lst (mi_of (R.d0.nin h5) h6) (rlesss R.sub h7)⟩
theorem Rel.ex (R : Rel c K H0 M0 M σ H ρ) (e : Evl.Ex H H') : Rel c K H0 M0 M σ H' ρ :=
  ⟨R.ls, R.lr, R.ext.trans e, R.d0, R.dom.ex e, R.sub, fun i x d h1 h2 h3 => let ⟨v, h4, h5⟩ := R.rd i x d h1 h2 h3; ⟨v, h4, re e h5⟩,
    fun i x d h1 h2 h3 => let ⟨p, vs, ds, h4, h5, h6, h7, h8, h9⟩ := R.own i x d h1 h2 h3; ⟨p, vs, ds, h4, h5, h6, h7, e _ _ h8, res e h9⟩, R.inj, R.fixO, R.fix⟩
theorem set_none {ρ : En} {i j : Nat} {d : PyData} (hi : i < ρ.length) (h : (ρ.set i (some d))[j]? = some none) : i ≠ j ∧ ρ[j]? = some none := by
  have ne : i ≠ j := fun z => by
    subst z
    rw [List.getElem?_set_self hi] at h
    cases h
  rw [List.getElem?_set_ne ne] at h
  exact ⟨ne, h⟩
theorem Rel.set {i : Nat} {x : Str} {v : V} {d : PyData} (R : Rel c K H0 M0 M σ H ρ) (hx : c.N[i]? = some x) (ho : c.isOwn x = false) (hv : Rv K (mi H M) v d) : Rel c K H0 M0 M (σ.set i (some v)) H (setE i d ρ) := by
  unfold setE
  have hi : i < ρ.length := by rw [R.lr]; exact (List.getElem?_eq_some_iff.mp hx).1
  have hi' : i < σ.length := by rw [R.ls, ← R.lr]; exact hi
  have other : ∀ (j : Nat) (y : Str), c.N[j]? = some y → c.isOwn y = true → i ≠ j := fun j y h1 h2 z => by
    subst z
    rw [hx] at h1
    cases h1
    rw [ho] at h2
    cases h2
  refine ⟨by rw [List.length_set, R.ls], by rw [List.length_set, R.lr], R.ext, R.d0, R.dom, R.sub, fun j y d' h1 h2 h3 => ?_, fun j y d' h1 h2 h3 => ?_, fun j l y z d1 d2 p h1 h2 h3 h4 h5 h6 h7 h8 => ?_, R.fixO, fun j v' h1 h2 => ?_⟩
  · by_cases e : i = j
    · subst e
      rw [List.getElem?_set_self hi] at h3
      cases h3
      rw [List.getElem?_set_self hi']
      exact ⟨v, rfl, hv⟩
    · rw [List.getElem?_set_ne e] at h3 ⊢
      exact R.rd j y d' h1 h2 h3
  · have e := other j y h1 h2
    rw [List.getElem?_set_ne e] at h3 ⊢
    exact R.own j y d' h1 h2 h3
  · have e1 := other j y h1 h3
    have e2 := other l z h2 h4
    rw [List.getElem?_set_ne e1] at h5 h7
    rw [List.getElem?_set_ne e2] at h6 h8
    exact R.inj j l y z d1 d2 p h1 h2 h3 h4 h5 h6 h7 h8
  · obtain ⟨ne, h3⟩ := set_none hi h2
    rw [List.getElem?_set_ne ne]
    exact R.fix j v' h1 h3
/-- an own list's slot takes a new list -/
theorem Rel.new {i : Nat} {x : Str} {p : Addr} {vs : List V} {ds : List PyData} (R : Rel c K H0 M0 M σ H ρ) (hx : c.N[i]? = some x) (ho : c.isOwn x = true) (hn : H p = none) (e : Evl.Ex H H') (hp : H' p = some (.lst vs)) (hv : RvA K (mi H' (p :: M)) vs ds) :
    Rel c K H0 M0 (p :: M) (σ.set i (some (.ref p))) H' (setE i (.list ds) ρ) := by
  unfold setE
  have hi : i < ρ.length := by rw [R.lr]; exact (List.getElem?_eq_some_iff.mp hx).1
  have hi' : i < σ.length := by rw [R.ls, ← R.lr]; exact hi
  have R' := R.ex e
  have h0 : H0 p = none := Evl.fresh_back R.ext hn
  have pM : p ∉ M := R.dom.nin hn
  refine ⟨by rw [List.length_set, R.ls], by rw [List.length_set, R.lr], R'.ext, R.d0, R'.dom.cons (by rw [hp]; exact fun z => nomatch z), fun a ha => List.mem_cons_of_mem _ (R.sub a ha), fun j y d' h1 h2 h3 => ?_, fun j y d' h1 h2 h3 => ?_, fun j l y z d1 d2 q h1 h2 h3 h4 h5 h6 h7 h8 => ?_, R.fixO, fun j v' h1 h2 => ?_⟩
  · have ne : i ≠ j := fun z => by
      subst z
      rw [hx] at h1
      cases h1
      rw [ho] at h2
      cases h2
    rw [List.getElem?_set_ne ne] at h3 ⊢
    obtain ⟨v, k1, k2⟩ := R.rd j y d' h1 h2 h3
    exact ⟨v, k1, re e (radd hn k2)⟩
  · by_cases ne : i = j
    · subst ne
      rw [List.getElem?_set_self hi] at h3
      cases h3
      rw [List.getElem?_set_self hi']
      exact ⟨p, vs, ds, rfl, rfl, List.mem_cons_self, h0, hp, hv⟩
    · rw [List.getElem?_set_ne ne] at h3 ⊢
      obtain ⟨q, us, es, k1, k2, k3, k4, k5, k6⟩ := R.own j y d' h1 h2 h3
      exact ⟨q, us, es, k1, k2, List.mem_cons_of_mem _ k3, k4, e _ _ k5, res e (radds hn k6)⟩
  · by_cases ne : i = j
    · subst ne
      by_cases ne2 : i = l
      · exact ne2
      · rw [List.getElem?_set_self hi'] at h7
        rw [List.getElem?_set_ne ne2] at h6 h8
        cases h7
        obtain ⟨q, us, es, k1, k2, k3, _⟩ := R.own l z d2 h2 h4 h6
        rw [k2] at h8
        cases h8
        exact absurd k3 pM
    · by_cases ne2 : i = l
      · subst ne2
        rw [List.getElem?_set_self hi'] at h8
        rw [List.getElem?_set_ne ne] at h5 h7
        cases h8
        obtain ⟨q, us, es, k1, k2, k3, _⟩ := R.own j y d1 h1 h3 h5
        rw [k2] at h7
        cases h7
        exact absurd k3 pM
      · rw [List.getElem?_set_ne ne] at h5 h7
        rw [List.getElem?_set_ne ne2] at h6 h8
        exact R.inj j l y z d1 d2 q h1 h2 h3 h4 h5 h6 h7 h8
  · obtain ⟨ne, h3⟩ := set_none hi h2
    rw [List.getElem?_set_ne ne]
    exact R.fix j v' h1 h3
/-- an own list is changed where it stands -/
theorem Rel.mut {i : Nat} {x : Str} {p : Addr} {vs' : List V} {d : PyData} {ds' : List PyData} (R : Rel c K H0 M0 M σ H ρ) (hx : c.N[i]? = some x) (ho : c.isOwn x = true) (hd : ρ[i]? = some (some d)) (hs : σ[i]? = some (some (.ref p))) (hv : RvA K (mi H M) vs' ds') :
    Rel c K H0 M0 M σ (upd H p (.lst vs')) (setE i (.list ds') ρ) ∧ Step M H M (upd H p (.lst vs')) := by
  unfold setE
  obtain ⟨q, us, es, rfl, k2, k3, k4, k5, k6⟩ := R.own i x d hx ho hd
  rw [hs] at k2
  cases k2
  have eM : ExM M H (upd H p (.lst vs')) := ExM.mut k3
  have hi : i < ρ.length := by rw [R.lr]; exact (List.getElem?_eq_some_iff.mp hx).1
  refine ⟨⟨R.ls, by rw [List.length_set, R.lr], fun a o h => ?_, R.d0, fun m hm => ?_, R.sub, fun j y d' h1 h2 h3 => ?_, fun j y d' h1 h2 h3 => ?_, fun j l y z d1 d2 q h1 h2 h3 h4 h5 h6 h7 h8 => ?_, R.fixO, fun j v' h1 h2 => R.fix j v' h1 (set_none hi h2).2⟩, ⟨fun _ h => h, fun _ h => .inl h, eM⟩⟩
  · have ne : a ≠ p := fun z => by
      rw [z, k4] at h
      cases h
    rw [upd_ne ne]
    exact R.ext a o h
  · by_cases z : m = p
    · rw [z, upd_same]
      exact fun z => nomatch z
    · rw [upd_ne z]
      exact R.dom m hm
  · have ne : i ≠ j := fun z => by
      subst z
      rw [hx] at h1
      cases h1
      rw [ho] at h2
      cases h2
    rw [List.getElem?_set_ne ne] at h3
    obtain ⟨v, m1, m2⟩ := R.rd j y d' h1 h2 h3
    exact ⟨v, m1, rm eM m2⟩
  · by_cases ne : i = j
    · subst ne
      rw [List.getElem?_set_self hi] at h3
      cases h3
      exact ⟨p, vs', ds', rfl, hs, k3, k4, upd_same, rms eM hv⟩
    · rw [List.getElem?_set_ne ne] at h3
      obtain ⟨q, us', es', m1, m2, m3, m4, m5, m6⟩ := R.own j y d' h1 h2 h3
      have npq : q ≠ p := fun z => by
        subst z
        exact ne (R.inj i j x y _ d' q hx h1 ho h2 hd h3 hs m2)
      exact ⟨q, us', es', m1, m2, m3, m4, by rw [upd_ne npq]; exact m5, rms eM m6⟩
  · have get : ∀ (j : Nat) (d' : PyData), (ρ.set i (some (.list ds')))[j]? = some (some d') → ∃ d'', ρ[j]? = some (some d'') := fun j d' h => by
      by_cases ne : i = j
      · subst ne
        exact ⟨_, hd⟩
      · rw [List.getElem?_set_ne ne] at h
        exact ⟨_, h⟩
    obtain ⟨d1', g1⟩ := get j d1 h5
    obtain ⟨d2', g2⟩ := get l d2 h6
    exact R.inj j l y z d1' d2' q h1 h2 h3 h4 g1 g2 h7 h8
/-! contexts and readings of statements -/
def GoodS (P : Program) (w : World) (K : PySem.W.Frag) (mg : Str → Option Value) (base : Heap) (k : Nat) (N : List Str) (sc : Scope) (W : WX) (X : Cx) : Prop := Good P w K mg base k N sc W X ∧ PassesOwn (model X.prog X.w) X.A X.env X.xe
def tS (P : Program) (w : World) (K : PySem.W.Frag) (mg : Str → Option Value) (base : Heap) (k : Nat) (N : List Str) (sc : Scope) (W : WX) (st : Stmt) : TS := fun D σ H => ∃ t : TS, (∀ X, GoodS P w K mg base k N sc W X → PS X st t) ∧ t D σ H
def tSs (P : Program) (w : World) (K : PySem.W.Frag) (mg : Str → Option Value) (base : Heap) (k : Nat) (N : List Str) (sc : Scope) (W : WX) (sts : List Stmt) : TS := fun D σ H => ∃ t : TS, (∀ X, GoodS P w K mg base k N sc W X → PSs X sts t) ∧ t D σ H
theorem bs {X : Cx} (g : GoodS P w K mg base k c.N sc W X) (st : Stmt) : PS X st (tS P w K mg base k c.N sc W st) := ⟨fun pins s σ H D I ⟨t, ht, q⟩ => (ht X g).run pins s σ H D I q⟩
theorem bss {X : Cx} (g : GoodS P w K mg base k c.N sc W X) (sts : List Stmt) : PSs X sts (tSs P w K mg base k c.N sc W sts) := ⟨fun pins s σ H D I ⟨t, ht, q⟩ => (ht X g).run pins s σ H D I q⟩
/-- what must hold behind a statement -/
def Post (c : Cn) (K : PySem.W.Frag) (cl : Nat → Addr) (W : WX) (H0 : Hp) (M0 M : List Addr) (H : Hp) (r : Rs Fl) (D : Ends) : Prop := match r with
  | .ok (.nx ρ') => ∀ M' σ' H', Rel c K H0 M0 M' σ' H' ρ' → Step M H M' H' → D.nx σ' H'
  | .ok (.bk ρ') => ∀ M' σ' H', Rel c K H0 M0 M' σ' H' ρ' → Step M H M' H' → D.bk σ' H'
  | .ok (.ct ρ') => ∀ M' σ' H', Rel c K H0 M0 M' σ' H' ρ' → Step M H M' H' → D.ct σ' H'
  | .ok (.rt d) => ∀ v H', Evl.Ex H0 H' → Rv K (mi H' M0) v d → D.rt v H'
  | .er i => ∀ σ' H', Evl.Ex H0 H' → W (.ref (cl i)) none σ' H'
  | .no => False
def OkS (P : Program) (w : World) (K : PySem.W.Frag) (mg : Str → Option Value) (base : Heap) (k : Nat) (cl : Nat → Addr) (c : Cn) (sc : Scope) (W : WX) (H0 : Hp) (M0 : List Addr) (st : Stmt) (ρ : En) (r : Rs Fl) : Prop :=
  ∀ M σ H, Rel c K H0 M0 M σ H ρ → ∀ D : Ends, Post c K cl W H0 M0 M H r D → tS P w K mg base k c.N sc W st D σ H
def OkSs (P : Program) (w : World) (K : PySem.W.Frag) (mg : Str → Option Value) (base : Heap) (k : Nat) (cl : Nat → Addr) (c : Cn) (sc : Scope) (W : WX) (H0 : Hp) (M0 : List Addr) (sts : List Stmt) (ρ : En) (r : Rs Fl) : Prop :=
  ∀ M σ H, Rel c K H0 M0 M σ H ρ → ∀ D : Ends, Post c K cl W H0 M0 M H r D → tSs P w K mg base k c.N sc W sts D σ H
/-- from an expression's outcome to a statement's -/
theorem post_out {α : Type} {r : Rs α} {f : α → Rs Fl} {D : Ends} {S : α → Prop} (R : Rel c K H0 M0 M σ H ρ) (h : Post c K cl W H0 M0 M H (r.bind f) D) (s : ∀ a, r = .ok a → Post c K cl W H0 M0 M H (f a) D → S a) : Out cl W σ H r S := by
  cases r with
  | ok a => exact s a rfl h
  | er i => exact fun H2 e => h σ H2 (R.ext.trans e)
  | no => exact h
theorem post_step {r : Rs Fl} {D : Ends} {H1 : Hp} {M1 : List Addr} (h : Post c K cl W H0 M0 M H r D) (d1 : Dom M1 H1) (s : Step M H M1 H1) : Post c K cl W H0 M0 M1 H1 r D := by
  cases r with
  | ok f =>
    cases f with
    | nx ρ' => exact fun M' σ' H' R' s' => h M' σ' H' R' (s.trans d1 s')
    | bk ρ' => exact fun M' σ' H' R' s' => h M' σ' H' R' (s.trans d1 s')
    | ct ρ' => exact fun M' σ' H' R' s' => h M' σ' H' R' (s.trans d1 s')
    | rt d => exact h
  | er i => exact h
  | no => exact h
/-! blocks -/
theorem ok_seq {f : Stmt → En → Rs Fl} (h : ∀ st ρ, OkS P w K mg base k cl c sc W H0 M0 st ρ (f st ρ)) : ∀ sts ρ, OkSs P w K mg base k cl c sc W H0 M0 sts ρ (seqD f sts ρ)
  | [], ρ => fun M σ H R D p => ⟨tNext, fun X g => pss_nil, p M σ H R (Step.refl _ _)⟩
  | st :: sts, ρ => fun M σ H R D p => by
    refine ⟨tSeq (tS P w K mg base k c.N sc W st) (tSs P w K mg base k c.N sc W sts), fun X g => pss_cons (bs g st) (bss g sts), ?_⟩
    refine h st ρ M σ H R _ ?_
    unfold seqD at p
    cases hr : f st ρ with
    | ok fl =>
      rw [hr] at p
      cases fl with
      | nx ρ' => exact fun M' σ' H' R' s => ok_seq h sts ρ' M' σ' H' R' D (post_step p R'.dom s)
      | bk ρ' => exact p
      | ct ρ' => exact p
      | rt d => exact p
    | er i => rw [hr] at p; exact p
    | no => rw [hr] at p; exact p
end
end PY

set_option Elab.async false
set_option linter.all false
set_option maxRecDepth 100000
set_option maxHeartbeats 2000000
/-! *x, y = a list. -/
namespace ZS
open PySem PySem.Spec PyProof.Rows L2 PySem.W
section
variable {s : Shared} {prog : Program} {w : World} {E : Value → Shared → Prop} {A : Around}
theorem unp_star {l : Addr} {its : Array Value} {Q : List Value → Shared → Prop} (hl : s.heap.IsList l its) (hh : A.handled = none) (h1 : 1 ≤ its.size) (hz : its.size ≤ 1000)
    (hQ : ∀ (h3 : Heap) (tk : Nat), (∀ c o, s.heap.get? c = some o → h3.get? c = some o) → Q (.ref h3.objs.size :: its.toList.drop (its.size - 1)) { s with heap := h3.push { cls := .type "list", data := .seq (its.toList.take (its.size - 1)).toArray }, toks := tk }) :
    wpAny (model prog w) A (unpackItems (.ref l) 2 (some 0)) Q E s := by
  have llt : l < s.heap.objs.size := by
    obtain ⟨o, ho, _⟩ := hl
    exact Heap.lt_size ho
  have lne : l ≠ s.heap.objs.size := Nat.ne_of_lt llt
  unfold unpackItems notIterableAtAll
  refine wpAny_bind (wpAny_bind (wpAny_specialOf hl.typeIs slot_list_iter.lookup (wpAny_pure ?_)))
  simp only [Bool.false_eq_true, if_false]
  refine wpAny_bind (wpAny_holding (wpAny_pyIter_list hl ?_))
  refine wpAny_bind (wpAny_holding (kun_draw lne 0 0 _ _ ⟨_, Heap.get?_push_size _ rfl, rfl, rfl⟩ (hl.push _) (by omega) fun h2 it2 sb2 => ?_))
  have hl2 : h2.IsList l its := (hl.push _).extBut sb2.extBut lne
  have it2' := it2
  obtain ⟨oi, hoi, _⟩ := it2'
  have hl2' := hl2
  obtain ⟨ol, hol, _⟩ := hl2'
  simp only [List.take_zero, List.length_nil, Nat.lt_irrefl, if_false]
  refine wpAny_bind (wpAny_holding (kun_collect (s := { s with heap := h2 }) (T := "list_iterator") (.inr (.inr (.inl rfl))) (Walks.list (A := A.in1) hh s.heap.objs.size l lne its) (fun j u st => st.1.typeIs) (k := 0) (by omega) ⟨it2, hl2⟩ (Heap.lt_size hoi) (Heap.lt_size hol) (fun h3 tk hk => ?_) (Nat.le_trans hz (by decide))))
  have keep : ∀ c o, s.heap.get? c = some o → h3.get? c = some o := fun c o q => hk c o (Nat.ne_of_lt (Heap.lt_size q)) (sb2.extBut c o (Nat.ne_of_lt (Heap.lt_size q)) (Heap.get?_push_of_some _ q))
  have hlen : its.toList.length = its.size := Array.length_toList
  simp only [List.drop_zero, hlen]
  rw [if_neg (by omega)]
  refine wpAny_bind (wpAny_newList ?_ (by rw [List.length_take]; exact Nat.le_trans (Nat.min_le_right _ _) (by rw [hlen]; exact Nat.le_trans hz (by decide))))
  exact wpAny_pure (hQ h3 tk keep)
end
/-- *x, y = a list: a new list, and the last -/
def gStar (K : PySem.W.Frag) (i j : Nat) : TG := fun v σ H Q => ∃ a xs x, v = .ref a ∧ SqL K H a (xs ++ [x]) ∧ xs.length < 1000 ∧ ∀ p, H p = none → Q ((σ.set i (some (.ref p))).set j (some x)) (upd H p (.lst xs))
theorem pg_star {X : Cx} {i j : Nat} {x y : Str} {px py ps pt : Pos} {kt : Nat} (hc : X.calm = true) (hN : X.N.Nodup) (hi : X.N[i]? = some x) (hj : X.N[j]? = some y) (lx : Loc X.env.scope x) (ly : Loc X.env.scope y) (fx : X.fn x = true ∨ X.env.scope.names.lookup x = some .local) (fy : X.fn y = true ∨ X.env.scope.names.lookup y = some .local) :
    PG X (.Tuple [.Starred (.Name x px) ps, .Name y py] kt pt) (gStar X.K i j) := by
  refine ⟨fun pins s σ H v u Q I r hw => ?_⟩
  obtain ⟨a, xs, z, rfl, hq, hl, hw⟩ := hw
  cases r
  obtain ⟨its, rv, pl, hz⟩ := I.list hq
  have hlen := rv.length
  rw [List.length_append] at hlen
  simp only [List.length_cons, List.length_nil] at hlen
  obtain ⟨us, u1, rfl, rx, rz⟩ : ∃ us u1, its = us ++ [u1] ∧ Vals xs us ∧ RelV z u1 := by
    obtain ⟨us, ws, e, r1, r2⟩ := StX.vals_split rv
    cases r2 with
    | cons r2 r3 =>
      cases r3
      exact ⟨us, _, e, r1, r2⟩
  have hul : us.length = xs.length := rx.length.symm
  rw [assign_Tuple]
  refine wpAny_bind (wpAny_standAt ?_)
  unfold unpack
  refine wpAny_bind (wpAny_holding ?_)
  show wpAny _ _ (unpackItems (.ref a) 2 (some 0)) _ _ _
  refine unp_star pl.isList (I.ok.hd hc) (by simp) (by simp; omega) fun h3 tk hk => ?_
  have e1 : (us ++ [u1]).toArray.size - 1 = us.length := by simp
  have e2 : (us ++ [u1]).toArray.toList = us ++ [u1] := by simp
  rw [e1, e2, List.take_left, List.drop_left]
  have I3 : Inv X pins σ H { s with heap := h3, toks := tk } := I.kept (t' := tk) hk
  have hfr : H h3.objs.size = none := I3.hok.fresh (Nat.le_refl _)
  have I4 : Inv X pins σ (upd H h3.objs.size (.lst xs)) { s with heap := h3.push { cls := .type "list", data := .seq us.toArray }, toks := tk } := I3.laid (t' := tk) (fun b o q => Heap.get?_push_of_some _ q) (Nat.le_refl _) ⟨Nat.le_trans (Nat.le_of_lt hl) (by decide), us, 0, rx, Heap.get?_push_size _ rfl⟩
  show wpAny _ _ (assignInOrder [assign (.Name x px) X.env, assign (.Name y py) X.env] _) _ _ _
  refine assignInOrder_cons (wpAny_assign_Name (store_ok I4 hN hi lx (show RelV (.ref h3.objs.size) (.ref h3.objs.size) from rfl) (fun s5 I5 => ?_) fx))
  exact assignInOrder_cons (wpAny_assign_Name (store_ok I5 hN hj ly rz (fun s6 I6 => assignInOrder_nil ⟨_, _, I6, hw _ hfr⟩) fy))
end ZS

set_option Elab.async false
set_option linter.all false
set_option maxRecDepth 100000
set_option maxHeartbeats 8000000
/-! The reckoning is right: each statement. -/
namespace PY
open PySem PySem.Spec PyProof.Rows L2 DK DD
section
variable {P : Program} {w : World} {K : PySem.W.Frag} {mg : Str → Option Value} {base : Heap} {k : Nat} {cl : Nat → Addr} {c : Cn} {sc : Scope} {W : WX}
variable {σ : L2.St} {H H' H0 : Hp} {e a b tg : Expr} {es : List Expr} {ρ ρ' : En} {M M' M0 : List Addr}
theorem lok {x : Str} (h : locN sc x = true) : sc.names.lookup x = some .local ∨ sc.names.lookup x = some .cell := by
  unfold locN at h
  split at h
  · exact .inl (by assumption)
  · exact .inr (by assumption)
  · cases h
/-- the value is a comprehension of one clause -/
def isLC : Expr → Bool
  | .ListComp _ _ _ _ => true
  | _ => false
theorem sw_no {x : Str} {p : Pos} {ln : Nat} {env : Env} (h : lcOk sc x p e = true) (hl : isLC e = false) : swapsWith e (some (.Name x p)) ln env = pure false := by
  cases e <;> first | rfl | (cases hl; done) | (cases h; done)
theorem sw_no0 {ln : Nat} {env : Env} {f m : Expr} {as : List Expr} {kw : List Keyword} {p : Pos} : swapsWith (.Call f as kw p) none ln env = pure false := rfl
theorem lc_one {x : Str} {p : Pos} {elt : Expr} {gens : List Comprehension} {sc' : Scope} {pos : Pos} (h : lcOk sc x p (.ListComp elt gens sc' pos) = true) : ∃ g, gens = [g] := by
  match gens with
  | [] => cases h
  | [g] => exact ⟨g, rfl⟩
  | a :: b :: l => cases h
theorem sw_yes {x : Str} {p pos : Pos} {ln : Nat} {X : Cx} {elt : Expr} {gens : List Comprehension} {sc' : Scope} (g : Good P w K mg base k c.N sc W X) (h : lcOk sc x p (.ListComp elt gens sc' pos) = true) :
    sc.names.lookup x = some .local ∧ swapsWith (.ListComp elt gens sc' pos) (some (.Name x p)) ln X.env = pure true := by
  obtain ⟨g0, rfl⟩ := lc_one h
  simp only [lcOk, Bool.and_eq_true] at h
  obtain ⟨⟨h1, h2⟩, h3⟩ := h
  have hl : sc.names.lookup x = some .local := by
    split at h1
    · assumption
    · cases h1
  refine ⟨hl, ?_⟩
  have hb : X.env.blockKind = .function := by
    unfold Env.blockKind
    rw [g.kf] <;> rfl
  have hk : X.env.kindOf x = some .local := by
    rcases g.kd x _ hl with q | ⟨q, _⟩
    · exact q
    · cases q
  unfold swapsWith
  show pure (X.env.blockKind == .function && X.env.kindOf x == some .local && p.line == pos.line && !(sc'.names.any fun (n, k) => n == x && (k == .local || k == .cell))) = pure true
  rw [hb, hk, h2, h3] <;> rfl
/-- name = e, the name no own list's -/
theorem ok_set {x : Str} {p pos : Pos} {i : Nat} {r : Rs PyData} (hn : nmOf c.N sc x = .slot i) (hl : locN sc x = true) (ho : c.isOwn x = false) (hlc : lcOk sc x p e = true) (hno : isLC e = false)
    (he : ∀ M σ H, Rel c K H0 M0 M σ H ρ → OkE P w K mg base k cl c.N sc W M e r σ H) : OkS P w K mg base k cl c sc W H0 M0 (.Assign [.Name x p] e pos) ρ (r.bind fun d => .ok (.nx (setE i d ρ))) := fun M σ H R D q => by
  obtain ⟨n1, n2, n3, n4⟩ := nm_slot hn
  refine ⟨tAsg (tB P w K mg base k c.N sc W e) (gName i), fun X g => ps_set (by rw [g.1.eN]; exact g.1.nd) (by rw [g.1.eN]; exact n1) (g.1.loc (lok hl)) (be g.1 e) (sw_no hlc hno) (g.1.hf (lok hl)), ?_⟩
  refine he M σ H R H (Evl.Ex.refl _) _ (post_out R q fun d _ s v H2 x2 hv => ?_)
  exact s M _ H2 ((R.ex x2).set n1 ho hv) (Step.of x2)
theorem sw_cellL {x : Str} {p : Pos} {ln : Nat} {X : Cx} (g : Good P w K mg base k c.N sc W X) (h : cellLC sc x e = true) : swapsWith e (some (.Name x p)) ln X.env = pure false := by
  cases e with
  | ListComp elt gens sc' pos =>
    have hl : sc.names.lookup x = some .cell := by
      unfold cellLC at h
      simp only at h
      split at h
      · assumption
      · cases h
    have hk : X.env.kindOf x = some .cell := by
      rcases g.kd x _ hl with q | ⟨q, _⟩
      · exact q
      · cases q
    show pure (X.env.blockKind == .function && X.env.kindOf x == some .local && p.line == pos.line && !(sc'.names.any fun (n, k) => n == x && (k == .local || k == .cell))) = pure false
    rw [hk]
    have : ((some NameKind.cell : Option NameKind) == some .local) = false := by decide
    rw [this, Bool.and_false, Bool.false_and, Bool.false_and]
  | _ => exact nomatch h
theorem ok_setC {x : Str} {p pos : Pos} {i : Nat} {r : Rs PyData} (hn : nmOf c.N sc x = .slot i) (hl : locN sc x = true) (ho : c.isOwn x = false) (hlc : cellLC sc x e = true)
    (he : ∀ M σ H, Rel c K H0 M0 M σ H ρ → OkE P w K mg base k cl c.N sc W M e r σ H) : OkS P w K mg base k cl c sc W H0 M0 (.Assign [.Name x p] e pos) ρ (r.bind fun d => .ok (.nx (setE i d ρ))) := fun M σ H R D q => by
  obtain ⟨n1, n2, n3, n4⟩ := nm_slot hn
  refine ⟨tAsg (tB P w K mg base k c.N sc W e) (gName i), fun X g => ps_set (by rw [g.1.eN]; exact g.1.nd) (by rw [g.1.eN]; exact n1) (g.1.loc (lok hl)) (be g.1 e) (sw_cellL g.1 hlc) (g.1.hf (lok hl)), ?_⟩
  refine he M σ H R H (Evl.Ex.refl _) _ (post_out R q fun d _ s v H2 x2 hv => ?_)
  exact s M _ H2 ((R.ex x2).set n1 ho hv) (Step.of x2)
/-- .. an own list's -/
theorem ok_setN {x : Str} {p pos : Pos} {i : Nat} {r : Rs (List PyData)} (hn : nmOf c.N sc x = .slot i) (hl : locN sc x = true) (ho : c.isOwn x = true) (hlc : lcOk sc x p e = true) (hno : isLC e = false)
    (he : ∀ M σ H, Rel c K H0 M0 M σ H ρ → OkN P w K mg base k cl c.N sc W M e r σ H) : OkS P w K mg base k cl c sc W H0 M0 (.Assign [.Name x p] e pos) ρ (r.bind fun ds => .ok (.nx (setE i (.list ds) ρ))) := fun M σ H R D q => by
  obtain ⟨n1, n2, n3, n4⟩ := nm_slot hn
  refine ⟨tAsg (tB P w K mg base k c.N sc W e) (gName i), fun X g => ps_set (by rw [g.1.eN]; exact g.1.nd) (by rw [g.1.eN]; exact n1) (g.1.loc (lok hl)) (be g.1 e) (sw_no hlc hno) (g.1.hf (lok hl)), ?_⟩
  refine he M σ H R H (Evl.Ex.refl _) _ (post_out R q fun ds _ s p vs H2 hn x2 hp hv => ?_)
  exact s (p :: M) _ H2 (R.new n1 ho hn x2 hp hv) ⟨fun _ h => List.mem_cons_of_mem _ h, fun a ha => (List.mem_cons.mp ha).elim (fun z => .inr (by rw [z]; exact hn)) .inl, ExM.of x2⟩
/-- what a comprehension's reckoning needs -/
def LcR (P : Program) (w : World) (K : PySem.W.Frag) (mg : Str → Option Value) (base : Heap) (k : Nat) (cl : Nat → Addr) (c : Cn) (sc : Scope) (W : WX) (L : List Addr) (elt tg iter : Expr) (ifs : List Expr) (sc' : Scope) (r : Rs (List PyData)) (σ : L2.St) (H : Hp) : Prop :=
  ∀ Q : VK, Out cl W σ H r (fun ds => ∀ p vs H2, H p = none → Evl.Ex H H2 → H2 p = some (.lst vs) → RvA K (mi H2 (p :: L)) vs ds → Q (.ref p) H2) →
    ∃ (own : List (Str × Nat)) (wi : TI) (g : TG) (tt : TT) (te : TE), noSet iter = true ∧ TLc P w K mg base k c.N sc W elt tg iter ifs sc' own wi g tt te ∧ tLc wi g tt te (own.map (·.2)) σ H Q
theorem lc_run (m : Mdl P w K mg base k cl c) {n : Nat} {lev : Bool → List Addr} {b : Bool} {elt tg iter : Expr} {ifs : List Expr} {sc' : Scope} {pos : Pos} (C : Cxt c K lev σ H ρ) :
    LcR P w K mg base k cl c sc W (lev b) elt tg iter ifs sc' (evN c (n + 1) sc b (.ListComp elt [⟨tg, iter, ifs, 0⟩] sc' pos) ρ) σ H := fun Q q => by
  obtain ⟨hE, hN, hT⟩ := ev_ok m n
  rw [evN] at q
  by_cases hc : (blkC c.N sc sc' (ownOf c.N sc') && tgtIn c.N ((ownOf c.N sc').map (·.2)) 8 tg && noSet iter && decide (ifs.length ≤ 1)) = true
  · rw [if_pos hc] at q
    simp only [Bool.and_eq_true, decide_eq_true_eq] at hc
    obtain ⟨wi, g, tt, te, T, h⟩ := ok_comp hc.1.1.1 hc.1.1.2 hc.2 C (ok_iter m (fun e => hE sc W lev σ H ρ C b e) _ _) (fun lev' σ' H' ρ' C' => hE _ _ lev' σ' H' ρ' C' b _) (fun t lev' σ' H' ρ' C' => hT _ _ lev' σ' H' ρ' C' t) H (Evl.Ex.refl _) Q q
    exact ⟨_, wi, g, tt, te, hc.1.2, T, h⟩
  · rw [if_neg hc] at q
    exact q.elim
theorem ok_setLC {x : Str} {p pos spos : Pos} {i : Nat} {elt tg iter : Expr} {ifs : List Expr} {sc' : Scope} {r : Rs (List PyData)} (hn : nmOf c.N sc x = .slot i) (ho : c.isOwn x = false) (hlc : lcOk sc x p (.ListComp elt [⟨tg, iter, ifs, 0⟩] sc' pos) = true)
    (he : ∀ M σ H, Rel c K H0 M0 M σ H ρ → LcR P w K mg base k cl c sc W M elt tg iter ifs sc' r σ H) : OkS P w K mg base k cl c sc W H0 M0 (.Assign [.Name x p] (.ListComp elt [⟨tg, iter, ifs, 0⟩] sc' pos) spos) ρ (r.bind fun ds => .ok (.nx (setE i (.list ds) ρ))) := fun M σ H R D q => by
  obtain ⟨n1, n2, n3, n4⟩ := nm_slot hn
  obtain ⟨own, wi, g, tt, te, hns, T, h⟩ := he M σ H R (fun x H1 => gName i x σ H1 D.nx) (post_out R q fun ds _ s p vs H2 hp x2 hpl hv =>
    s M _ H2 ((R.ex x2).set n1 ho (.lst (mi_of (R.dom.nin hp) hpl) (rlesss (fun m hm => List.mem_cons_of_mem _ hm) hv))) (Step.of x2))
  refine ⟨tAsg (tLc wi g tt te (List.map (fun x : Str × Nat => x.2) own)) (gName i), fun X gd => ?_, h⟩
  obtain ⟨l1, l2⟩ := sw_yes (ln := spos.line) gd.1 hlc
  exact ps_setLc gd.1.calm (by rw [gd.1.eN]; exact gd.1.nd) (by rw [gd.1.eN]; exact n1) (by rcases gd.1.kd x _ l1 with q | ⟨q, _⟩; exact q; cases q) l2 (T.pi X gd.1) (T.bo X gd.1) (T.pg X gd.1) (T.pt X gd.1) (T.pe X gd.1) (noSet_fold hns)
theorem ok_setLCN {x : Str} {p pos spos : Pos} {i : Nat} {elt tg iter : Expr} {ifs : List Expr} {sc' : Scope} {r : Rs (List PyData)} (hn : nmOf c.N sc x = .slot i) (ho : c.isOwn x = true) (hlc : lcOk sc x p (.ListComp elt [⟨tg, iter, ifs, 0⟩] sc' pos) = true)
    (he : ∀ M σ H, Rel c K H0 M0 M σ H ρ → LcR P w K mg base k cl c sc W M elt tg iter ifs sc' r σ H) : OkS P w K mg base k cl c sc W H0 M0 (.Assign [.Name x p] (.ListComp elt [⟨tg, iter, ifs, 0⟩] sc' pos) spos) ρ (r.bind fun ds => .ok (.nx (setE i (.list ds) ρ))) := fun M σ H R D q => by
  obtain ⟨n1, n2, n3, n4⟩ := nm_slot hn
  obtain ⟨own, wi, g, tt, te, hns, T, h⟩ := he M σ H R (fun x H1 => gName i x σ H1 D.nx) (post_out R q fun ds _ s p vs H2 hp x2 hpl hv =>
    s (p :: M) _ H2 (R.new n1 ho hp x2 hpl hv) ⟨fun _ h => List.mem_cons_of_mem _ h, fun a ha => (List.mem_cons.mp ha).elim (fun z => .inr (by rw [z]; exact hp)) .inl, ExM.of x2⟩)
  refine ⟨tAsg (tLc wi g tt te (List.map (fun x : Str × Nat => x.2) own)) (gName i), fun X gd => ?_, h⟩
  obtain ⟨l1, l2⟩ := sw_yes (ln := spos.line) gd.1 hlc
  exact ps_setLc gd.1.calm (by rw [gd.1.eN]; exact gd.1.nd) (by rw [gd.1.eN]; exact n1) (by rcases gd.1.kd x _ l1 with q | ⟨q, _⟩; exact q; cases q) l2 (T.pi X gd.1) (T.bo X gd.1) (T.pg X gd.1) (T.pt X gd.1) (T.pe X gd.1) (noSet_fold hns)
/-- an own list's slot -/
theorem own_at {x : Str} {i : Nat} {ds : List PyData} (h : ownAt c sc x ρ = some (i, ds)) : c.isOwn x = true ∧ nmOf c.N sc x = .slot i ∧ ρ[i]? = some (some (.list ds)) := by
  unfold ownAt at h
  split at h
  · rename_i ho
    split at h
    · rename_i j hn
      split at h
      · rename_i es hd
        cases h
        exact ⟨ho, hn, hd⟩
      · cases h
    · cases h
  · cases h
theorem pvar {x : Str} {p : Pos} {i : Nat} (hn : nmOf c.N sc x = .slot i) {X : Cx} (g : Good P w K mg base k c.N sc W X) : PE X (.Name x p) (tVar i) := by
  obtain ⟨n1, n2, n3, n4⟩ := nm_slot hn
  exact pe_var (by rw [g.eN]; exact n1) (g.vis n2) n3 n4
theorem few1 {env : Env} {pos : Pos} (h : noStar e = true) : ((backTo pos (starEach [e] env)).all (fun x => !x.1) && (backToKw pos (keywordEach [] env)).all (fun x => x.1.isSome)
      && decide (([e] : List Expr).length + ([] : List Keyword).length + (if ([] : List Keyword).isEmpty then 0 else 1) < 30)) = true := by
  rw [star1 h] <;> rfl
/-- own + e -/
theorem ownAdd_some {y : Str} (h : ownAdd c e = some (y, b)) : ∃ p1 p2, e = .BinOp (.Name y p1) .Add b p2 ∧ c.isOwn y = true := by
  unfold ownAdd at h
  split at h
  · split at h
    · rename_i hy
      cases h
      exact ⟨_, _, rfl, hy⟩
    · cases h
  · cases h
theorem ok_NO (hE : ∀ (e : Expr), OkE P w K mg base k cl c.N sc W M e (evE c 40 sc false e ρ) σ H) (hN : OkN P w K mg base k cl c.N sc W M e (evN c 40 sc false e ρ) σ H) (R : Rel c K H0 M0 M σ H ρ) : OkN P w K mg base k cl c.N sc W M e (evNO c sc e ρ) σ H := by
  unfold evNO
  cases hz : ownAdd c e with
  | none => exact hN
  | some yb =>
    obtain ⟨y, b⟩ := yb
    obtain ⟨p1, p2, rfl, hy⟩ := ownAdd_some hz
    show OkN P w K mg base k cl c.N sc W M _ (match ownAt c sc y ρ with
    | some (_, ds) => (evE c 40 sc false b ρ).bind fun d => lop .Add (.list ds) d
    | none => .no) σ H
    cases ha : ownAt c sc y ρ with
    | none => exact fun H1 x Q q => q.elim
    | some jd =>
      obtain ⟨j, ds⟩ := jd
      obtain ⟨ho, hn, hd⟩ := own_at ha
      obtain ⟨n1, n2, n3, n4⟩ := nm_slot hn
      obtain ⟨pa, vs, es, z, hσ, hM, h0, hp, hv⟩ := R.own j y _ n1 ho hd
      cases z
      refine fun H1 x Q q => ⟨tOp rCat (tVar j) (tB P w K mg base k c.N sc W b), fun X g => pe_op op_cat (pvar hn g) (be g b), ?_⟩
      refine ⟨_, hσ, ?_⟩
      refine hE b H1 x _ ((Out.bind q).mono (Evl.Ex.refl _) fun d e1 s v H2 x2 hv2 => ?_)
      cases d with
      | list fs =>
        unfold lop at s
        simp only at s
        split at s
        · rename_i hc
          cases hv2 with
          | lst h2 v2 =>
          have l1 := ra_len hv
          have l2 := ra_len v2
          have x12 := x.trans x2
          exact ⟨_, _, _, _, rfl, rfl, x12 _ _ hp, (mi_some h2).2, Evl.sz_of (by omega), fun p hp => s p _ _ (Evl.fresh_back x2 hp) (x2.trans (Evl.Ex.new hp)) upd_same (res (Evl.Ex.new hp) (radds hp (ra_app (res x12 hv) v2)))⟩
        · exact s.elim
      | _ => exact s.elim
/-- x.append(e) -/
theorem ok_append {x : Str} {p ap cp sp : Pos} {i : Nat} {ds : List PyData} {r : Rs PyData} (h : ownAt c sc x ρ = some (i, ds)) (hs : noStar a = true) (hln : (ap.endLine == cp.line) = true)
    (he : ∀ M σ H, Rel c K H0 M0 M σ H ρ → OkE P w K mg base k cl c.N sc W M a r σ H) :
    OkS P w K mg base k cl c sc W H0 M0 (.Expr (.Call (.Attribute (.Name x p) "append" ap) [a] [] cp) sp) ρ (r.bind fun d => if ds.length < 100000 then .ok (.nx (setE i (.list (ds ++ [d])) ρ)) else .no) := fun M σ H R D q => by
  obtain ⟨ho, hn, hd⟩ := own_at h
  obtain ⟨n1, n2, n3, n4⟩ := nm_slot hn
  obtain ⟨pa, vs, es, z, hσ, hM, h0, hp, hv⟩ := R.own i x _ n1 ho hd
  cases z
  refine ⟨tDrop (tBM K "list" rAppend (tVar i) (tCons (tB P w K mg base k c.N sc W a) tNil)), fun X g => ?_, ?_⟩
  · rw [← g.1.eK]
    exact ps_expr (pe_bm PySem.F.plainAttrs_list PySem.F.slot_list_append PySem.F.type_list_append mt_append (pvar hn g.1) (pa_cons (by rw [g.1.eK]; exact be g.1 a) pa_nil (star1 hs)) rfl (few1 hs) hln (star1 hs) (star_all rfl)) rfl
  · refine ⟨_, hσ, .inl ⟨rfl, _, Evl.sq_of hp⟩, ?_⟩
    refine he M σ H R H (Evl.Ex.refl _) _ (post_out R q fun d _ s v H2 x2 hv2 => ?_)
    split at s
    · rename_i hz
      have hl := ra_len hv
      refine ⟨pa, vs, v, rfl, rfl, x2 _ _ hp, Evl.sz_lt (by omega), ?_⟩
      obtain ⟨R2, S2⟩ := (R.ex x2).mut n1 ho hd hσ (ra_app (res x2 hv) (.cons hv2 .nil))
      exact s M σ _ R2 ((Step.of x2).trans (R.dom.ex x2) S2)
    · exact s.elim
theorem ok_extend {x : Str} {p ap cp sp : Pos} {i : Nat} {ds : List PyData} {r : Rs (List PyData)} (h : ownAt c sc x ρ = some (i, ds)) (hs : noStar a = true) (hln : (ap.endLine == cp.line) = true)
    (he : ∀ M σ H, Rel c K H0 M0 M σ H ρ → OkN P w K mg base k cl c.N sc W M a r σ H) :
    OkS P w K mg base k cl c sc W H0 M0 (.Expr (.Call (.Attribute (.Name x p) "extend" ap) [a] [] cp) sp) ρ (r.bind fun es => if ds.length + es.length ≤ 100000 then .ok (.nx (setE i (.list (ds ++ es)) ρ)) else .no) := fun M σ H R D q => by
  obtain ⟨ho, hn, hd⟩ := own_at h
  obtain ⟨n1, n2, n3, n4⟩ := nm_slot hn
  obtain ⟨pa, vs, es, z, hσ, hM, h0, hp, hv⟩ := R.own i x _ n1 ho hd
  cases z
  refine ⟨tDrop (tBM K "list" rExtend (tVar i) (tCons (tB P w K mg base k c.N sc W a) tNil)), fun X g => ?_, ?_⟩
  · rw [← g.1.eK]
    exact ps_expr (pe_bm PySem.F.plainAttrs_list PySem.F.slot_list_extend PySem.F.type_list_extend mt_extend (pvar hn g.1) (pa_cons (by rw [g.1.eK]; exact be g.1 a) pa_nil (star1 hs)) rfl (few1 hs) hln (star1 hs) (star_all rfl)) rfl
  · refine ⟨_, hσ, .inl ⟨rfl, _, Evl.sq_of hp⟩, ?_⟩
    refine he M σ H R H (Evl.Ex.refl _) _ (post_out R q fun d _ s b us H2 hb x2 hbl hv2 => ?_)
    split at s
    · rename_i hz
      have hl := ra_len hv
      have hl2 := ra_len hv2
      refine ⟨pa, b, vs, us, rfl, rfl, x2 _ _ hp, hbl, Evl.sz_of (by omega), ?_⟩
      obtain ⟨R2, S2⟩ := (R.ex x2).mut n1 ho hd hσ (ra_app (res x2 hv) (rlesss (fun m hm => List.mem_cons_of_mem _ hm) hv2))
      exact s M σ _ R2 ((Step.of x2).trans (R.dom.ex x2) S2)
    · exact s.elim
theorem ra_last : ∀ {vs : List V} {ds : List PyData} {d : PyData}, RvA K H vs ds → ds.getLast? = some d → ∃ v, vs[vs.length - 1]? = some v ∧ Rv K H v d := fun {vs ds d} h e => by
  rw [List.getLast?_eq_getElem?] at e
  rw [ra_len h]
  exact ra_get h e
theorem ra_dropLast : ∀ {vs : List V} {ds : List PyData}, RvA K H vs ds → RvA K H vs.dropLast ds.dropLast := fun {vs ds} h => by
  rw [List.dropLast_eq_take, List.dropLast_eq_take, ra_len h]
  exact ra_take _ h
/-- x, y = o.pop() -/
theorem ok_pop {x y o : Str} {p1 p2 p3 p4 ap cp sp : Pos} {kk i j l : Nat} {ds : List PyData} {d1 d2 : PyData} (h : ownAt c sc o ρ = some (l, ds)) (hln : (ap.endLine == cp.line) = true) (hx : nmOf c.N sc x = .slot i) (hy : nmOf c.N sc y = .slot j) (ox : c.isOwn x = false) (oy : c.isOwn y = false)
    (lx : locN sc x = true) (ly : locN sc y = true) (hd : ds.getLast? = some (.tuple [d1, d2])) :
    OkS P w K mg base k cl c sc W H0 M0 (.Assign [.Tuple [.Name x p1, .Name y p2] kk p3] (.Call (.Attribute (.Name o p4) "pop" ap) [] [] cp) sp) ρ (.ok (.nx (setE j d2 (setE i d1 (setE l (.list ds.dropLast) ρ))))) := fun M σ H R D q => by
  obtain ⟨ho, hn, hdl⟩ := own_at h
  obtain ⟨n1, n2, n3, n4⟩ := nm_slot hn
  obtain ⟨x1, x2, x3, x4⟩ := nm_slot hx
  obtain ⟨y1, y2, y3, y4⟩ := nm_slot hy
  obtain ⟨pa, vs, es, z, hσ, hM, h0, hp, hv⟩ := R.own l o _ n1 ho hdl
  cases z
  refine ⟨tAsg (tBM0 K "list" rPop (tVar l)) (gTup K 2 (gCons (gName i) (gCons (gName j) gNil))), fun X g => ?_, ?_⟩
  · rw [← g.1.eK]
    exact ps_asg (pe_bm0 PySem.F.plainAttrs_list PySem.F.slot_list_pop PySem.F.type_list_pop mt_pop (pvar hn g.1) rfl hln)
      (pg_tup g.1.calm (pgs_cons (pg_name (by rw [g.1.eN]; exact g.1.nd) (by rw [g.1.eN]; exact x1) (g.1.loc (lok lx)) (g.1.hf (lok lx))) (pgs_cons (pg_name (by rw [g.1.eN]; exact g.1.nd) (by rw [g.1.eN]; exact y1) (g.1.loc (lok ly)) (g.1.hf (lok ly))) pgs_nil)) rfl rfl) rfl rfl rfl
  · obtain ⟨v, hvl, rv⟩ := ra_last hv hd
    refine ⟨_, hσ, .inl ⟨rfl, _, Evl.sq_of hp⟩, pa, vs, v, rfl, rfl, hp, hvl, ?_⟩
    obtain ⟨R2, S2⟩ := R.mut n1 ho hdl hσ (ra_dropLast hv)
    cases rv with
    | tup h1 h2 =>
      rename_i t us
      cases h2 with
      | cons r1 h2 =>
        cases h2 with
        | cons r2 h2 =>
          cases h2
          have tM := (mi_some h1).1
          have htp : t ≠ pa := fun z => tM (by rw [z]; exact hM)
          have ht : upd H pa (.lst vs.dropLast) t = H t := upd_ne htp
          refine ⟨t, _, rfl, Evl.st_of (ht.trans (mi_some h1).2), rfl, _, _, rfl, _, _, rfl, rfl, ?_⟩
          have eM := S2.ex
          exact q M _ _ ((R2.set x1 ox (rm eM r1)).set y1 oy (rm eM r2)) S2
/-- a, b = e -/
theorem sws {es : List Expr} {kk : Nat} {pt : Pos} {env : Env} (h : isTupE e = false) : swappedStores [.Tuple es kk pt] e env = pure none := by
  cases e <;> first | rfl | cases h
theorem sws1 {es : List Expr} {kk : Nat} {pt : Pos} {env : Env} {ln : Nat} : swapsWithSole [.Tuple es kk pt] e ln env = pure false := by
  cases e <;> rfl
/-- a target takes a datum -/
theorem Rel.tgt {n : Nat} {d : PyData} {v : V} {Q : L2.St → Hp → Prop} (R : Rel c K H0 M0 M σ H ρ) (h : tgt c sc n e d ρ = some ρ') (hv : Rv K (mi H M) v d) (q : ∀ σ', Rel c K H0 M0 M σ' H ρ' → Q σ' H) : tBG P w K mg base k c.N sc W e v σ H Q :=
  ok_tgt n h R.cxt hv Q fun σ' C' _ os => q σ' ⟨C'.ls, C'.lr, R.ext, R.d0, R.dom, R.sub, fun i x d' h1 h2 h3 => by
      obtain ⟨v', k1, k2⟩ := C'.rd i x d' h1 h3
      rw [h2] at k2
      exact ⟨v', k1, k2⟩,
    fun i x d' h1 h2 h3 => by
      obtain ⟨o1, o2⟩ := os i x h1 h2
      rw [o2] at h3
      rw [o1]
      exact R.own i x d' h1 h2 h3,
    fun i j x y d1 d2 p h1 h2 h3 h4 h5 h6 h7 h8 => by
      obtain ⟨o1, o2⟩ := os i x h1 h3
      obtain ⟨o3, o4⟩ := os j y h2 h4
      rw [o2] at h5
      rw [o1] at h7
      rw [o4] at h6
      rw [o3] at h8
      exact R.inj i j x y d1 d2 p h1 h2 h3 h4 h5 h6 h7 h8, R.fixO, fun i v' h1 h2 => by
      obtain ⟨x, h3, h4⟩ := R.fixO i v' h1
      obtain ⟨o1, o2⟩ := os i x h3 h4
      rw [o2] at h2
      rw [o1]
      exact R.fix i v' h1 h2⟩
theorem swsF {es : List Expr} {kk : Nat} {pt : Pos} {env : Env} (h : parNo e = false) : swappedStores [.Tuple es kk pt] e env = pure none := by
  cases e with
  | Tuple vs k2 p2 =>
    have hf : vs.all (foldedForSure 8) = true := by simpa [parNo] using h
    unfold swappedStores
    simp only [hf, if_true]
    repeat' split
    all_goals rfl
  | _ => rfl
theorem ok_unp {es : List Expr} {kk : Nat} {pt sp : Pos} {r : Rs PyData} (ht : parNo e = false) (he : ∀ M σ H, Rel c K H0 M0 M σ H ρ → OkE P w K mg base k cl c.N sc W M e r σ H) :
    OkS P w K mg base k cl c sc W H0 M0 (.Assign [.Tuple es kk pt] e sp) ρ (r.bind fun d => match tgt c sc 8 (.Tuple es kk pt) d ρ with
      | some ρ' => .ok (.nx ρ')
      | none => .no) := fun M σ H R D q => by
  refine ⟨tAsg (tB P w K mg base k c.N sc W e) (tBG P w K mg base k c.N sc W (.Tuple es kk pt)), fun X g => ps_asg (be g.1 e) (bg g.1 _) sws1 (swsF ht) rfl, ?_⟩
  refine he M σ H R H (Evl.Ex.refl _) _ (post_out R q fun d _ s v H2 x2 hv => ?_)
  split at s
  · rename_i ρ' hρ
    exact (R.ex x2).tgt hρ hv fun σ' R' => s M σ' H2 R' (Step.of x2)
  · exact s.elim
theorem dl_last {α : Type} {l : List α} {u : α} (h : l.getLast? = some u) : l.dropLast ++ [u] = l := by
  obtain ⟨ys, rfl⟩ := List.getLast?_eq_some_iff.mp h
  simp
/-- *x, y = e -/
theorem ok_starS {x y : Str} {p1 p2 p3 p4 sp : Pos} {kk i j : Nat} {r : Rs PyData} (ht : isTupE e = false) (hx : nmOf c.N sc x = .slot i) (hy : nmOf c.N sc y = .slot j) (ox : c.isOwn x = false) (oy : c.isOwn y = false) (lx : locN sc x = true) (ly : locN sc y = true)
    (he : ∀ M σ H, Rel c K H0 M0 M σ H ρ → OkE P w K mg base k cl c.N sc W M e r σ H) :
    OkS P w K mg base k cl c sc W H0 M0 (.Assign [.Tuple [.Starred (.Name x p1) p2, .Name y p3] kk p4] e sp) ρ (r.bind fun d => match d with
        | .list ds => match ds.getLast? with
          | some z => if ds.length < 1000 then .ok (.nx (setE j z (setE i (.list ds.dropLast) ρ))) else .no
          | none => .no
        | _ => .no) := fun M σ H R D q => by
  obtain ⟨x1, x2, x3, x4⟩ := nm_slot hx
  obtain ⟨y1, y2, y3, y4⟩ := nm_slot hy
  refine ⟨tAsg (tB P w K mg base k c.N sc W e) (ZS.gStar K i j), fun X g => ?_, ?_⟩
  · rw [← g.1.eK]
    exact ps_asg (by rw [g.1.eK]; exact be g.1 e) (ZS.pg_star g.1.calm (by rw [g.1.eN]; exact g.1.nd) (by rw [g.1.eN]; exact x1) (by rw [g.1.eN]; exact y1) (g.1.loc (lok lx)) (g.1.loc (lok ly)) (g.1.hf (lok lx)) (g.1.hf (lok ly))) sws1 (sws ht) rfl
  · refine he M σ H R H (Evl.Ex.refl _) _ (post_out R q fun d _ s v H2 e2 hv => ?_)
    cases d with
    | list ds =>
      simp only at s
      split at s
      · rename_i z hz
        split at s
        · rename_i hl
          cases hv with
          | lst h2 v2 =>
            rename_i a vs
            obtain ⟨u, hu, ru⟩ := ra_last v2 hz
            have ev : vs.dropLast ++ [u] = vs := dl_last (by rw [List.getLast?_eq_getElem?]; exact hu)
            have lv := ra_len v2
            refine ⟨_, vs.dropLast, u, rfl, by rw [ev]; exact Evl.sq_of (mi_some h2).2, by rw [List.length_dropLast]; omega, fun p hp => ?_⟩
            have e3 := Evl.Ex.new (o := .lst vs.dropLast) hp
            have R3 := (R.ex e2).ex e3
            exact s M _ _ ((R3.set x1 ox (.lst (mi_of ((R.ex e2).dom.nin hp) upd_same) (res e3 (ra_dropLast v2)))).set y1 oy (rm (ExM.of e3) ru)) (Step.of (e2.trans e3))
        · exact s.elim
      · exact s.elim
    | _ => exact s.elim
theorem sub_asg {o b : Expr} {pos : Pos} {env : Env} (h : plainI b = true) : ∀ v, assign (.Subscript o b pos) env v = (do
      let ov ← holding [v] (eval o env)
      let iv ← holding [v, ov] (eval b env)
      standAt pos
      holding [v, ov, iv] (setItem ov iv v)
      release [v, ov, iv] []) := by
  cases b <;> first | (intro _; rfl) | cases h
theorem sws2 {o b e : Expr} {pt : Pos} {env : Env} {ln : Nat} : swapsWithSole [.Subscript o b pt] e ln env = pure false := by
  cases e <;> rfl
theorem sws3 {o b e : Expr} {pt : Pos} {env : Env} : swappedStores [.Subscript o b pt] e env = pure none := by
  cases e <;> rfl
/-- x[b] = e -/
theorem ok_put {x : Str} {p pt sp : Pos} {i : Nat} {ds : List PyData} {r r2 : Rs PyData} (h : ownAt c sc x ρ = some (i, ds)) (hpl : plainI b = true) (he : ∀ M σ H, Rel c K H0 M0 M σ H ρ → OkE P w K mg base k cl c.N sc W M e r σ H) (hb : ∀ M σ H, Rel c K H0 M0 M σ H ρ → OkE P w K mg base k cl c.N sc W M0 b r2 σ H) :
    OkS P w K mg base k cl c sc W H0 M0 (.Assign [.Subscript (.Name x p) b pt] e sp) ρ (r.bind fun d => r2.bind fun y => match y with
        | .int k => match ixN ds.length k with
          | some j => .ok (.nx (setE i (.list (ds.set j d)) ρ))
          | none => .no
        | _ => .no) := fun M σ H R D q => by
  obtain ⟨ho, hn, hd⟩ := own_at h
  obtain ⟨n1, n2, n3, n4⟩ := nm_slot hn
  obtain ⟨pa, vs, es, z, hσ, hM, h0, hp, hv⟩ := R.own i x _ n1 ho hd
  cases z
  refine ⟨tAsg (tB P w K mg base k c.N sc W e) (gSub (tVar i) (tB P w K mg base k c.N sc W b) rSetL), fun X g => ps_asg (be g.1 e) (pg_sub (pvar hn g.1) (be g.1 b) set_list (sub_asg hpl)) sws2 sws3 rfl, ?_⟩
  refine he M σ H R H (Evl.Ex.refl _) _ (post_out R q fun d _ s v H2 x2 hv2 => ⟨_, hσ, ?_⟩)
  refine hb M σ H2 (R.ex x2) H2 (Evl.Ex.refl _) _ (post_out (R.ex x2) (post_step s (R.dom.ex x2) (Step.of x2)) fun y _ s2 u H3 x3 hu => ?_)
  split at s2
  · split at s2
    · rename_i j hj
      obtain rfl := rInt hu
      refine ⟨pa, vs, _, j, rfl, rfl, (x2.trans x3) _ _ hp, by rw [ra_len hv]; exact hj, ?_⟩
      obtain ⟨R2, S2⟩ := ((R.ex x2).ex x3).mut n1 ho hd hσ (ra_set (re x3 hv2) j (res (x2.trans x3) hv))
      exact s2 M σ _ R2 ((Step.of x3).trans ((R.dom.ex x2).ex x3) S2)
    · exact s2.elim
  · exact s2.elim
/-- x += e, ints -/
theorem ok_aug {x : Str} {p sp : Pos} {i : Nat} {n : Int} {r : Rs PyData} (hn : nmOf c.N sc x = .slot i) (hl : locN sc x = true) (ho : c.isOwn x = false) (hd : ρ[i]? = some (some (.int n))) (he : ∀ M σ H, Rel c K H0 M0 M σ H ρ → OkE P w K mg base k cl c.N sc W M0 e r σ H) :
    OkS P w K mg base k cl c sc W H0 M0 (.AugAssign (.Name x p) .Add e sp) ρ (r.bind fun d => match d with
      | .int b => .ok (.nx (setE i (.int (n + b)) ρ))
      | _ => .no) := fun M σ H R D q => by
  obtain ⟨n1, n2, n3, n4⟩ := nm_slot hn
  obtain ⟨v, hσ, hv⟩ := R.rd i x _ n1 ho hd
  obtain rfl := rInt hv
  refine ⟨tAug i (tB P w K mg base k c.N sc W e) (ipI fun i j => i + j), fun X g => ps_aug (by rw [g.1.eN]; exact g.1.nd) (by rw [g.1.eN]; exact n1) (g.1.loc (lok hl)) (be g.1 e) ip_add (g.1.hf (lok hl)), _, hσ, ?_⟩
  refine he M σ H R H (Evl.Ex.refl _) _ (post_out R q fun d _ s u H2 x2 hu => ?_)
  split at s
  · obtain rfl := rInt hu
    exact ⟨n, _, rfl, rfl, s M _ H2 ((R.ex x2).set n1 ho (.int _)) (Step.of x2)⟩
  · exact s.elim
theorem ok_ret {sp : Pos} {r : Rs PyData} (he : ∀ M σ H, Rel c K H0 M0 M σ H ρ → OkE P w K mg base k cl c.N sc W M0 e r σ H) : OkS P w K mg base k cl c sc W H0 M0 (.Return (some e) sp) ρ (r.bind fun d => .ok (.rt d)) := fun M σ H R D q => by
  refine ⟨tRet (tB P w K mg base k c.N sc W e), fun X g => ps_ret (be g.1 e), ?_⟩
  exact he M σ H R H (Evl.Ex.refl _) _ (post_out R q fun d _ s v H2 x2 hv => s v H2 (R.ext.trans x2) hv)
theorem ok_retN {sp : Pos} : OkS P w K mg base k cl c sc W H0 M0 (.Return none sp) ρ (.ok (.rt .none)) := fun M σ H R D q => ⟨tRetN, fun X g => ps_retN, q _ H R.ext .non⟩
theorem ok_ifS {t : Expr} {sa sb : List Stmt} {sp : Pos} {r : Rs Bool} {ra rb : Rs Fl} (ht : ∀ M σ H, Rel c K H0 M0 M σ H ρ → OkT P w K mg base k cl c.N sc W t r σ H) (ha : OkSs P w K mg base k cl c sc W H0 M0 sa ρ ra) (hb : OkSs P w K mg base k cl c sc W H0 M0 sb ρ rb) :
    OkS P w K mg base k cl c sc W H0 M0 (.If t sa sb sp) ρ (r.bind fun x => if x then ra else rb) := fun M σ H R D q => by
  refine ⟨tIfS (tBT P w K mg base k c.N sc W t) (tSs P w K mg base k c.N sc W sa) (tSs P w K mg base k c.N sc W sb), fun X g => ps_if (bt g.1 t) (bss g sa) (bss g sb), ?_⟩
  refine ht M σ H R H (Evl.Ex.refl _) _ (post_out R q fun x _ s H2 x2 => ?_)
  cases x with
  | true =>
    rw [if_pos rfl] at s ⊢
    exact ha M σ H2 (R.ex x2) D (post_step s (R.dom.ex x2) (Step.of x2))
  | false =>
    rw [if_neg Bool.false_ne_true] at s ⊢
    exact hb M σ H2 (R.ex x2) D (post_step s (R.dom.ex x2) (Step.of x2))
theorem ok_drop {f : Expr} {as : List Expr} {p2 sp : Pos} {r : Rs PyData} (he : ∀ M σ H, Rel c K H0 M0 M σ H ρ → OkE P w K mg base k cl c.N sc W M0 (.Call f as [] p2) r σ H) : OkS P w K mg base k cl c sc W H0 M0 (.Expr (.Call f as [] p2) sp) ρ (r.bind fun _ => .ok (.nx ρ)) := fun M σ H R D q => by
  refine ⟨tDrop (tB P w K mg base k c.N sc W (.Call f as [] p2)), fun X g => ps_expr (be g.1 _) rfl, ?_⟩
  exact he M σ H R H (Evl.Ex.refl _) _ (post_out R q fun d _ s v H2 x2 hv => s M σ H2 (R.ex x2) (Step.of x2))
theorem ok_raise (m : Mdl P w K mg base k cl c) {x z : Str} {p p2 p3 sp : Pos} {j i : Nat} (hn : nmOf c.N sc x = .glob) (hc : c.cls x = some i) : OkS P w K mg base k cl c sc W H0 M0 (.Raise (some (.Call (.Name x p) [.Constant (.str z) j p2] [] p3)) none sp) ρ (.er i) := fun M σ H R D q => by
  obtain ⟨h1, h2, h3, h4, h5⟩ := m.cls x i hc
  obtain ⟨g1, g2⟩ := nm_glob hn
  refine ⟨_, fun X g => ps_raise g.1.calm g.1.tk (pmk_own F.excBase_ValueError (by rw [g.1.eK]; exact h3) (by rw [g.1.em]; exact h1) (by rw [g.1.eK]; exact h2) (raises_own (by rw [g.1.eK]; exact h4) (by rw [g.1.eK]; exact h5)) (g.1.gl g1) g2), q σ H R.ext⟩
theorem ok_for {it : Expr} {body : List Stmt} {sp : Pos} {r : Rs (List PyData)} {fb : En → Rs Fl} (hns : noSet it = true) (hi : ∀ M σ H, Rel c K H0 M0 M σ H ρ → OkI P w K mg base k cl c.N sc W M tg it r σ H)
    (hb : ∀ ρ, OkSs P w K mg base k cl c sc W H0 M0 body ρ (fb ρ)) : OkS P w K mg base k cl c sc W H0 M0 (.For tg it body [] sp) ρ (r.bind fun ds => forD (tgt c sc 8 tg) fb ds ρ) := fun M σ H R D q => by
  refine ⟨tFor (tBI P w K mg base k c.N sc W tg it) (tBG P w K mg base k c.N sc W tg) (tSs P w K mg base k c.N sc W body), fun X g => ps_for g.2 g.1.calm (bi g.1 tg it) (bg g.1 tg) (bss g body) (noSet_fold hns), ?_⟩
  refine hi M σ H R H (Evl.Ex.refl _) _ (post_out R q fun ds _ s J H2 x2 wd => ?_)
  obtain ⟨n, G, Y, wk, hn, hw⟩ := wd
  have s2 := post_step s (R.dom.ex x2) (Step.of x2)
  obtain ⟨tot, htot⟩ : ∃ tot, tot = forD (tgt c sc 8 tg) fb ds ρ := ⟨_, rfl⟩
  rw [← htot] at s2
  refine for_it wk (fun i σ' H' => ∃ M' ρ', Rel c K H0 M0 M' σ' H' ρ' ∧ Step M H2 M' H' ∧ forD (tgt c sc 8 tg) fb (ds.drop i) ρ' = tot) ⟨M, ρ, R.ex x2, Step.refl _ _, by rw [List.drop_zero, htot]⟩
    (fun i σ' H' _ p => ?_) (fun i v σ' H' H'' hi' p y => ?_) (fun σ' H' p => ?_)
  · obtain ⟨M', ρ', R', S', _⟩ := p
    exact (hw M' S'.back).1 H' S'.ex
  · obtain ⟨M', ρ', R', S', e'⟩ := p
    obtain ⟨eY, d, hd, rd⟩ := (hw M' S'.back).2 i H' v H'' hi' S'.ex R'.dom y
    rw [drop_at hd] at e'
    unfold forD at e'
    cases ht : tgt c sc 8 tg d ρ' with
    | none =>
      rw [ht] at e'
      rw [← e'] at s2
      exact s2.elim
    | some ρ2 =>
      rw [ht] at e'
      have SY : Step M H2 M' H'' := S'.trans R'.dom (Step.of eY)
      refine (R'.ex eY).tgt ht rd fun σ2 R2 => hb ρ2 M' σ2 H'' R2 _ ?_
      cases hf : fb ρ2 with
      | ok fl =>
        cases fl with
        | nx ρ3 =>
          intro M3 σ3 H3 R3 S3
          refine ⟨M3, ρ3, R3, SY.trans R2.dom S3, ?_⟩
          rw [← e']
          dsimp only
          rw [hf] <;> rfl
        | ct ρ3 =>
          intro M3 σ3 H3 R3 S3
          refine ⟨M3, ρ3, R3, SY.trans R2.dom S3, ?_⟩
          rw [← e']
          dsimp only
          rw [hf] <;> rfl
        | bk ρ3 =>
          have e2 : tot = .ok (.nx ρ3) := by
            rw [← e']
            dsimp only
            rw [hf] <;> rfl
          rw [e2] at s2
          exact fun M3 σ3 H3 R3 S3 => s2 M3 σ3 H3 R3 (SY.trans R2.dom S3)
        | rt dd =>
          have e2 : tot = .ok (.rt dd) := by
            rw [← e']
            dsimp only
            rw [hf] <;> rfl
          rw [e2] at s2
          exact s2
      | er j =>
        have e2 : tot = .er j := by
          rw [← e']
          dsimp only
          rw [hf] <;> rfl
        rw [e2] at s2
        exact s2
      | no =>
        have e2 : tot = .no := by
          rw [← e']
          dsimp only
          rw [hf] <;> rfl
        rw [e2] at s2
        exact s2.elim
  · obtain ⟨M', ρ', R', S', e'⟩ := p
    rw [hn, List.drop_length] at e'
    have e2 : tot = .ok (.nx ρ') := e'.symm
    rw [e2] at s2
    exact s2 M' σ' H' R' S'
theorem ok_while {t : Expr} {body : List Stmt} {sp : Pos} {ft : En → Rs Bool} {fb : En → Rs Fl} {n : Nat} (ht : ∀ M σ H ρ, Rel c K H0 M0 M σ H ρ → OkT P w K mg base k cl c.N sc W t (ft ρ) σ H)
    (hb : ∀ ρ, OkSs P w K mg base k cl c sc W H0 M0 body ρ (fb ρ)) : OkS P w K mg base k cl c sc W H0 M0 (.While t body [] sp) ρ (whD ft fb n ρ) := fun M σ H R D q => by
  refine ⟨tWhile (tBT P w K mg base k c.N sc W t) (tSs P w K mg base k c.N sc W body), fun X g => ps_while g.2 (bt g.1 t) (bss g body), ?_⟩
  refine ⟨fun m σ' H' => ∃ M' ρ', Rel c K H0 M0 M' σ' H' ρ' ∧ Step M H M' H' ∧ whD ft fb m ρ' = whD ft fb n ρ, ⟨n, M, ρ, R, Step.refl _ _, rfl⟩, fun m σ' H' p => ?_⟩
  obtain ⟨M', ρ', R', S', e'⟩ := p
  cases m with
  | zero =>
    have e2 : whD ft fb n ρ = .no := e'.symm
    rw [e2] at q
    exact q.elim
  | succ m =>
    have q' := post_step q R'.dom S'
    rw [← e'] at q'
    unfold whD at q'
    refine ht M' σ' H' ρ' R' H' (Evl.Ex.refl _) _ (post_out R' q' fun b hbb s H2 x2 => ?_)
    have e2 : whD ft fb (m + 1) ρ' = if b = true then (fb ρ').bind fun f => match f with
        | .nx ρ2 => whD ft fb m ρ2
        | .ct ρ2 => whD ft fb m ρ2
        | .bk ρ2 => .ok (.nx ρ2)
        | .rt d => .ok (.rt d) else .ok (.nx ρ') := by
      rw [whD, hbb] <;> rfl
    cases b with
    | false =>
      rw [if_neg Bool.false_ne_true] at s ⊢
      exact s M' σ' H2 (R'.ex x2) (Step.of x2)
    | true =>
      rw [if_pos rfl] at s e2 ⊢
      have SY : Step M H M' H2 := S'.trans R'.dom (Step.of x2)
      refine ⟨fun σ3 H3 => ∃ m', m' < m + 1 ∧ ∃ M3 ρ3, Rel c K H0 M0 M3 σ3 H3 ρ3 ∧ Step M H M3 H3 ∧ whD ft fb m' ρ3 = whD ft fb n ρ, fun _ _ h => h, ?_⟩
      refine hb ρ' M' σ' H2 (R'.ex x2) _ ?_
      have s2 := post_step s (R'.dom.ex x2) (Step.of x2)
      cases hf : fb ρ' with
      | ok fl =>
        rw [hf] at s2 e2
        cases fl with
        | nx ρ3 => exact fun M3 σ3 H3 R3 S3 => ⟨m, by omega, M3, ρ3, R3, SY.trans (R'.dom.ex x2) S3, e2.symm.trans e'⟩
        | ct ρ3 => exact fun M3 σ3 H3 R3 S3 => ⟨m, by omega, M3, ρ3, R3, SY.trans (R'.dom.ex x2) S3, e2.symm.trans e'⟩
        | bk ρ3 => exact s2
        | rt d => exact s2
      | er i => rw [hf] at s2; exact s2
      | no => rw [hf] at s2; exact s2.elim
end
end PY

set_option Elab.async false
set_option linter.all false
set_option maxRecDepth 100000
set_option maxHeartbeats 16000000
/-! The reckoning is right: all statements, defs, a table of defs. -/
namespace PY
open PySem PySem.Spec PyProof.Rows L2 DK DD
section
variable {P : Program} {w : World} {K : PySem.W.Frag} {mg : Str → Option Value} {base : Heap} {k : Nat} {cl : Nat → Addr} {c : Cn} {sc : Scope} {W : WX}
variable {σ : L2.St} {H H' H0 : Hp} {e a b tg : Expr} {es : List Expr} {ρ ρ' : En} {M M' M0 : List Addr}
theorem ok_noS {st : Stmt} : OkS P w K mg base k cl c sc W H0 M0 st ρ .no := fun _ _ _ _ _ q => q.elim
theorem bind_list {r : Rs (List PyData)} {f : PyData → Rs Fl} : (r.bind fun ds => Rs.ok (.list ds)).bind f = r.bind fun ds => f (.list ds) := by
  cases r <;> rfl
theorem evN_lc {n : Nat} {b : Bool} {elt : Expr} {gens : List Comprehension} {sc' : Scope} {pos : Pos} (h1 : ∃ g, gens = [g]) (hg : ¬ ∃ tg iter ifs, gens = [⟨tg, iter, ifs, 0⟩]) : evN c (n + 1) sc b (.ListComp elt gens sc' pos) ρ = .no := by
  obtain ⟨⟨t, it, fs, y⟩, rfl⟩ := h1
  have hy : y ≠ 0 := fun z => hg ⟨t, it, fs, by rw [z]⟩
  unfold evN
  split <;> first | rfl | (rename_i h; cases h; done) | (rename_i h; cases h; exact absurd rfl hy)
theorem es_ok (m : Mdl P w K mg base k cl c) (wf : Nat) (sc : Scope) (W : WX) (H0 : Hp) (M0 : List Addr) : ∀ (n : Nat) (st : Stmt) (ρ : En), OkS P w K mg base k cl c sc W H0 M0 st ρ (evS c wf sc n st ρ)
  | 0, _, _ => ok_noS
  | n + 1, st, ρ => by
    have ih := es_ok m wf sc W H0 M0 n
    have hE : ∀ n (e : Expr) ρ M σ H, Rel c K H0 M0 M σ H ρ → OkE P w K mg base k cl c.N sc W M e (evE c n sc false e ρ) σ H := fun n e ρ M σ H R => (ev_ok m n).1 sc W _ σ H ρ R.cxt false e
    have hW : ∀ n (e : Expr) ρ M σ H, Rel c K H0 M0 M σ H ρ → OkE P w K mg base k cl c.N sc W M0 e (evE c n sc true e ρ) σ H := fun n e ρ M σ H R => (ev_ok m n).1 sc W _ σ H ρ R.cxt true e
    have hN : ∀ n (e : Expr) ρ M σ H, Rel c K H0 M0 M σ H ρ → OkN P w K mg base k cl c.N sc W M e (evN c n sc false e ρ) σ H := fun n e ρ M σ H R => (ev_ok m n).2.1 sc W _ σ H ρ R.cxt false e
    have hT : ∀ n (e : Expr) ρ M σ H, Rel c K H0 M0 M σ H ρ → OkT P w K mg base k cl c.N sc W e (evT c n sc e ρ) σ H := fun n e ρ M σ H R => (ev_ok m n).2.2 sc W _ σ H ρ R.cxt e
    have hI : ∀ (tg e : Expr) ρ M σ H, Rel c K H0 M0 M σ H ρ → OkI P w K mg base k cl c.N sc W M tg e (evIter (fun e => evE c 40 sc false e ρ) (bltn c sc) tg e) σ H := fun tg e ρ M σ H R => ok_iter m (fun e => hE 40 e ρ M σ H R) tg e
    unfold evS
    split
    · -- name = e
      rename_i x p e sp
      split
      · rename_i i hn
        split
        · rename_i hc
          rw [Bool.and_eq_true] at hc
          obtain ⟨hcl, hcr⟩ := hc
          split
          · rename_i ho
            have hc : locN sc x = true ∧ lcOk sc x p e = true := ⟨hcl, by rw [ho] at hcr; simpa using hcr⟩
            cases hl : isLC e with
            | false => exact ok_setN hn hc.1 ho hc.2 hl fun M σ H R => ok_NO (fun e => hE 40 e ρ M σ H R) (hN 40 e ρ M σ H R) R
            | true =>
              cases e with
              | ListComp elt gens sc' pos =>
                have e0 : evNO c sc (.ListComp elt gens sc' pos) ρ = evN c 40 sc false (.ListComp elt gens sc' pos) ρ := rfl
                rw [e0]
                by_cases hg : ∃ tg iter ifs, gens = [⟨tg, iter, ifs, 0⟩]
                · obtain ⟨tg, iter, ifs, rfl⟩ := hg
                  exact ok_setLCN hn ho hc.2 fun M σ H R => lc_run (b := false) m R.cxt
                · have := evN_lc (c := c) (n := 39) (sc := sc) (b := false) (elt := elt) (sc' := sc') (pos := pos) (ρ := ρ) (lc_one hc.2) hg
                  rw [this]
                  exact ok_noS
              | _ => cases hl
          · rename_i ho
            have ho : c.isOwn x = false := by simpa using ho
            by_cases hz : lcOk sc x p e = true
            case neg =>
              have hz : lcOk sc x p e = false := by simpa using hz
              rw [hz, ho] at hcr
              exact ok_setC hn hcl ho (by simpa using hcr) (hE 40 e ρ)
            have hc : locN sc x = true ∧ lcOk sc x p e = true := ⟨hcl, hz⟩
            cases hl : isLC e with
            | false => exact ok_set hn hc.1 ho hc.2 hl (hE 40 e ρ)
            | true =>
              cases e with
              | ListComp elt gens sc' pos =>
                have e1 : evE c 40 sc false (.ListComp elt gens sc' pos) ρ = (evN c 39 sc false (.ListComp elt gens sc' pos) ρ).bind fun ds => .ok (.list ds) := rfl
                rw [e1, bind_list]
                by_cases hg : ∃ tg iter ifs, gens = [⟨tg, iter, ifs, 0⟩]
                · obtain ⟨tg, iter, ifs, rfl⟩ := hg
                  exact ok_setLC hn ho hc.2 fun M σ H R => lc_run (b := false) m R.cxt
                · have := evN_lc (c := c) (n := 38) (sc := sc) (b := false) (elt := elt) (sc' := sc') (pos := pos) (ρ := ρ) (lc_one hc.2) hg
                  rw [this]
                  exact ok_noS
              | _ => cases hl
        · exact ok_noS
      · exact ok_noS
    · -- x, y = o.pop()
      split
      · rename_i hc
        obtain ⟨rfl, hln⟩ := hc
        split
        · rename_i l ds i j ha hx hy
          split
          · exact ok_noS
          · rename_i hz
            simp only [Bool.or_eq_true, not_or, Bool.not_eq_true, Bool.not_eq_false', Bool.not_eq_eq_eq_not, Bool.not_true] at hz
            split
            · rename_i hd
              exact ok_pop ha hln hx hy hz.1.1.1 hz.1.1.2 (by simpa using hz.1.2) (by simpa using hz.2) hd
            · exact ok_noS
        · exact ok_noS
      · exact ok_noS
    · -- *x, y = e
      split
      · rename_i i j hx hy
        split
        · exact ok_noS
        · rename_i hz
          simp only [Bool.or_eq_true, not_or, Bool.not_eq_true, Bool.not_eq_false', Bool.not_eq_eq_eq_not, Bool.not_true] at hz
          exact ok_starS hz.1.1.1.1 hx hy hz.1.1.1.2 hz.1.1.2 (by simpa using hz.1.2) (by simpa using hz.2) (hE 40 _ ρ)
      · exact ok_noS
    · -- a, b = e
      split
      · exact ok_noS
      · exact ok_unp (by rename_i h; simpa using h) (hE 40 _ ρ)
    · -- x[b] = e
      split
      · split
        · exact ok_noS
        · exact ok_put (by assumption) (by rename_i h; simpa using h) (hE 40 _ ρ) (hW 40 _ ρ)
      · exact ok_noS
    · -- x += e
      split
      · rename_i hn
        split
        · rename_i hc
          rw [Bool.and_eq_true] at hc
          split
          · exact ok_aug hn hc.1 (by simpa using hc.2) (by assumption) (hW 40 _ ρ)
          · exact ok_noS
        · exact ok_noS
      · exact ok_noS
    · exact ok_ret (hW 40 _ ρ)
    · exact ok_retN
    · exact ok_ifS (hT 40 _ ρ) (ok_seq ih _ ρ) (ok_seq ih _ ρ)
    · split
      · exact ok_noS
      · exact ok_for (by rename_i h; simpa using h) (hI _ _ ρ) (fun ρ => ok_seq ih _ ρ)
    · exact ok_while (fun M σ H ρ R => hT 40 _ ρ M σ H R) (fun ρ => ok_seq ih _ ρ)
    · split
      · exact ok_raise m (by assumption) (by assumption)
      · exact ok_noS
    · -- methods of own lists
      split
      · rename_i i ds ha
        split
        · rename_i hs
          rw [Bool.and_eq_true] at hs
          split
          · rename_i hm
            subst hm
            exact ok_append ha hs.1 hs.2 (hE 40 _ ρ)
          · split
            · rename_i hm
              subst hm
              exact ok_extend ha hs.1 hs.2 (hN 40 _ ρ)
            · exact ok_noS
        · exact ok_noS
      · exact ok_noS
    · exact ok_drop (hW 40 _ ρ)
    · exact fun M σ H R D q => ⟨tNext, fun X g => ps_pass, q M σ H R (Step.refl _ _)⟩
    · exact fun M σ H R D q => ⟨tBreak, fun X g => ps_break, q M σ H R (Step.refl _ _)⟩
    · exact fun M σ H R D q => ⟨tCont, fun X g => ps_continue, q M σ H R (Step.refl _ _)⟩
    · exact ok_noS
end
end PY

set_option Elab.async false
set_option linter.all false
set_option maxRecDepth 100000
set_option maxHeartbeats 16000000
/-! The reckoning is right: a table of defs. -/
namespace PY
open PySem PySem.Spec PyProof.Rows L2 DK DD
def bltL : List Str := ["len", "abs", "all", "any", "max", "min", "str", "int", "tuple", "list", "sorted", "isinstance", "range", "enumerate", "zip", "bool", "set"]
/-- an error's class, as it stands -/
structure XCl (K : PySem.W.Frag) (mg : Str → Option Value) (x : Str) (C : Addr) : Prop where
  g : mg x = some (.ref C)
  k : PySem.W.keepIn K (.ref C) = true
  q : PySem.W.excIn K C [.type "ValueError", .type "Exception", .type "BaseException", .type "object"] "ValueError.__new__" = true
  ex : PySem.W.subIn K (.ref C) (.type "BaseException") = some true
  ty : PySem.W.typeIn K (.ref C) = some (.type "type")
/-- where a def of the top stands, under a name that may be another than its own -/
structure AtN (K : PySem.W.Frag) (mg : Str → Option Value) (x nm : Str) (st : Stmt) (ps : List Str) where
  f : Addr
  fd : FuncData
  F : Fun K nm nm st f fd
  g : mg x = some (.ref f)
  b : Binds K fd ps []
/-- a table stands in the module -/
structure Stands (P : Program) (w : World) (K : PySem.W.Frag) (mg : Str → Option Value) (base : Heap) (cl : Nat → Addr) (T : Tab) : Prop where
  defs : ∀ f D, T.look f = some D → Nonempty (AtN K mg f D.nm D.st D.ps) ∧ FnScope D.N D.ps (defScope D.st) ∧ (∀ x ∈ D.ps, x ∉ D.own)
  cst : ∀ x d, T.cst x = some d → isScal d = true → ∃ (u : Value) (v : V), mg x = some u ∧ RelV v u ∧ DD.scV d = some v
  blt : ∀ x ∈ bltL, mg x = none
  cls : ∀ x i, T.cls x = some i → XCl K mg x (cl i)
  ext : ∀ f k F, T.look f = none → T.ext f = some (k, F) → ∃ (fa : Addr) (fd : FuncData) (ps : List Str), mg f = some (.ref fa) ∧ PySem.W.keepIn K (.ref fa) = true ∧ Binds K fd ps [] ∧ FnOk P w K mg base (CX P w) k fa fd ps (spP K cl F)
theorem fn_vac {P : Program} {w : World} {K : PySem.W.Frag} {mg : Str → Option Value} {base : Heap} {CXX : CXT} {k : Nat} {f : Addr} {fd : FuncData} {ps : List Str} {sp : Sp} (h : ∀ vs H Q E, ¬ sp vs H Q E) : FnOk P w K mg base CXX k f fd ps sp :=
  ⟨fun vs H Q E q => absurd q (h vs H Q E), fun A outer s H args us vs Q E _ _ _ _ q => absurd q (h vs H Q E)⟩
section
variable {P : Program} {w : World} {K : PySem.W.Frag} {mg : Str → Option Value} {base : Heap} {cl : Nat → Addr} {T : Tab}
theorem rel_start {c : Cn} {H : Hp} {M : List Addr} {vs : List V} {ds : List PyData} {ps : List Str} {sc : Scope} (S : FnScope c.N ps sc) (hl : ds.length = ps.length) (hM : Dom M H) (hv : RvA K (mi H M) vs ds) (ho : ∀ x ∈ ps, c.isOwn x = false) (hfx : c.fx = none) :
    Rel c K H M M (L2.start c.N vs) H (entry c.N ds) := by
  have hpl : ps.length ≤ c.N.length := by
    have := congrArg List.length S.pre
    rw [List.length_take] at this
    omega
  have hvl := ra_len hv
  have get : ∀ (i : Nat) (d : PyData), (entry c.N ds)[i]? = some (some d) → ds[i]? = some d := fun i d h => by
    unfold entry at h
    by_cases hi : i < ds.length
    · rw [List.getElem?_append_left (by simpa using hi), List.getElem?_map] at h
      cases q : ds[i]? with
      | none => rw [q] at h; cases h
      | some e => rw [q] at h; cases h; rfl
    · rw [List.getElem?_append_right (by simpa using hi), List.getElem?_replicate] at h
      split at h <;> cases h
  have noOwn : ∀ (i : Nat) (x : Str) (d : PyData), c.N[i]? = some x → c.isOwn x = true → (entry c.N ds)[i]? ≠ some (some d) := fun i x d h1 h2 h3 => by
    have h4 := (List.getElem?_eq_some_iff.mp (get i d h3)).1
    have : x ∈ ps := by
      rw [← S.pre]
      exact List.mem_of_getElem? (i := i) (by rw [List.getElem?_take_of_lt (by omega)]; exact h1)
    rw [ho x this] at h2
    cases h2
  refine ⟨?_, ?_, Evl.Ex.refl _, hM, hM, fun _ h => h, fun i x d h1 h2 h3 => ?_, fun i x d h1 h2 h3 => absurd h3 (noOwn i x d h1 h2), fun i j x y d d' p h1 h2 h3 h4 h5 => absurd h5 (noOwn i x d h1 h3), fun i v h => (by rw [hfx] at h; cases h), fun i v h => (by rw [hfx] at h; cases h)⟩
  · unfold L2.start
    rw [List.length_append, List.length_map, List.length_replicate]
    omega
  · unfold entry
    rw [List.length_append, List.length_map, List.length_replicate]
    omega
  · obtain ⟨v, h4, h5⟩ := ra_get hv (get i d h3)
    refine ⟨v, ?_, h5⟩
    unfold L2.start
    rw [List.getElem?_append_left (by rw [List.length_map]; exact (List.getElem?_eq_some_iff.mp h4).1), List.getElem?_map, h4] <;> rfl
theorem run_ok (S : Stands P w K mg base cl T) : ∀ (n : Nat) (f : Str) (D : Df) (A : AtN K mg f D.nm D.st D.ps), T.look f = some D → FnOk P w K mg base (CX P w) n A.f A.fd D.ps (spP K cl (run T n f))
  | 0, f, D, A, _ => fn_vac fun vs H Q E h => by
    obtain ⟨M, ds, _, _, q⟩ := h
    exact q
  | n + 1, f, D, A, hf => by
    obtain ⟨_, SC, hown⟩ := S.defs f D hf
    have er : ∀ ds, run T (n + 1) f ds = if ds.length = D.ps.length then outD (seqD (evS (cnAt T n (run T n) D) T.wf (defScope D.st) 12) (defBody D.st) (entry D.N ds)) else .no := fun ds => by
      rw [run, hf]
    refine A.F.okX SC (fun vs H Q E h => ?_) (fun cdv Ar outer s H vs Q E hr h => ?_)
    · obtain ⟨M, ds, _, hv, q⟩ := h
      rw [er] at q
      rw [ra_len hv]
      exact Classical.byContradiction fun z => by
        rw [if_neg z] at q
        exact q.elim
    obtain ⟨M, ds, hM, hv, q⟩ := h
    rw [er] at q
    have hl : ds.length = D.ps.length := Classical.byContradiction fun z => by
      rw [if_neg z] at q
      exact q.elim
    rw [if_pos hl] at q
    let W : WX := fun cls d _ H => E cls d H
    let c : Cn := cnAt T n (run T n) D
    have m : Mdl P w K mg base n cl c := by
      refine ⟨S.cst, S.blt, fun x i hx => ?_, fun g hg => ?_⟩
      · obtain ⟨a1, a2, a3, a4, a5⟩ := S.cls x i hx
        exact ⟨a1, a2, a3, a4, a5⟩
      · have hg' : isFAt T n g = true := hg
        cases hq : T.look g with
        | some D' =>
          obtain ⟨⟨A'⟩, _⟩ := S.defs g D' hq
          refine ⟨n, A'.f, A'.fd, D'.ps, Nat.le_refl _, A'.g, A'.F.kp, A'.b, ?_⟩
          have : c.phi g = run T n g := by
            funext ds
            show phiAt T n (run T n) g ds = _
            unfold phiAt
            rw [hq]
          rw [this]
          exact run_ok S n g D' A' hq
        | none =>
          unfold isFAt at hg'
          rw [hq] at hg'
          cases he : T.ext g with
          | none => rw [he] at hg'; cases hg'
          | some kF =>
            obtain ⟨kf, F⟩ := kF
            rw [he] at hg'
            have hk : kf ≤ n := by simpa using hg'
            obtain ⟨fa, fd, ps, b1, b2, b3, b4⟩ := S.ext g kf F hq he
            refine ⟨kf, fa, fd, ps, hk, b1, b2, b3, ?_⟩
            have : c.phi g = F := by
              funext ds
              show phiAt T n (run T n) g ds = _
              unfold phiAt
              rw [hq, he]
              exact if_pos hk
            rw [this]
            exact b4
    have g : Good P w K mg base n D.N (defScope D.st) W (cxOf (CX P w) P w K mg base D.N D.nm (defScope D.st) A.f cdv Ar outer s H E) :=
      ⟨rfl, rfl, rfl, rfl, rfl, rfl, SC.nd, rfl, hr, fun x v h => .inl h, takes_of rfl rfl rfl rfl, fun _ _ => rfl, SC.kind⟩
    refine ⟨tSs P w K mg base n D.N (defScope D.st) W (defBody D.st), bss (c := c) ⟨g, passes_of rfl⟩ _, ?_⟩
    refine ok_seq (c := c) (fun st ρ => es_ok m T.wf (defScope D.st) W H M 12 st ρ) (defBody D.st) (entry D.N ds) M (L2.start D.N vs) H (rel_start (c := c) SC hl hM hv (fun x hx => ?_) rfl) _ ?_
    · show (D.own.any fun y => decide (y = x)) = false
      rw [List.any_eq_false]
      intro y hy
      have : y ≠ x := fun z => hown x hx (by rw [← z]; exact hy)
      simpa using this
    · cases hs : seqD (evS c T.wf (defScope D.st) 12) (defBody D.st) (entry D.N ds) with
      | ok fl =>
        have q' := q
        have e2 : seqD (evS (cnAt T n (run T n) D) T.wf (defScope D.st) 12) (defBody D.st) (entry D.N ds) = .ok fl := hs
        rw [e2] at q'
        cases fl with
        | nx ρ' => exact fun M' σ' H' R' _ => q' .non H' R'.ext .non
        | rt d => exact q'
        | bk ρ' => exact q'.elim
        | ct ρ' => exact q'.elim
      | er i =>
        have q' := q
        have e2 : seqD (evS (cnAt T n (run T n) D) T.wf (defScope D.st) 12) (defBody D.st) (entry D.N ds) = .er i := hs
        rw [e2] at q'
        exact fun σ' H' e => q' H' e
      | no =>
        have q' := q
        have e2 : seqD (evS (cnAt T n (run T n) D) T.wf (defScope D.st) 12) (defBody D.st) (entry D.N ds) = .no := hs
        rw [e2] at q'
        exact q'.elim
end
end PY

set_option Elab.async false
set_option linter.all false
set_option maxRecDepth 100000
set_option maxHeartbeats 4000000
/-! Words for reckonings over data that are not wholly known. -/
namespace PY
open PySem PySem.Spec PyProof.Rows L2 DK DD
def andR (a b : Rs PyData) : Rs PyData := a.bind fun d => match d with | .bool true => b | .bool false => .ok (.bool false) | _ => .no
def orR (a b : Rs PyData) : Rs PyData := a.bind fun d => match d with | .bool false => b | .bool true => .ok (.bool true) | _ => .no
def notR (a : Rs PyData) : Rs PyData := a.bind fun d => match d with | .bool b => .ok (.bool !b) | _ => .no
def lstR (a : Rs (List PyData)) : Rs PyData := a.bind fun ds => .ok (.list ds)
/-- a comprehension's turns over a list, each by f -/
def lcR (f : PyData → Rs PyData) (xs : List PyData) : Rs PyData := lstR (if xs.length ≤ 100000 then mapD (fun d => (noEr (f d)).bind fun y => .ok (some y)) xs else .no)
def callR (g : Str) (a : Rs PyData) : Rs PyData := (a.bind fun d => Rs.ok [d]).bind fun ds => match bls g ds with
  | .ok xs => .ok (.list xs)
  | _ => bfn g ds
/-- the same of a def -/
def fnR (g : PyData → Rs PyData) (a : Rs PyData) : Rs PyData := (a.bind fun d => Rs.ok [d]).bind fun ds => match ds with
  | [d] => g d
  | _ => .no
@[simp] theorem andR_t {b : Rs PyData} : andR (.ok (.bool true)) b = b := rfl
@[simp] theorem andR_f {b : Rs PyData} : andR (.ok (.bool false)) b = .ok (.bool false) := rfl
theorem andR_b {x y : Bool} : andR (.ok (.bool x)) (.ok (.bool y)) = .ok (.bool (x && y)) := by cases x <;> rfl
theorem andR_i {x : Bool} {b : Rs PyData} {y : Bool} (h : x = true → b = .ok (.bool y)) : andR (.ok (.bool x)) b = .ok (.bool (x && y)) := by
  cases x with
  | true => rw [andR_t, h rfl] <;> rfl
  | false => rfl
theorem orR_i {x : Bool} {b : Rs PyData} {y : Bool} (h : x = false → b = .ok (.bool y)) : orR (.ok (.bool x)) b = .ok (.bool (x || y)) := by
  cases x with
  | false => show b = _; rw [h rfl] <;> rfl
  | true => rfl
/-- x <= y <= z, as it is reckoned -/
def chR (x y z : Int) : Rs PyData := (if decide (x ≤ y) = true then Rs.ok (decide (y ≤ z)) else .ok false).bind fun b => .ok (.bool b)
theorem chR_eq (x y z : Int) : chR x y z = .ok (.bool (decide (x ≤ y) && decide (y ≤ z))) := by
  unfold chR
  cases decide (x ≤ y) <;> rfl
section
variable {α : Type} {l : List α} {enc : α → PyData}
theorem mapD_map {f : PyData → Rs (Option PyData)} {g : α → PyData} : ∀ {l : List α}, (∀ a ∈ l, f (enc a) = .ok (some (g a))) → mapD f (l.map enc) = .ok (l.map g)
  | [], _ => rfl
  | a :: l, h => by
    rw [List.map_cons, mapD, h a (by simp), bind_ok, mapD_map fun b hb => h b (List.mem_cons_of_mem _ hb)]
    rfl
theorem lcR_map {f : PyData → Rs PyData} {g : α → PyData} (hl : l.length ≤ 100000) (h : ∀ a ∈ l, f (enc a) = .ok (g a)) : lcR f (l.map enc) = .ok (.list (l.map g)) := by
  unfold lcR
  rw [List.length_map, if_pos hl, mapD_map (g := g) fun a ha => by rw [h a ha] <;> rfl]
  rfl
theorem asBools_map {g : α → Bool} : ∀ {l : List α}, asBools (l.map fun a => .bool (g a)) = some (l.map g)
  | [] => rfl
  | a :: l => by
    rw [List.map_cons, asBools, asBools_map]
    rfl
theorem asInts_map {g : α → Int} : ∀ {l : List α}, asInts (l.map fun a => .int (g a)) = some (l.map g)
  | [] => rfl
  | a :: l => by
    rw [List.map_cons, asInts, asInts_map]
    rfl
theorem call_all {g : α → Bool} : callR "all" (.ok (.list (l.map fun a => .bool (g a)))) = .ok (.bool (l.all g)) := by
  show bfn "all" [.list (l.map fun a => .bool (g a))] = _
  have : bfn "all" [.list (l.map fun a => PyData.bool (g a))] = match asBools (l.map fun a => PyData.bool (g a)) with | some bs => .ok (.bool (bs.all id)) | none => .no := rfl
  rw [this, asBools_map]
  show Rs.ok (PyData.bool ((l.map g).all id)) = _
  rw [List.all_map]
  rfl
theorem call_any {g : α → Bool} : callR "any" (.ok (.list (l.map fun a => .bool (g a)))) = .ok (.bool (l.any g)) := by
  show bfn "any" [.list (l.map fun a => .bool (g a))] = _
  have : bfn "any" [.list (l.map fun a => PyData.bool (g a))] = match asBools (l.map fun a => PyData.bool (g a)) with | some bs => .ok (.bool (bs.any id)) | none => .no := rfl
  rw [this, asBools_map]
  show Rs.ok (PyData.bool ((l.map g).any id)) = _
  rw [List.any_map]
  rfl
theorem call_sorted {g : α → Int} : callR "sorted" (.ok (.list (l.map fun a => .int (g a)))) = .ok (.list ((TM.asc (l.map g)).map PyData.int)) := by
  have : callR "sorted" (.ok (.list (l.map fun a => PyData.int (g a)))) = match (match asInts (l.map fun a => PyData.int (g a)) with | some is => Rs.ok ((srtI is).map PyData.int) | none => .no) with | .ok xs => Rs.ok (.list xs) | _ => bfn "sorted" [.list (l.map fun a => PyData.int (g a))] := rfl
  rw [this, asInts_map]
  show Rs.ok (PyData.list ((srtI (l.map g)).map PyData.int)) = _
  rw [srt_asc]
end
/-! step by step -/
section
variable {T : Tab} {n m : Nat} {f : Str} {ds : List PyData} {D : Df} {c : Cn} {wf : Nat} {sc : Scope} {st : Stmt} {sts : List Stmt} {ρ ρ' : En} {d : PyData} {r : Rs Fl} {g : Stmt → En → Rs Fl} {e a b t : Expr} {x y : Bool} {i : Nat} {p : Pos} {w : Bool}
theorem run_rt (h1 : T.look f = some D) (h2 : ds.length = D.ps.length) (h : seqD (evS (cnAt T n (run T n) D) T.wf (defScope D.st) 12) (defBody D.st) (entry D.N ds) = .ok (.rt d)) : run T (n + 1) f ds = .ok d := by
  rw [run, h1]
  show (if ds.length = D.ps.length then _ else _) = _
  rw [if_pos h2, h]
  rfl
theorem run_nx (h1 : T.look f = some D) (h2 : ds.length = D.ps.length) (h : seqD (evS (cnAt T n (run T n) D) T.wf (defScope D.st) 12) (defBody D.st) (entry D.N ds) = .ok (.nx ρ')) : run T (n + 1) f ds = .ok .none := by
  rw [run, h1]
  show (if ds.length = D.ps.length then _ else _) = _
  rw [if_pos h2, h]
  rfl
theorem run_er (h1 : T.look f = some D) (h2 : ds.length = D.ps.length) (h : seqD (evS (cnAt T n (run T n) D) T.wf (defScope D.st) 12) (defBody D.st) (entry D.N ds) = .er i) : run T (n + 1) f ds = .er i := by
  rw [run, h1]
  show (if ds.length = D.ps.length then _ else _) = _
  rw [if_pos h2, h]
  rfl
theorem seq_nx (h : g st ρ = .ok (.nx ρ')) (k : seqD g sts ρ' = r) : seqD g (st :: sts) ρ = r := by
  rw [seqD, h]
  exact k
theorem seq_rt (h : g st ρ = .ok (.rt d)) : seqD g (st :: sts) ρ = .ok (.rt d) := by
  rw [seqD, h]
  rfl
theorem seq_er (h : g st ρ = .er i) : seqD g (st :: sts) ρ = .er i := by
  rw [seqD, h]
  rfl
theorem s_ret (h : evE c 40 sc true e ρ = .ok d) : evS c wf sc (m + 1) (.Return (some e) p) ρ = .ok (.rt d) := by
  show ((evE c 40 sc true e ρ).bind fun d => Rs.ok (Fl.rt d)) = _
  rw [h]
  rfl
theorem s_if {sa sb : List Stmt} (h : evT c 40 sc t ρ = .ok x) (k : (if x = true then seqD (evS c wf sc m) sa ρ else seqD (evS c wf sc m) sb ρ) = r) : evS c wf sc (m + 1) (.If t sa sb p) ρ = r := by
  show ((evT c 40 sc t ρ).bind fun x => if x then seqD (evS c wf sc m) sa ρ else seqD (evS c wf sc m) sb ρ) = _
  rw [h]
  exact k
theorem s_drop {as : List Expr} {fn : Str} {p1 p2 : Pos} (h : evE c 40 sc true (.Call (.Name fn p1) as [] p2) ρ = .ok d) : evS c wf sc (m + 1) (.Expr (.Call (.Name fn p1) as [] p2) p) ρ = .ok (.nx ρ) := by
  show ((evE c 40 sc true (.Call (.Name fn p1) as [] p2) ρ).bind fun _ => Rs.ok (Fl.nx ρ)) = _
  rw [h]
  rfl
theorem s_dropE {as : List Expr} {fn : Str} {p1 p2 : Pos} (h : evE c 40 sc true (.Call (.Name fn p1) as [] p2) ρ = .er i) : evS c wf sc (m + 1) (.Expr (.Call (.Name fn p1) as [] p2) p) ρ = .er i := by
  show ((evE c 40 sc true (.Call (.Name fn p1) as [] p2) ρ).bind fun _ => Rs.ok (Fl.nx ρ)) = _
  rw [h]
  rfl
/-- name = e -/
theorem s_set {z : Str} {p2 : Pos} {k : Nat} (h1 : nmOf c.N sc z = .slot k) (h2 : (locN sc z && (lcOk sc z p2 e || (!c.isOwn z && cellLC sc z e))) = true) (h3 : c.isOwn z = false) (h : evE c 40 sc false e ρ = .ok d) : evS c wf sc (m + 1) (.Assign [.Name z p2] e p) ρ = .ok (.nx (setE k d ρ)) := by
  rw [evS, h1]
  show (if (locN sc z && (lcOk sc z p2 e || (!c.isOwn z && cellLC sc z e))) = true then (if c.isOwn z = true then _ else (evE c 40 sc false e ρ).bind fun d => Rs.ok (Fl.nx (setE k d ρ))) else _) = _
  rw [if_pos h2, h3, if_neg Bool.false_ne_true, h]
  rfl
theorem s_setN {z : Str} {p2 : Pos} {k : Nat} {ds : List PyData} (h1 : nmOf c.N sc z = .slot k) (h2 : (locN sc z && lcOk sc z p2 e) = true) (h3 : c.isOwn z = true) (h : evN c 40 sc false e ρ = .ok ds) (h0 : ownAdd c e = none := by rfl) : evS c wf sc (m + 1) (.Assign [.Name z p2] e p) ρ = .ok (.nx (setE k (.list ds) ρ)) := by
  rw [evS, h1]
  have h2 : (locN sc z && (lcOk sc z p2 e || (!c.isOwn z && cellLC sc z e))) = true := by
    rw [Bool.and_eq_true] at h2 ⊢
    exact ⟨h2.1, by rw [h2.2, Bool.true_or]⟩
  show (if (locN sc z && (lcOk sc z p2 e || (!c.isOwn z && cellLC sc z e))) = true then (if c.isOwn z = true then (evNO c sc e ρ).bind fun ds => Rs.ok (Fl.nx (setE k (.list ds) ρ)) else _) else _) = _
  rw [if_pos h2, if_pos h3]
  unfold evNO
  rw [h0, h]
  rfl
theorem t_not (h : evT c m sc a ρ = .ok x) : evT c (m + 1) sc (.UnaryOp .Not a p) ρ = .ok (!x) := by
  show ((evT c m sc a ρ).bind fun b => Rs.ok !b) = _
  rw [h]
  rfl
theorem t_val (hv : valT e = true) (h : evE c m sc true e ρ = .ok (.bool x)) : evT c (m + 1) sc e ρ = .ok x := by
  have : evT c (m + 1) sc e ρ = if valT e then (evE c m sc true e ρ).bind tru else .no := by
    cases e <;> first | rfl | cases hv
  rw [this, if_pos hv, h]
  rfl
theorem t_or {es : List Expr} (h : evT c m sc a ρ = .ok x) (k : x = false → orT (fun e => evT c m sc e ρ) (b :: es) = .ok y) : evT c (m + 1) sc (.BoolOp .Or (a :: b :: es) p) ρ = .ok (x || y) := by
  show ((evT c m sc a ρ).bind fun z => if z then .ok true else orT (fun e => evT c m sc e ρ) (b :: es)) = _
  rw [h]
  cases x with
  | true => rfl
  | false => exact k rfl
theorem t_and {es : List Expr} (h : evT c m sc a ρ = .ok x) (k : x = true → andT (fun e => evT c m sc e ρ) (b :: es) = .ok y) : evT c (m + 1) sc (.BoolOp .And (a :: b :: es) p) ρ = .ok (x && y) := by
  show ((evT c m sc a ρ).bind fun z => if z then andT (fun e => evT c m sc e ρ) (b :: es) else .ok false) = _
  rw [h]
  cases x with
  | true => exact k rfl
  | false => rfl
theorem orT_c {ft : Expr → Rs Bool} {es : List Expr} (h : ft a = .ok x) (k : x = false → orT ft (b :: es) = .ok y) : orT ft (a :: b :: es) = .ok (x || y) := by
  show ((ft a).bind fun z => if z then .ok true else orT ft (b :: es)) = _
  rw [h]
  cases x with
  | true => rfl
  | false => exact k rfl
theorem andT_c {ft : Expr → Rs Bool} {es : List Expr} (h : ft a = .ok x) (k : x = true → andT ft (b :: es) = .ok y) : andT ft (a :: b :: es) = .ok (x && y) := by
  show ((ft a).bind fun z => if z then andT ft (b :: es) else .ok false) = _
  rw [h]
  cases x with
  | true => exact k rfl
  | false => rfl
theorem andD_c {fe : Expr → Rs PyData} {es : List Expr} (h : fe a = .ok (.bool x)) (k : x = true → andD fe (b :: es) = .ok (.bool y)) : andD fe (a :: b :: es) = .ok (.bool (x && y)) := by
  show ((fe a).bind fun d => match d with | .bool true => andD fe (b :: es) | .bool false => .ok (.bool false) | _ => .no) = _
  rw [h]
  cases x with
  | true => exact k rfl
  | false => rfl
theorem orD_c {fe : Expr → Rs PyData} {es : List Expr} (h : fe a = .ok (.bool x)) (k : x = false → orD fe (b :: es) = .ok (.bool y)) : orD fe (a :: b :: es) = .ok (.bool (x || y)) := by
  show ((fe a).bind fun d => match d with | .bool false => orD fe (b :: es) | .bool true => .ok (.bool true) | _ => .no) = _
  rw [h]
  cases x with
  | true => rfl
  | false => exact k rfl
theorem e_and {es : List Expr} (h : evE c m sc w a ρ = .ok (.bool x)) (k : x = true → andD (fun e => evE c m sc w e ρ) (b :: es) = .ok (.bool y)) : evE c (m + 1) sc w (.BoolOp .And (a :: b :: es) p) ρ = .ok (.bool (x && y)) := andD_c (fe := fun e => evE c m sc w e ρ) h k
theorem e_or {es : List Expr} (h : evE c m sc w a ρ = .ok (.bool x)) (k : x = false → orD (fun e => evE c m sc w e ρ) (b :: es) = .ok (.bool y)) : evE c (m + 1) sc w (.BoolOp .Or (a :: b :: es) p) ρ = .ok (.bool (x || y)) := orD_c (fe := fun e => evE c m sc w e ρ) h k
/-- a test that is reckoned as a value -/
theorem t_cmp {ops : List CmpOp} {bs : List Expr} {rr : Rs Bool} (hF : cmpF ops bs = true) (h : ((evE c m sc true a ρ).bind fun x => cmps (fun e => evE c m sc true e ρ) x ops bs) = rr) : evT c (m + 1) sc (.Compare a ops bs p) ρ = rr := by
  show (if cmpF ops bs = true then _ else _) = _
  rw [if_pos hF]
  exact h
end
end PY

set_option Elab.async false
set_option linter.all false
set_option maxRecDepth 100000
set_option maxHeartbeats 4000000
/-! More words for reckonings: loops, own lists, comprehensions. -/
namespace PY
open PySem PySem.Spec PyProof.Rows L2 DK DD
def whT : Stmt → Expr
  | .While t _ _ _ => t
  | .If t _ _ _ => t
  | _ => .Name Str.empty ⟨0, 0, 0, 0⟩
def whB : Stmt → List Stmt
  | .While _ b _ _ => b
  | .For _ _ b _ _ => b
  | .If _ b _ _ => b
  | _ => []
def bodyAt (st : Stmt) (i : Nat) : Stmt := (defBody st).getD i (.Pass ⟨0, 0, 0, 0⟩)
section
variable {c : Cn} {wf m n : Nat} {sc : Scope} {ρ ρ' : En} {x : Str} {ap cp p p1 p2 p3 : Pos} {a : Expr} {i j k : Nat} {ds es : List PyData} {d : PyData} {w : Bool}
theorem s_extend {md : Str} (hm : md = "extend") (h : ownAt c sc x ρ = some (i, ds)) (hp : (noStar a && (ap.endLine == cp.line)) = true) (he : evN c 40 sc false a ρ = .ok es) (hl : ds.length + es.length ≤ 100000) : evS c wf sc (m + 1) (.Expr (.Call (.Attribute (.Name x p1) md ap) [a] [] cp) p) ρ = .ok (.nx (setE i (.list (ds ++ es)) ρ)) := by
  subst hm
  have e : evS c wf sc (m + 1) (.Expr (.Call (.Attribute (.Name x p1) "extend" ap) [a] [] cp) p) ρ = match ownAt c sc x ρ with
      | some (i, ds) => if noStar a && (ap.endLine == cp.line) then if ("extend" : Str) = "append" then (evE c 40 sc false a ρ).bind fun d => if ds.length < 100000 then .ok (.nx (setE i (.list (ds ++ [d])) ρ)) else .no
        else if ("extend" : Str) = "extend" then (evN c 40 sc false a ρ).bind fun es => if ds.length + es.length ≤ 100000 then .ok (.nx (setE i (.list (ds ++ es)) ρ)) else .no
        else .no else .no
      | none => .no := rfl
  rw [e, h]
  simp only [hp, if_true]
  rw [if_neg (by decide), he]
  show (if ds.length + es.length ≤ 100000 then _ else _) = _
  rw [if_pos hl]
theorem s_append {md : Str} (hm : md = "append") (h : ownAt c sc x ρ = some (i, ds)) (hp : (noStar a && (ap.endLine == cp.line)) = true) (he : evE c 40 sc false a ρ = .ok d) (hl : ds.length < 100000) : evS c wf sc (m + 1) (.Expr (.Call (.Attribute (.Name x p1) md ap) [a] [] cp) p) ρ = .ok (.nx (setE i (.list (ds ++ [d])) ρ)) := by
  subst hm
  have e : evS c wf sc (m + 1) (.Expr (.Call (.Attribute (.Name x p1) "append" ap) [a] [] cp) p) ρ = match ownAt c sc x ρ with
      | some (i, ds) => if noStar a && (ap.endLine == cp.line) then if ("append" : Str) = "append" then (evE c 40 sc false a ρ).bind fun d => if ds.length < 100000 then .ok (.nx (setE i (.list (ds ++ [d])) ρ)) else .no
        else if ("append" : Str) = "extend" then (evN c 40 sc false a ρ).bind fun es => if ds.length + es.length ≤ 100000 then .ok (.nx (setE i (.list (ds ++ es)) ρ)) else .no
        else .no else .no
      | none => .no := rfl
  rw [e, h]
  simp only [hp, if_true]
  rw [he]
  show (if ds.length < 100000 then _ else _) = _
  rw [if_pos hl]
/-- x, y = o.pop() -/
theorem s_pop {o y md : Str} {kd : Nat} {ps : Pos} {da db : PyData} (hm : md = "pop" ∧ (ap.endLine == cp.line) = true) (h : ownAt c sc o ρ = some (k, ds ++ [.tuple [da, db]])) (hx : nmOf c.N sc x = .slot i) (hy : nmOf c.N sc y = .slot j) (hb : (c.isOwn x || c.isOwn y || !locN sc x || !locN sc y) = false) : evS c wf sc (m + 1) (.Assign [.Tuple [.Name x p1, .Name y p2] kd ps] (.Call (.Attribute (.Name o p3) md ap) [] [] cp) p) ρ = .ok (.nx (setE j db (setE i da (setE k (.list ds) ρ)))) := by
  have e : evS c wf sc (m + 1) (.Assign [.Tuple [.Name x p1, .Name y p2] kd ps] (.Call (.Attribute (.Name o p3) md ap) [] [] cp) p) ρ = if md = "pop" ∧ (ap.endLine == cp.line) = true then match ownAt c sc o ρ, nmOf c.N sc x, nmOf c.N sc y with
        | some (k, ds), .slot i, .slot j => if c.isOwn x || c.isOwn y || !locN sc x || !locN sc y then .no else match ds.getLast? with
          | some (.tuple [a, b]) => .ok (.nx (setE j b (setE i a (setE k (.list ds.dropLast) ρ))))
          | _ => .no
        | _, _, _ => .no
      else .no := rfl
  rw [e, if_pos hm, h, hx, hy]
  simp only [hb, if_false, List.getLast?_concat, List.dropLast_concat]
  rfl
/-- a list comprehension -/
theorem n_comp {tg iter elt : Expr} {ifs : List Expr} {sc' : Scope} {r : List PyData} (hb : (blkC c.N sc sc' (ownOf c.N sc') && tgtIn c.N ((ownOf c.N sc').map (·.2)) 8 tg && noSet iter && decide (ifs.length ≤ 1)) = true) (h : evIter (fun e => evE c n sc w e ρ) (bltn c sc) tg iter = .ok ds) (hl : ds.length ≤ 100000)
    (hm : mapD (turnD (fun d => tgt c sc' 8 tg d (wipeE ρ ((ownOf c.N sc').map (·.2)))) ifs (fun e => evT c n sc' e) (fun ρ' => evE c n sc' w elt ρ')) ds = .ok r) : evN c (n + 1) sc w (.ListComp elt [⟨tg, iter, ifs, 0⟩] sc' p) ρ = .ok r := by
  have e : evN c (n + 1) sc w (.ListComp elt [⟨tg, iter, ifs, 0⟩] sc' p) ρ = if (blkC c.N sc sc' (ownOf c.N sc') && tgtIn c.N ((ownOf c.N sc').map (·.2)) 8 tg && noSet iter && decide (ifs.length ≤ 1)) = true then
        (evIter (fun e => evE c n sc w e ρ) (bltn c sc) tg iter).bind fun ds => if ds.length ≤ 100000 then
          mapD (turnD (fun d => tgt c sc' 8 tg d (wipeE ρ ((ownOf c.N sc').map (·.2)))) ifs (fun e => evT c n sc' e) (fun ρ' => evE c n sc' w elt ρ')) ds else .no
      else .no := rfl
  rw [e, if_pos hb, h]
  show (if ds.length ≤ 100000 then _ else _) = _
  rw [if_pos hl, hm]
theorem wh_t {t : En → Rs Bool} {g : En → Rs Fl} {ρ ρ' : En} (h : t ρ = .ok true) (k : g ρ = .ok (.nx ρ')) : whD t g (m + 1) ρ = whD t g m ρ' := by
  rw [whD, h]
  show ((g ρ).bind _) = _
  rw [k]
  rfl
theorem wh_f {t : En → Rs Bool} {g : En → Rs Fl} {ρ : En} (h : t ρ = .ok false) : whD t g (m + 1) ρ = .ok (.nx ρ) := by
  rw [whD, h]
  rfl
theorem for_c {g : PyData → En → Option En} {b : En → Rs Fl} {ρ1 ρ2 : En} (h : g d ρ = some ρ1) (k : b ρ1 = .ok (.nx ρ2)) : forD g b (d :: ds) ρ = forD g b ds ρ2 := by
  rw [forD, h]
  show ((b ρ1).bind _) = _
  rw [k]
  rfl
theorem for_rt {g : PyData → En → Option En} {b : En → Rs Fl} {ρ1 : En} {r : PyData} (h : g d ρ = some ρ1) (k : b ρ1 = .ok (.rt r)) : forD g b (d :: ds) ρ = .ok (.rt r) := by
  rw [forD, h]
  show ((b ρ1).bind _) = _
  rw [k]
  rfl
end
end PY

set_option Elab.async false
set_option linter.all false
set_option maxRecDepth 100000
set_option maxHeartbeats 4000000
/-! Reckonings with draws: a source of numbers stands in a slot of which no datum is told. -/
namespace PY
open PySem PySem.Spec PyProof.Rows L2 DK DD
/-- as Rel, and the source at s (its cells at cc) has given at most n numbers; Hs: the heap at the beginning -/
structure XRel (c : Cn) (K : PySem.W.Frag) (s cc : Addr) (Hs : Hp) (M0 M : List Addr) (σ : L2.St) (H : Hp) (ρ : En) (n : Nat) : Prop where
  sM : s ∈ M0
  cM : cc ∈ M0
  sl : ∃ i, c.fx = some (i, .ref s) ∧ ρ[i]? = some none
  R : ∃ H0, ExM [s, cc] Hs H0 ∧ Src H0 s cc n ∧ Rel c K H0 M0 M σ H ρ
section
variable {c : Cn} {K : PySem.W.Frag} {s cc : Addr} {Hs H H1 H0 : Hp} {M0 M : List Addr} {σ : L2.St} {ρ : En} {n n1 : Nat}
theorem XRel.S (h : XRel c K s cc Hs M0 M σ H ρ n) : Src H s cc n := by
  obtain ⟨H0, _, h2, R⟩ := h.R
  exact h2.ex1 R.ext
theorem XRel.dom (h : XRel c K s cc Hs M0 M σ H ρ n) (b : Bool) : Dom (lv M0 M b) H := by
  obtain ⟨H0, _, _, R⟩ := h.R
  exact R.cxt.dom b
theorem XRel.mem (h : XRel c K s cc Hs M0 M σ H ρ n) (b : Bool) : ∀ m, m ∈ [s, cc] → m ∈ lv M0 M b := fun m hm => by
  obtain ⟨H0, _, _, R⟩ := h.R
  have hm0 : m ∈ M0 := by
    simp only [List.mem_cons, List.not_mem_nil, or_false] at hm
    rcases hm with rfl | rfl
    · exact h.sM
    · exact h.cM
  cases b with
  | true => exact hm0
  | false => exact R.sub m hm0
theorem Rel.go (R : Rel c K H0 M0 M σ H ρ) (sM : s ∈ M0) (cM : cc ∈ M0) (e : ExM [s, cc] H H1) (S : Src H1 s cc n1) : ∃ H0', ExM [s, cc] H0 H0' ∧ Src H0' s cc n1 ∧ Rel c K H0' M0 M σ H1 ρ ∧ ∀ a, a ∉ [s, cc] → H0' a = H0 a := by
  obtain ⟨hne, ks, t, e1, e2, e3⟩ := S
  have S' : Src H1 s cc n1 := ⟨hne, ks, t, e1, e2, e3⟩
  have cases2 : ∀ a, a ∈ [s, cc] ↔ (a = s ∨ a = cc) := fun a => by simp
  have eM : ExM M H H1 := e.sub fun m hm => by
    rcases (cases2 m).mp hm with rfl | rfl
    · exact R.sub _ sM
    · exact R.sub _ cM
  obtain ⟨G, off, on⟩ : ∃ G : Hp, (∀ a, ¬ (a = s ∨ a = cc) → G a = H0 a) ∧ (∀ a, (a = s ∨ a = cc) → G a = H1 a) := ⟨fun a => if a = s ∨ a = cc then H1 a else H0 a, fun a z => if_neg z, fun a z => if_pos z⟩
  refine ⟨G, fun a o na h => ?_, ⟨hne, ks, t, ?_, ?_, e3⟩, ⟨R.ls, R.lr, fun a o h => ?_, fun a ha => ?_, fun a ha => ?_, R.sub, fun i x d h1 h2 h3 => ?_, fun i x d h1 h2 h3 => ?_, R.inj, R.fixO, R.fix⟩, fun a na => off a fun z => na ((cases2 a).mpr z)⟩
  · rw [off a fun z => na ((cases2 a).mpr z)]
    exact h
  · rw [on s (.inl rfl)]
    exact e1
  · rw [on cc (.inr rfl)]
    exact e2
  · by_cases z : a = s ∨ a = cc
    · have h' : H1 a = some o := by rw [← on a z]; exact h
      exact h'
    · have h' : H0 a = some o := by rw [← off a z]; exact h
      exact e a o (fun q => z ((cases2 a).mp q)) (R.ext a o h')
  · by_cases z : a = s ∨ a = cc
    · rw [on a z]
      rcases z with rfl | rfl
      · rw [e1]; exact fun q => nomatch q
      · rw [e2]; exact fun q => nomatch q
    · rw [off a z]
      exact R.d0 a ha
  · exact R.dom.exM e S' a ha
  · obtain ⟨v, k1, k2⟩ := R.rd i x d h1 h2 h3
    exact ⟨v, k1, rm eM k2⟩
  · obtain ⟨p, vs, ds, k1, k2, k3, k4, k5, k6⟩ := R.own i x d h1 h2 h3
    have np : ¬ (p = s ∨ p = cc) := fun z => by
      rcases z with rfl | rfl
      · exact R.d0 _ sM k4
      · exact R.d0 _ cM k4
    exact ⟨p, vs, ds, k1, k2, k3, by rw [off p np]; exact k4, e p _ (fun q => np ((cases2 p).mp q)) k5, rms eM k6⟩
theorem XRel.go (h : XRel c K s cc Hs M0 M σ H ρ n) (e : ExM [s, cc] H H1) (S : Src H1 s cc n1) : XRel c K s cc Hs M0 M σ H1 ρ n1 := by
  obtain ⟨H0, h1, h2, R⟩ := h.R
  obtain ⟨H0', k1, k2, R', _⟩ := R.go h.sM h.cM e S
  exact ⟨h.sM, h.cM, h.sl, H0', h1.trans k1, k2, R'⟩
end
/-- a def that draws: what it asks, and what may come of it -/
def spD (K : PySem.W.Frag) (pr : List PyData → Nat → Prop) (po : List PyData → Nat → PyData → Nat → Prop) : Sp := fun vs H Q _ => ∃ (s cc : Addr) (M : List Addr) (us : List V) (ds : List PyData) (n : Nat), vs = .ref s :: us ∧ Src H s cc n ∧ s ∈ M ∧ cc ∈ M ∧ Dom M H ∧ RvA K (mi H M) us ds ∧ pr ds n ∧
  ∀ d n1 v H1, po ds n d n1 → ExM [s, cc] H H1 → Src H1 s cc n1 → Rv K (mi H1 M) v d → Q v H1
/-- a def that draws, as it stands -/
structure Dr (P : Program) (w : World) (K : PySem.W.Frag) (mg : Str → Option Value) (base : Heap) (k : Nat) (f : Str) (pr : List PyData → Nat → Prop) (po : List PyData → Nat → PyData → Nat → Prop) : Prop where
  ex : ∃ (kf : Nat) (fa : Addr) (fd : FuncData) (ps : List Str), kf ≤ k ∧ mg f = some (.ref fa) ∧ PySem.W.keepIn K (.ref fa) = true ∧ Binds K fd ps [] ∧ (FnOk P w K mg base CX0 kf fa fd ps (spD K pr po) ∨ FnOk P w K mg base (CX P w) kf fa fd ps (spD K pr po))
theorem Dr.mono {P : Program} {w : World} {K : PySem.W.Frag} {mg : Str → Option Value} {base : Heap} {k k' : Nat} {f : Str} {pr : List PyData → Nat → Prop} {po : List PyData → Nat → PyData → Nat → Prop} (h : Dr P w K mg base k f pr po) (l : k ≤ k') : Dr P w K mg base k' f pr po := by
  obtain ⟨kf, fa, fd, ps, h1, h2⟩ := h.ex
  exact ⟨kf, fa, fd, ps, Nat.le_trans h1 l, h2⟩
section
variable (P : Program) (w : World) (K : PySem.W.Frag) (mg : Str → Option Value) (base : Heap) (k : Nat) (c : Cn) (sc : Scope) (W : WX) (s cc : Addr)
/-- whatever is drawn, an outcome d, behind n1 numbers, is one of S; b: own lists may be read -/
def XE (b : Bool) (e : Expr) (ρ : En) (n : Nat) (S : PyData → Nat → Prop) : Prop :=
  ∀ Hs M0 M σ H, XRel c K s cc Hs M0 M σ H ρ n → ∀ Q : VK, (∀ d n1 v H1, S d n1 → ExM [s, cc] H H1 → Src H1 s cc n1 → Rv K (mi H1 (lv M0 M b)) v d → Q v H1) → tB P w K mg base k c.N sc W e σ H Q
/-- a new list -/
def XN (b : Bool) (e : Expr) (ρ : En) (n : Nat) (S : List PyData → Nat → Prop) : Prop :=
  ∀ Hs M0 M σ H, XRel c K s cc Hs M0 M σ H ρ n → ∀ Q : VK, (∀ ds n1 p vs H1, S ds n1 → H p = none → ExM [s, cc] H H1 → Src H1 s cc n1 → H1 p = some (.lst vs) → RvA K (mi H1 (p :: lv M0 M b)) vs ds → Q (.ref p) H1) → tB P w K mg base k c.N sc W e σ H Q
def XT (e : Expr) (ρ : En) (n : Nat) (S : Bool → Nat → Prop) : Prop :=
  ∀ Hs M0 M σ H, XRel c K s cc Hs M0 M σ H ρ n → ∀ Q : Bool → Hp → Prop, (∀ t n1 H1, S t n1 → ExM [s, cc] H H1 → Src H1 s cc n1 → Q t H1) → tBT P w K mg base k c.N sc W e σ H Q
def XA (b : Bool) (es : List Expr) (ρ : En) (n : Nat) (S : List PyData → Nat → Prop) : Prop :=
  ∀ Hs M0 M σ H, XRel c K s cc Hs M0 M σ H ρ n → ∀ Q : List V → Hp → Prop, (∀ ds n1 vs H1, S ds n1 → ExM [s, cc] H H1 → Src H1 s cc n1 → RvA K (mi H1 (lv M0 M b)) vs ds → Q vs H1) → tBA P w K mg base k c.N sc W es σ H Q
/-- what is walked -/
def XI (b : Bool) (tg e : Expr) (ρ : En) (n : Nat) (S : List PyData → Nat → Prop) : Prop :=
  ∀ Hs M0 M σ H, XRel c K s cc Hs M0 M σ H ρ n → ∀ Q : It → Hp → Prop, (∀ ds n1 J H1, S ds n1 → ExM [s, cc] H H1 → Src H1 s cc n1 → WalkD K (lv M0 M b) J H1 ds → Q J H1) → tBI P w K mg base k c.N sc W tg e σ H Q
end
section
variable {P : Program} {w : World} {K : PySem.W.Frag} {mg : Str → Option Value} {base : Heap} {k : Nat} {cl : Nat → Addr} {c : Cn} {sc : Scope} {W : WX} {s cc : Addr}
variable {e a b1 : Expr} {es : List Expr} {ρ : En} {n m : Nat} {S : PyData → Nat → Prop} {SL : List PyData → Nat → Prop} {ST : Bool → Nat → Prop} {b : Bool} {pos p p1 p2 : Pos} {d : PyData} {ds : List PyData}
theorem fwd {L : List Addr} {H H1 : Hp} {v : V} {d : PyData} (h : ∀ m, m ∈ [s, cc] → m ∈ L) (e : ExM [s, cc] H H1) (r : Rv K (mi H L) v d) : Rv K (mi H1 L) v d := rm (e.sub h) r
theorem fwds {L : List Addr} {H H1 : Hp} {vs : List V} {ds : List PyData} (h : ∀ m, m ∈ [s, cc] → m ∈ L) (e : ExM [s, cc] H H1) (r : RvA K (mi H L) vs ds) : RvA K (mi H1 L) vs ds := rms (e.sub h) r
/-! without draws -/
theorem xe_p (mm : Mdl P w K mg base k cl c) (h : evE c m sc b e ρ = .ok d) (q : S d n) : XE P w K mg base k c sc W s cc b e ρ n S := fun Hs M0 M σ H R Q q' => by
  obtain ⟨H0, _, h2, R0⟩ := R.R
  have z := (ev_ok (cl := cl) mm m).1 sc W (lv M0 M) σ H ρ R0.cxt b e H (Evl.Ex.refl _) Q
  rw [h] at z
  exact z fun v H2 x hv => q' d n v H2 q (ExM.of x) (R.S.ex1 x) hv
theorem xn_p (mm : Mdl P w K mg base k cl c) (h : evN c m sc b e ρ = .ok ds) (q : SL ds n) : XN P w K mg base k c sc W s cc b e ρ n SL := fun Hs M0 M σ H R Q q' => by
  obtain ⟨H0, _, h2, R0⟩ := R.R
  have z := (ev_ok (cl := cl) mm m).2.1 sc W (lv M0 M) σ H ρ R0.cxt b e H (Evl.Ex.refl _) Q
  rw [h] at z
  exact z fun p vs H2 hn x hp hv => q' ds n p vs H2 q hn (ExM.of x) (R.S.ex1 x) hp hv
theorem xt_p {t : Bool} (mm : Mdl P w K mg base k cl c) (h : evT c m sc e ρ = .ok t) (q : ST t n) : XT P w K mg base k c sc W s cc e ρ n ST := fun Hs M0 M σ H R Q q' => by
  obtain ⟨H0, _, h2, R0⟩ := R.R
  have z := (ev_ok (cl := cl) mm m).2.2 sc W (lv M0 M) σ H ρ R0.cxt e H (Evl.Ex.refl _) Q
  rw [h] at z
  exact z fun H2 x => q' t n H2 q (ExM.of x) (R.S.ex1 x)
theorem xi_p {tg : Expr} (mm : Mdl P w K mg base k cl c) (h : evIter (fun e => evE c m sc b e ρ) (bltn c sc) tg e = .ok ds) (q : SL ds n) : XI P w K mg base k c sc W s cc b tg e ρ n SL := fun Hs M0 M σ H R Q q' => by
  obtain ⟨H0, _, h2, R0⟩ := R.R
  have z := ok_iter (cl := cl) (sc := sc) (W := W) (L := lv M0 M b) (σ := σ) (H := H) mm (fun e => (ev_ok (cl := cl) mm m).1 sc W (lv M0 M) σ H ρ R0.cxt b e) tg e H (Evl.Ex.refl _) Q
  rw [h] at z
  exact z fun J H2 x hw => q' ds n J H2 q (ExM.of x) (R.S.ex1 x) hw
/-- a new list as a datum -/
theorem xe_n (h : XN P w K mg base k c sc W s cc b e ρ n fun ds n1 => S (.list ds) n1) : XE P w K mg base k c sc W s cc b e ρ n S := fun Hs M0 M σ H R Q q =>
  h Hs M0 M σ H R Q fun ds n1 p vs H1 hs hn x S1 hp hv => q _ n1 _ H1 hs x S1 (.lst (mi_of ((R.dom b).nin hn) hp) (rlesss (fun m hm => List.mem_cons_of_mem _ hm) hv))
/-! arguments -/
theorem xa_nil (q : SL [] n) : XA P w K mg base k c sc W s cc b [] ρ n SL := fun Hs M0 M σ H R Q q' => ⟨tNil, fun X g => pa_nil, q' [] n [] H q (ExM.refl _ _) R.S .nil⟩
theorem xa_cons (hs : noStar e = true) (h : XE P w K mg base k c sc W s cc b e ρ n fun d n1 => XA P w K mg base k c sc W s cc b es ρ n1 fun ds n2 => SL (d :: ds) n2) : XA P w K mg base k c sc W s cc b (e :: es) ρ n SL := fun Hs M0 M σ H R Q q => by
  refine ⟨tCons (tB P w K mg base k c.N sc W e) (tBA P w K mg base k c.N sc W es), fun X g => pa_cons (be g e) (ba g es) (star1 hs), ?_⟩
  refine h Hs M0 M σ H R _ fun d n1 v H1 h1 x1 S1 hv => ?_
  refine h1 Hs M0 M σ H1 (R.go x1 S1) _ fun ds n2 vs H2 h2 x2 S2 hvs => ?_
  exact q _ n2 _ H2 h2 (x1.trans x2) S2 (.cons (fwd (R.mem b) x2 hv) hvs)
/-! operators -/
/-- the best rule of an operator -/
def rB (P : Program) (w : World) (K : PySem.W.Frag) (mg : Str → Option Value) (base : Heap) (k : Nat) (N : List Str) (sc : Scope) (W : WX) (f : Value → Value → Sem Value) : R2 := fun x y H Q => ∃ r : R2, (∀ X, Good P w K mg base k N sc W X → OpR X f r) ∧ r x y H Q
theorem rb {X : Cx} {N : List Str} {f : Value → Value → Sem Value} (g : Good P w K mg base k N sc W X) : OpR X f (rB P w K mg base k N sc W f) := fun pins s σ H x y v u Q I rx ry ⟨r, hr, q⟩ => hr X g pins s σ H x y v u Q I rx ry q
theorem xe_bin {op : Operator} (h : XE P w K mg base k c sc W s cc b a ρ n fun d1 n1 => XE P w K mg base k c sc W s cc b b1 ρ n1 fun d2 n2 => ∃ d, (match lop op d1 d2 with
      | .ok ds => Rs.ok (PyData.list ds)
      | _ => bop op d1 d2) = .ok d ∧ S d n2) : XE P w K mg base k c sc W s cc b (.BinOp a op b1 pos) ρ n S := fun Hs M0 M σ H R Q q => by
  refine ⟨tOp (rB P w K mg base k c.N sc W (binaryOp op)) (tB P w K mg base k c.N sc W a) (tB P w K mg base k c.N sc W b1), fun X g => pe_op (rb g) (be g a) (be g b1), ?_⟩
  refine h Hs M0 M σ H R _ fun d1 n1 v1 H1 h1 x1 S1 hv1 => ?_
  have R1 := R.go x1 S1
  refine h1 Hs M0 M σ H1 R1 _ fun d2 n2 v2 H2 h2 x2 S2 hv2 => ?_
  obtain ⟨d, hd, hS⟩ := h2
  have R2 := R1.go x2 S2
  have hv1' := fwd (R.mem b) x2 hv1
  cases hz : lop op d1 d2 with
  | ok ds =>
    rw [hz] at hd
    cases hd
    obtain ⟨r, hr, hs⟩ := lop_ok (P := P) (w := w) (K := K) (mg := mg) (base := base) (k := k) (N := c.N) (sc := sc) (W := W) (L := lv M0 M b) hz
    exact ⟨r, hr, hs v1 v2 H2 hv1' hv2 Q fun p vs H3 hn x3 hp hv3 => q _ n2 _ H3 hS ((x1.trans x2).trans (ExM.of x3)) (S2.ex1 x3) (.lst (mi_of ((R2.dom b).nin hn) hp) (rlesss (fun m hm => List.mem_cons_of_mem _ hm) hv3))⟩
  | er i => exact absurd hz lop_er
  | no =>
    rw [hz] at hd
    have hd' : bop op d1 d2 = .ok d := hd
    obtain ⟨r, d', e', hr, hs⟩ := bop_ok (P := P) (w := w) (K := K) (mg := mg) (base := base) (k := k) (N := c.N) (sc := sc) (W := W) (L := lv M0 M b) (R2.dom b) (op := op) (d1 := d1) (d2 := d2) (by rw [hd']; exact fun z => nomatch z)
    rw [hd'] at e'
    cases e'
    exact ⟨r, hr, hs v1 v2 H2 (Evl.Ex.refl _) hv1' hv2 Q fun v H3 x3 hv3 => q _ n2 v H3 hS ((x1.trans x2).trans (ExM.of x3)) (S2.ex1 x3) hv3⟩
theorem xt_cmp {op : CmpOp} (hn : noSet b1 = true) (h : XE P w K mg base k c sc W s cc true a ρ n fun d1 n1 => XE P w K mg base k c sc W s cc true b1 ρ n1 fun d2 n2 => ∃ t, cmp op d1 d2 = .ok t ∧ ST t n2) : XT P w K mg base k c sc W s cc (.Compare a [op] [b1] pos) ρ n ST := fun Hs M0 M σ H R Q q => by
  refine ⟨tTest (tOp (rB P w K mg base k c.N sc W (compareOp op)) (tB P w K mg base k c.N sc W a) (tB P w K mg base k c.N sc W b1)), fun X g => pt_cmpR (rb g) (be g a) (be g b1) (noSet_marks hn), ?_⟩
  refine h Hs M0 M σ H R _ fun d1 n1 v1 H1 h1 x1 S1 hv1 => ?_
  have R1 := R.go x1 S1
  refine h1 Hs M0 M σ H1 R1 _ fun d2 n2 v2 H2 h2 x2 S2 hv2 => ?_
  obtain ⟨t, ht, hS⟩ := h2
  obtain ⟨t', e', r, hr, hs⟩ := cmp_ok (P := P) (w := w) (K := K) (mg := mg) (base := base) (k := k) (N := c.N) (sc := sc) (W := W) (op := op) (d1 := d1) (d2 := d2) (by rw [ht]; exact fun z => nomatch z)
  rw [ht] at e'
  cases e'
  exact ⟨r, hr, hs v1 v2 H2 (rfull (fwd (R.mem true) x2 hv1)) (rfull hv2) _ ⟨t, rfl, q t n2 H2 hS (x1.trans x2) S2⟩⟩
theorem xt_not (h : XT P w K mg base k c sc W s cc a ρ n fun t n1 => ST (!t) n1) : XT P w K mg base k c sc W s cc (.UnaryOp .Not a pos) ρ n ST := fun Hs M0 M σ H R Q q =>
  ⟨_, fun X g => pt_not (bt g a), h Hs M0 M σ H R _ fun t n1 H1 h1 x1 S1 => q _ n1 H1 h1 x1 S1⟩
/-! displays, calls -/
theorem xe_tup {kk : Nat} (h : XA P w K mg base k c sc W s cc b es ρ n fun ds n1 => ds.length ≤ 1000 ∧ S (.tuple ds) n1) : XE P w K mg base k c sc W s cc b (.Tuple es kk pos) ρ n S := fun Hs M0 M σ H R Q q => by
  refine ⟨tTup (tBA P w K mg base k c.N sc W es), fun X g => pe_tup (ba g es), ?_⟩
  refine h Hs M0 M σ H R _ fun ds n1 vs H1 h1 x1 S1 hv => ?_
  have hl2 := ra_len hv
  have R1 := R.go x1 S1
  exact ⟨Evl.sz_of (by omega), fun p hp => q _ n1 _ _ h1.2 (x1.trans (ExM.new hp)) (S1.new hp) (.tup (mi_of ((R1.dom b).nin hp) upd_same) (res (Evl.Ex.new hp) hv))⟩
theorem xn_lst (h : XA P w K mg base k c sc W s cc b es ρ n fun ds n1 => ds.length ≤ 1000 ∧ SL ds n1) : XN P w K mg base k c sc W s cc b (.List es pos) ρ n SL := fun Hs M0 M σ H R Q q => by
  refine ⟨tLst (tBA P w K mg base k c.N sc W es), fun X g => pe_lst (ba g es), ?_⟩
  refine h Hs M0 M σ H R _ fun ds n1 vs H1 h1 x1 S1 hv => ?_
  have hl2 := ra_len hv
  have hb : ∀ p, H1 p = none → H p = none := fun p hp => by
    cases hz : H p with
    | none => rfl
    | some o =>
      have np : p ∉ [s, cc] := fun m => by
        obtain ⟨z1, z2⟩ := S1.nes' hp
        simp only [List.mem_cons, List.not_mem_nil, or_false] at m
        rcases m with m | m
        · exact z1 m
        · exact z2 m
      rw [x1 p o np hz] at hp
      cases hp
  exact ⟨Evl.sz_of (by omega), fun p hp => q _ n1 p vs _ h1.2 (hb p hp) (x1.trans (ExM.new hp)) (S1.new hp) upd_same (res (Evl.Ex.new hp) (radds hp hv))⟩
/-- a drawing def is called: f(source, ..) -/
theorem xe_call {f x : Str} {i : Nat} {pr : List PyData → Nat → Prop} {po : List PyData → Nat → PyData → Nat → Prop} (D : Dr P w K mg base k f pr po) (hn : nmOf c.N sc f = .glob) (hx : nmOf c.N sc x = .slot i) (hi : c.fx = some (i, .ref s)) (hs : es.all noStar = true)
    (h : XA P w K mg base k c sc W s cc b es ρ n fun ds n1 => pr ds n1 ∧ ∀ d n2, po ds n1 d n2 → S d n2) : XE P w K mg base k c sc W s cc b (.Call (.Name f p) (.Name x p1 :: es) [] pos) ρ n S := fun Hs M0 M σ H R Q q => by
  obtain ⟨kf, fa, fd, ps, hk, hm, hkp, hb, F⟩ := D.ex
  obtain ⟨g1, g2⟩ := nm_glob hn
  have pa : ∀ X, Good P w K mg base k c.N sc W X → PA X (.Name x p1 :: es) (tCons (tVar i) (tBA P w K mg base k c.N sc W es)) := fun X g => pa_cons (pvar hx g) (ba g es) rfl
  have hσ : σ[i]? = some (some (.ref s)) := by
    obtain ⟨i', h1, h2⟩ := R.sl
    obtain ⟨H0, _, _, R0⟩ := R.R
    rw [hi] at h1
    cases h1
    exact R0.fix i _ hi h2
  have run : (tCons (tVar i) (tBA P w K mg base k c.N sc W es)) σ H fun vs H1 => spD K pr po vs H1 Q E0 := by
    refine ⟨_, hσ, ?_⟩
    refine h Hs M0 M σ H R _ fun ds n1 vs H1 h1 x1 S1 hv => ?_
    have R1 := R.go x1 S1
    exact ⟨s, cc, lv M0 M b, vs, ds, n1, rfl, S1, R.mem b s (by simp), R.mem b cc (by simp), R1.dom b, hv, h1.1, fun d n2 v H2 hp x2 S2 hv2 => q d n2 v H2 (h1.2 d n2 hp) (x1.trans x2) S2 hv2⟩
  have hs2 : ((Expr.Name x p1) :: es).all noStar = true := by rw [List.all_cons, hs] <;> rfl
  rcases F with F | F
  · refine ⟨tCall (spD K pr po) [] E0 (tCons (tVar i) (tBA P w K mg base k c.N sc W es)), fun X g => ?_, ?_⟩
    · have hP := g.eP
      have hw := g.ew
      have hK := g.eK
      have hm' := g.em
      have hb' := g.eb
      exact pe_call (CX := CX0) (k := kf) (by rw [hP, hw, hK, hm', hb']; exact F) (g.room.mono hk) (g.gl g1) (by rw [hm']; exact hm) (by rw [hK]; exact hkp) (by rw [hK]; exact hb) .nil pass0 (pa X g) g2 rfl (star_all hs)
    · show (tCons (tVar i) (tBA P w K mg base k c.N sc W es)) σ H fun vs H1 => spD K pr po (vs ++ []) H1 Q E0
      simp only [List.append_nil]
      exact run
  · refine ⟨tCall (spD K pr po) [] E0 (tCons (tVar i) (tBA P w K mg base k c.N sc W es)), fun X g => ?_, ?_⟩
    · have hP := g.eP
      have hw := g.ew
      have hK := g.eK
      have hm' := g.em
      have hb' := g.eb
      exact pe_call (CX := CX P w) (k := kf) (by rw [hP, hw, hK, hm', hb']; exact F) (g.room.mono hk) (g.gl g1) (by rw [hm']; exact hm) (by rw [hK]; exact hkp) (by rw [hK]; exact hb) .nil (by rw [← hP, ← hw]; exact passL) (pa X g) g2 rfl (star_all hs)
    · show (tCons (tVar i) (tBA P w K mg base k c.N sc W es)) σ H fun vs H1 => spD K pr po (vs ++ []) H1 Q E0
      simp only [List.append_nil]
      exact run
end
end PY

set_option Elab.async false
set_option linter.all false
set_option maxRecDepth 100000
set_option maxHeartbeats 4000000
/-! Reckonings with draws: comprehensions. -/
namespace PY
open PySem PySem.Spec PyProof.Rows L2 DK DD
section
variable {c : Cn} {K : PySem.W.Frag} {s cc D : Addr} {Hs H H1 H0 : Hp} {M0 M : List Addr} {σ : L2.St} {ρ : En} {n n1 : Nat} {o : HO}
/-- D is no own list's -/
def NoOwn (c : Cn) (ρ : En) (σ : L2.St) (D : Addr) : Prop := ∀ (i : Nat) (x : Str) (d : PyData) (p : Addr), c.N[i]? = some x → c.isOwn x = true → ρ[i]? = some (some d) → σ[i]? = some (some (.ref p)) → p ≠ D
theorem Rel.noOwn (R : Rel c K H0 M0 M σ H ρ) (h : H D = none) : NoOwn c ρ σ D := fun i x d p h1 h2 h3 h4 z => by
  obtain ⟨q, vs, ds, _, k2, k3, _⟩ := R.own i x d h1 h2 h3
  rw [h4] at k2
  cases k2
  subst z
  exact R.dom.nin h k3
theorem Rel.fresh (R : Rel c K H0 M0 M σ H ρ) (h : H D = none) : Rel c K H0 M0 (D :: M) σ (upd H D o) ρ := by
  have e : Evl.Ex H (upd H D o) := Evl.Ex.new h
  exact ⟨R.ls, R.lr, R.ext.trans e, R.d0, (R.dom.ex e).cons (by rw [upd_same]; exact fun z => nomatch z), fun a ha => List.mem_cons_of_mem _ (R.sub a ha),
    fun i x d h1 h2 h3 => let ⟨v, k1, k2⟩ := R.rd i x d h1 h2 h3; ⟨v, k1, re e (radd h k2)⟩,
    fun i x d h1 h2 h3 => let ⟨p, vs, ds, k1, k2, k3, k4, k5, k6⟩ := R.own i x d h1 h2 h3; ⟨p, vs, ds, k1, k2, List.mem_cons_of_mem _ k3, k4, e _ _ k5, res e (radds h k6)⟩, R.inj, R.fixO, R.fix⟩
theorem Rel.touch (R : Rel c K H0 M0 M σ H ρ) (hD : D ∈ M) (h0 : H0 D = none) (hN : NoOwn c ρ σ D) : Rel c K H0 M0 M σ (upd H D o) ρ := by
  have eM : ExM M H (upd H D o) := ExM.mut hD
  refine ⟨R.ls, R.lr, fun a u h => ?_, R.d0, fun m hm => ?_, R.sub, fun i x d h1 h2 h3 => ?_, fun i x d h1 h2 h3 => ?_, R.inj, R.fixO, R.fix⟩
  · have ne : a ≠ D := fun z => by
      rw [z, h0] at h
      cases h
    rw [upd_ne ne]
    exact R.ext a u h
  · by_cases z : m = D
    · rw [z, upd_same]
      exact fun z => nomatch z
    · rw [upd_ne z]
      exact R.dom m hm
  · obtain ⟨v, k1, k2⟩ := R.rd i x d h1 h2 h3
    exact ⟨v, k1, rm eM k2⟩
  · obtain ⟨p, vs, ds, k1, k2, k3, k4, k5, k6⟩ := R.own i x d h1 h2 h3
    exact ⟨p, vs, ds, k1, k2, k3, k4, by rw [upd_ne (hN i x d p h1 h2 h3 k2)]; exact k5, rms eM k6⟩
theorem Rel.lift (R : Rel c K H0 M0 M σ H ρ) (hD : D ∈ M) (hN : NoOwn c ρ σ D) : ∃ H0', Rel c K H0' (D :: M0) M σ H ρ ∧ ∀ a, a ≠ D → H0' a = H0 a := by
  obtain ⟨G, g1, g2⟩ : ∃ G : Hp, G D = H D ∧ ∀ a, a ≠ D → G a = H0 a := ⟨fun a => if a = D then H D else H0 a, if_pos rfl, fun a z => if_neg z⟩
  refine ⟨G, ⟨R.ls, R.lr, fun a u h => ?_, fun a ha => ?_, R.dom, fun a ha => ?_, R.rd, fun i x d h1 h2 h3 => ?_, R.inj, R.fixO, R.fix⟩, g2⟩
  · by_cases z : a = D
    · rw [z, g1] at h
      rw [z]
      exact h
    · rw [g2 a z] at h
      exact R.ext a u h
  · by_cases z : a = D
    · rw [z, g1]
      exact R.dom D hD
    · rw [g2 a z]
      exact R.d0 a ((List.mem_cons.mp ha).resolve_left z)
  · rcases List.mem_cons.mp ha with rfl | ha
    · exact hD
    · exact R.sub a ha
  · obtain ⟨p, vs, ds, k1, k2, k3, k4, k5, k6⟩ := R.own i x d h1 h2 h3
    exact ⟨p, vs, ds, k1, k2, k3, by rw [g2 p (hN i x d p h1 h2 h3 k2)]; exact k4, k5, k6⟩
theorem Rel.un {i : Nat} (R : Rel c K H0 M0 M σ H ρ) (hi : ∀ x, c.N[i]? = some x → c.isOwn x = false) : Rel c K H0 M0 M (σ.set i none) H (ρ.set i none) := by
  have other : ∀ (j : Nat) (y : Str), c.N[j]? = some y → c.isOwn y = true → i ≠ j := fun j y h1 h2 z => by
    subst z
    rw [hi y h1] at h2
    cases h2
  have get : ∀ (j : Nat) (d : PyData), (ρ.set i none)[j]? = some (some d) → i ≠ j := fun j d h z => by
    subst z
    rw [List.getElem?_set] at h
    split at h
    · split at h <;> cases h
    · rename_i h'
      exact h' rfl
  refine ⟨by rw [List.length_set, R.ls], by rw [List.length_set, R.lr], R.ext, R.d0, R.dom, R.sub, fun j y d h1 h2 h3 => ?_, fun j y d h1 h2 h3 => ?_, fun j l y z d1 d2 q h1 h2 h3 h4 h5 h6 h7 h8 => ?_, R.fixO, fun j v h1 h2 => ?_⟩
  · have ne := get j d h3
    rw [List.getElem?_set_ne ne] at h3 ⊢
    exact R.rd j y d h1 h2 h3
  · have ne := other j y h1 h2
    rw [List.getElem?_set_ne ne] at h3 ⊢
    exact R.own j y d h1 h2 h3
  · have e1 := other j y h1 h3
    have e2 := other l z h2 h4
    rw [List.getElem?_set_ne e1] at h5 h7
    rw [List.getElem?_set_ne e2] at h6 h8
    exact R.inj j l y z d1 d2 q h1 h2 h3 h4 h5 h6 h7 h8
  · obtain ⟨x, k1, k2⟩ := R.fixO j v h1
    have ne := other j x k1 k2
    rw [List.getElem?_set_ne ne] at h2 ⊢
    exact R.fix j v h1 h2
theorem Rel.wipe (R : Rel c K H0 M0 M σ H ρ) : ∀ {ws : List Nat}, (∀ i ∈ ws, ∀ x, c.N[i]? = some x → c.isOwn x = false) → Rel c K H0 M0 M (L2.wipe σ ws) H (wipeE ρ ws)
  | [], _ => R
  | i :: ws, h => (R.wipe fun j hj => h j (List.mem_cons_of_mem _ hj)).un (h i (by simp))
theorem wipe_own {i : Nat} : ∀ {ws : List Nat}, i ∉ ws → (wipeE ρ ws)[i]? = ρ[i]?
  | [], _ => rfl
  | j :: ws, h => by
    have h1 : j ≠ i := fun z => h (by simp [z])
    have h2 : i ∉ ws := fun z => h (List.mem_cons_of_mem _ z)
    show ((wipeE ρ ws).set j none)[i]? = _
    rw [List.getElem?_set_ne h1]
    exact wipe_own h2
theorem freshM {p : Addr} (e : ExM [s, cc] H H1) (S : Src H1 s cc n1) (h : H1 p = none) : H p = none := by
  cases hz : H p with
  | none => rfl
  | some o =>
    have np : p ∉ [s, cc] := fun m => by
      obtain ⟨z1, z2⟩ := S.nes' h
      simp only [List.mem_cons, List.not_mem_nil, or_false] at m
      rcases m with m | m
      · exact z1 m
      · exact z2 m
    rw [e p o np hz] at h
    cases h
end
section
variable {P : Program} {w : World} {K : PySem.W.Frag} {mg : Str → Option Value} {base : Heap} {k : Nat} {cl : Nat → Addr} {c : Cn} {sc : Scope} {W : WX} {s cc : Addr}
variable {σ : L2.St} {H H' H0 : Hp} {e tg : Expr} {ρ ρ' : En} {M M' M0 : List Addr}
theorem tgt2R {n : Nat} {d : PyData} {v : V} {Q : L2.St → Hp → Prop} (R : Rel c K H0 M0 M σ H ρ) (h : tgt c sc n e d ρ = some ρ') (hv : Rv K (mi H M) v d) (q : ∀ σ', Rel c K H0 M0 M σ' H ρ' → (∀ ws, tgtIn c.N ws n e = true → L2.wipe σ' ws = L2.wipe σ ws) → OwnSame c σ ρ σ' ρ' → Q σ' H) : tBG P w K mg base k c.N sc W e v σ H Q :=
  ok_tgt n h R.cxt hv Q fun σ' C' hw os => q σ' ⟨C'.ls, C'.lr, R.ext, R.d0, R.dom, R.sub, fun i x d' h1 h2 h3 => by
      obtain ⟨v', k1, k2⟩ := C'.rd i x d' h1 h3
      rw [h2] at k2
      exact ⟨v', k1, k2⟩,
    fun i x d' h1 h2 h3 => by
      obtain ⟨o1, o2⟩ := os i x h1 h2
      rw [o2] at h3
      rw [o1]
      exact R.own i x d' h1 h2 h3,
    fun i j x y d1 d2 p h1 h2 h3 h4 h5 h6 h7 h8 => by
      obtain ⟨o1, o2⟩ := os i x h1 h3
      obtain ⟨o3, o4⟩ := os j y h2 h4
      rw [o2] at h5
      rw [o1] at h7
      rw [o4] at h6
      rw [o3] at h8
      exact R.inj i j x y d1 d2 p h1 h2 h3 h4 h5 h6 h7 h8, R.fixO, fun i v' h1 h2 => by
      obtain ⟨x, h3, h4⟩ := R.fixO i v' h1
      obtain ⟨o1, o2⟩ := os i x h3 h4
      rw [o2] at h2
      rw [o1]
      exact R.fix i v' h1 h2⟩ hw os
/-- the reading of a comprehension whose turns may draw -/
def XLc (P : Program) (w : World) (K : PySem.W.Frag) (mg : Str → Option Value) (base : Heap) (k : Nat) (c : Cn) (sc : Scope) (W : WX) (s cc : Addr) (b : Bool) (elt tg iter : Expr) (sc' : Scope) (ρ : En) (n : Nat) (SL : List PyData → Nat → Prop) : Prop :=
  ∀ Hs M0 M σ H, XRel c K s cc Hs M0 M σ H ρ n → ∀ Q : VK, (∀ ds n1 p vs H1, SL ds n1 → H p = none → ExM [s, cc] H H1 → Src H1 s cc n1 → H1 p = some (.lst vs) → RvA K (mi H1 (p :: lv M0 M b)) vs ds → Q (.ref p) H1) →
    ∃ (own : List (Str × Nat)) (wi : TI) (g : TG) (tt : TT) (te : TE), noSet iter = true ∧ TLc P w K mg base k c.N sc W elt tg iter [] sc' own wi g tt te ∧ tLc wi g tt te (own.map (·.2)) σ H Q
theorem xc_run {b : Bool} {elt iter : Expr} {sc' : Scope} {n : Nat} {SL : List PyData → Nat → Prop} (hb : (blkC c.N sc sc' (ownOf c.N sc') && tgtIn c.N ((ownOf c.N sc').map (·.2)) 8 tg && noSet iter) = true)
    (hno : ((ownOf c.N sc').map (·.2)).all (fun i => match c.N[i]? with | some x => !c.isOwn x | none => true) = true)
    (h : XI P w K mg base k c sc W s cc false tg iter ρ n fun ds n1 => ds.length ≤ 100000 ∧ ∃ I : Nat → Nat → List PyData → Prop, I 0 n1 [] ∧
      (∀ i n2 acc d, ds[i]? = some d → I i n2 acc → ∃ ρ', tgt c sc' 8 tg d (wipeE ρ ((ownOf c.N sc').map (·.2))) = some ρ' ∧ XE P w K mg base k c sc' WF s cc b elt ρ' n2 fun y n3 => I (i + 1) n3 (acc ++ [y])) ∧ ∀ n2 acc, I ds.length n2 acc → SL acc n2) :
    XLc P w K mg base k c sc W s cc b elt tg iter sc' ρ n SL := fun Hs M0 M σ H R Q q => by
  rw [Bool.and_eq_true, Bool.and_eq_true] at hb
  obtain ⟨⟨hbk, htg⟩, hns⟩ := hb
  have hws : ∀ i ∈ (ownOf c.N sc').map (·.2), ∀ x, c.N[i]? = some x → c.isOwn x = false := fun i hi x hx => by
    have := List.all_eq_true.mp hno i hi
    rw [hx] at this
    simpa using this
  have hk : sc'.kind = .function := (blkOk_by hbk).kind
  refine ⟨ownOf c.N sc', tBI P w K mg base k c.N sc W tg iter, tBG P w K mg base k c.N sc' WF tg, tYes, tB P w K mg base k c.N sc' WF elt, hns, ⟨fun X g => bi g _ _, fun X g => g.bok hbk, fun X g s H C cl fp => bg (g.blk hk) _, fun X g s H C cl fp => pts_nil, fun X g s H C cl fp => be (g.blk hk) _⟩, ?_⟩
  refine h Hs M0 M σ H R _ fun ds n1 J H1 h1 x1 S1 wd D hD => ?_
  obtain ⟨hl, I, I0, Is, Id⟩ := h1
  have R1 := R.go x1 S1
  obtain ⟨H0, a1, a2, R1r⟩ := R1.R
  obtain ⟨nn, G, Y, wk, hn, hw⟩ := wd
  have hMsub : ∀ m ∈ D :: M, m ∈ lv M0 M false ∨ H1 m = none := fun m hm => by
    rcases List.mem_cons.mp hm with rfl | hm
    · exact .inr hD
    · exact .inl hm
  obtain ⟨hG, hY⟩ := hw (D :: M) hMsub
  have nD := S1.nes' hD
  have hN : NoOwn c ρ σ D := R1r.noOwn hD
  have h0D : H0 D = none := Evl.fresh_back R1r.ext hD
  have sD : D ∉ [s, cc] := fun m => by
    simp only [List.mem_cons, List.not_mem_nil, or_false] at m
    rcases m with m | m
    · exact nD.1 m
    · exact nD.2 m
  have sub : ∀ m, m ∈ [s, cc] → m ∈ D :: M := fun m hm => List.mem_cons_of_mem _ (R.mem false m hm)
  have subb : ∀ m, m ∈ [s, cc] → m ∈ D :: lv M0 M b := fun m hm => List.mem_cons_of_mem _ (R.mem b m hm)
  obtain ⟨is, hfx, hnone⟩ := R.sl
  refine lc_it wk (fun i H' => ExM [s, cc] H1 H' ∧ ∃ acc pre n2 H0', H' D = some (.lst acc) ∧ RvA K (mi H' (D :: lv M0 M b)) acc pre ∧ pre.length = i ∧ I i n2 pre ∧ Src H0' s cc n2 ∧ H0' D = none ∧ Rel c K H0' M0 (D :: M) σ H' ρ)
    ⟨ExM.new hD, [], [], n1, H0, upd_same, .nil, rfl, I0, a2, h0D, R1r.fresh hD⟩ (fun i H' _ p => hG H' (p.1.sub sub)) (fun i u H' H'' hi' p y => ?_) (fun H' p => ?_)
  · obtain ⟨eH, acc, pre, n2, H0', hacc, hpre, hlen, hI, hS, hz, RR⟩ := p
    obtain ⟨eY, d, hd, rd⟩ := hY i H' u H'' hi' (eH.sub sub) RR.dom y
    obtain ⟨ρ', hρ, hx⟩ := Is i n2 pre d hd hI
    have R2 := RR.ex eY
    obtain ⟨H0n, RL, hG0⟩ := R2.lift List.mem_cons_self hN
    have RW := RL.wipe hws
    refine tgt2R RW hρ rd fun σ3 R3 hw3 os => ⟨?_, yes_if ?_⟩
    · rw [hw3 _ htg]
      exact wipe_wipe σ _
    · have hSn : Src H0n s cc n2 := by
        obtain ⟨z0, ks, t, z1, z2, z3⟩ := hS
        exact ⟨z0, ks, t, by rw [hG0 s (Ne.symm nD.1)]; exact z1, by rw [hG0 cc (Ne.symm nD.2)]; exact z2, z3⟩
      have hn3 : ρ'[is]? = some none := by
        obtain ⟨x, k1, k2⟩ := RL.fixO is _ hfx
        rw [(os is x k1 k2).2, wipe_own fun hm => ?_]
        · exact hnone
        · rw [hws is hm x k1] at k2
          cases k2
      refine hx H0n (D :: M0) (D :: M) σ3 H'' ⟨List.mem_cons_of_mem _ R.sM, List.mem_cons_of_mem _ R.cM, ⟨is, hfx, hn3⟩, H0n, ExM.refl _ _, hSn, R3⟩ _ fun yd n3 v H5 hIn x5 S5 hv => ?_
      have hv' : Rv K (mi H5 (D :: lv M0 M b)) v yd := by
        cases b with
        | true => exact hv
        | false => exact hv
      have hD5 : H5 D = some (.lst acc) := x5 D _ sD (eY _ _ hacc)
      obtain ⟨H05, k1, k2, R5, k3⟩ := R2.go R.sM R.cM x5 S5
      have eM : ExM (D :: lv M0 M b) H5 (upd H5 D (.lst (acc ++ [v]))) := ExM.mut (by simp)
      have hra := ra_len hpre
      have hid := (List.getElem?_eq_some_iff.mp hd).1
      refine ⟨acc, hD5, Evl.sz_lt (by omega), ((eH.trans (ExM.of eY)).trans x5).mut0 hD, acc ++ [v], pre ++ [yd], n3, H05, upd_same, ra_app (rms eM (rms (x5.sub subb) (res eY hpre))) (.cons (rm eM hv') .nil), by simp [hlen], hIn, k2, by rw [k3 D sD]; exact hz, R5.touch List.mem_cons_self (by rw [k3 D sD]; exact hz) hN⟩
  · obtain ⟨eH, acc, pre, n2, H0', hacc, hpre, hlen, hI, hS, hz, RR⟩ := p
    rw [hn] at hI
    exact q pre n2 D acc H' (Id n2 pre hI) (freshM x1 S1 hD) (x1.trans eH) (hS.ex1 RR.ext) hacc hpre
theorem xn_lc {b : Bool} {elt iter : Expr} {sc' : Scope} {pos : Pos} {n : Nat} {SL : List PyData → Nat → Prop} (h : XLc P w K mg base k c sc W s cc b elt tg iter sc' ρ n SL) : XN P w K mg base k c sc W s cc b (.ListComp elt [⟨tg, iter, [], 0⟩] sc' pos) ρ n SL := fun Hs M0 M σ H R Q q => by
  obtain ⟨own, wi, g, tt, te, hns, T, hq⟩ := h Hs M0 M σ H R Q q
  exact ⟨_, fun X gd => pe_lc gd.calm (by rw [gd.eN]; exact gd.nd) (T.pi X gd) (T.bo X gd) (T.pg X gd) (T.pt X gd) (T.pe X gd) (noSet_fold hns), hq⟩
/-- for x in range(e) -/
theorem xi_range {a : Expr} {n : Nat} {SL : List PyData → Nat → Prop} {b : Bool} {g : Str} {p1 p2 : Pos} (mm : Mdl P w K mg base k cl c) (hg : g = "range") (hB : bltn c sc g = true) (hs : noStar a = true)
    (h : XE P w K mg base k c sc W s cc b a ρ n fun d n1 => ∃ j : Int, d = .int j ∧ 0 ≤ j ∧ j ≤ 100000 ∧ SL (rngD j.toNat) n1) : XI P w K mg base k c sc W s cc b tg (.Call (.Name g p1) [a] [] p2) ρ n SL := fun Hs M0 M σ H R Q q => by
  subst hg
  obtain ⟨g1, g2⟩ := nm_glob (bltn_glob hB)
  refine ⟨iRng1 (tCons (tB P w K mg base k c.N sc W a) tNil), fun X g => pi_range1 (g.gl g1) (by rw [g.em]; exact mm.blt _ (by decide +kernel)) (pa_cons (be g a) pa_nil (star1 hs)) (star1 hs), ?_⟩
  refine h Hs M0 M σ H R _ fun d n1 v H1 h1 x1 S1 hv => ?_
  obtain ⟨j, rfl, hj0, hj, hS⟩ := h1
  obtain rfl := rInt hv
  exact ⟨j, rfl, by omega, by omega, q _ n1 _ H1 hS x1 S1 (by rw [rngD_F]; exact walk_rg)⟩
end
end PY

set_option Elab.async false
set_option linter.all false
set_option maxRecDepth 100000
set_option maxHeartbeats 4000000
/-! Reckonings with draws: statements. -/
namespace PY
open PySem PySem.Spec PyProof.Rows L2 DK DD
section
variable (P : Program) (w : World) (K : PySem.W.Frag) (mg : Str → Option Value) (base : Heap) (k : Nat) (c : Cn) (sc : Scope) (W : WX) (s cc : Addr)
/-- what must hold behind statements: each outcome of Sf is borne by D -/
def XPost (Sf : Fl → Nat → Prop) (Hs : Hp) (M0 M : List Addr) (H : Hp) (D : Ends) : Prop := ∀ fl n1, Sf fl n1 → match fl with
  | .nx ρ' => ∀ M' σ' H', XRel c K s cc Hs M0 M' σ' H' ρ' n1 → Step M H M' H' → D.nx σ' H'
  | .bk ρ' => ∀ M' σ' H', XRel c K s cc Hs M0 M' σ' H' ρ' n1 → Step M H M' H' → D.bk σ' H'
  | .ct ρ' => ∀ M' σ' H', XRel c K s cc Hs M0 M' σ' H' ρ' n1 → Step M H M' H' → D.ct σ' H'
  | .rt d => ∀ v H', ExM [s, cc] Hs H' → Src H' s cc n1 → Rv K (mi H' M0) v d → D.rt v H'
def XS (st : Stmt) (ρ : En) (n : Nat) (Sf : Fl → Nat → Prop) : Prop := ∀ Hs M0 M σ H, XRel c K s cc Hs M0 M σ H ρ n → ∀ D : Ends, XPost K c s cc Sf Hs M0 M H D → tS P w K mg base k c.N sc W st D σ H
def XSs (sts : List Stmt) (ρ : En) (n : Nat) (Sf : Fl → Nat → Prop) : Prop := ∀ Hs M0 M σ H, XRel c K s cc Hs M0 M σ H ρ n → ∀ D : Ends, XPost K c s cc Sf Hs M0 M H D → tSs P w K mg base k c.N sc W sts D σ H
end
section
variable {P : Program} {w : World} {K : PySem.W.Frag} {mg : Str → Option Value} {base : Heap} {k : Nat} {cl : Nat → Addr} {c : Cn} {sc : Scope} {W : WX} {s cc : Addr}
variable {σ : L2.St} {H H' H1 H0 Hs : Hp} {e a b tg : Expr} {es : List Expr} {ρ ρ' : En} {M M' M0 : List Addr} {n n1 m : Nat} {Sf : Fl → Nat → Prop} {st : Stmt} {sts : List Stmt}
theorem Step.draw (h : ∀ m, m ∈ [s, cc] → m ∈ M) (e : ExM [s, cc] H H1) : Step M H M H1 := ⟨fun _ h => h, fun _ h => .inl h, e.sub h⟩
/-- no datum is told of the source's slot -/
def FxN (c : Cn) (ρ : En) : Prop := ∀ i v, c.fx = some (i, v) → ρ[i]? = some none
theorem XRel.same (R : XRel c K s cc Hs M0 M σ H ρ n) (hn : FxN c ρ') : ∃ i, c.fx = some (i, .ref s) ∧ ρ'[i]? = some none := by
  obtain ⟨i, h1, h2⟩ := R.sl
  exact ⟨i, h1, hn i _ h1⟩
theorem post_go {D : Ends} {M1 : List Addr} (h : XPost K c s cc Sf Hs M0 M H D) (d1 : Dom M1 H1) (st : Step M H M1 H1) : XPost K c s cc Sf Hs M0 M1 H1 D := fun fl n1 hs => by
  have := h fl n1 hs
  cases fl with
  | nx ρ' => exact fun M' σ' H' R' s' => this M' σ' H' R' (st.trans d1 s')
  | bk ρ' => exact fun M' σ' H' R' s' => this M' σ' H' R' (st.trans d1 s')
  | ct ρ' => exact fun M' σ' H' R' s' => this M' σ' H' R' (st.trans d1 s')
  | rt d => exact this
/-! blocks -/
theorem xss_nil (q : Sf (.nx ρ) n) : XSs P w K mg base k c sc W s cc [] ρ n Sf := fun Hs M0 M σ H R D p => ⟨tNext, fun X g => pss_nil, p _ _ q M σ H R (Step.refl _ _)⟩
theorem xss_cons (h : XS P w K mg base k c sc W s cc st ρ n fun fl n1 => match fl with
    | .nx ρ' => XSs P w K mg base k c sc W s cc sts ρ' n1 Sf
    | o => Sf o n1) : XSs P w K mg base k c sc W s cc (st :: sts) ρ n Sf := fun Hs M0 M σ H R D p => by
  refine ⟨tSeq (tS P w K mg base k c.N sc W st) (tSs P w K mg base k c.N sc W sts), fun X g => pss_cons (bs g st) (bss g sts), ?_⟩
  refine h Hs M0 M σ H R _ fun fl n1 hs => ?_
  cases fl with
  | nx ρ' => exact fun M' σ' H' R' S' => hs Hs M0 M' σ' H' R' D (post_go p (R'.dom false) S')
  | bk ρ' => exact p _ _ hs
  | ct ρ' => exact p _ _ hs
  | rt d => exact p _ _ hs
/-- without draws -/
theorem xs_p {wf : Nat} {fl : Fl} (mm : Mdl P w K mg base k cl c) (h : evS c wf sc m st ρ = .ok fl) (q : Sf fl n) (hn : match fl with | .nx ρ' => FxN c ρ' | .bk ρ' => FxN c ρ' | .ct ρ' => FxN c ρ' | .rt _ => True) : XS P w K mg base k c sc W s cc st ρ n Sf := fun Hs M0 M σ H R D p => by
  obtain ⟨H0, a1, a2, R0⟩ := R.R
  have z := es_ok (cl := cl) mm wf sc W H0 M0 m st ρ M σ H R0 D
  rw [h] at z
  have p' := p _ _ q
  cases fl with
  | nx ρ' => exact z fun M' σ' H' R' S' => p' M' σ' H' ⟨R.sM, R.cM, R.same hn, H0, a1, a2, R'⟩ S'
  | bk ρ' => exact z fun M' σ' H' R' S' => p' M' σ' H' ⟨R.sM, R.cM, R.same hn, H0, a1, a2, R'⟩ S'
  | ct ρ' => exact z fun M' σ' H' R' S' => p' M' σ' H' ⟨R.sM, R.cM, R.same hn, H0, a1, a2, R'⟩ S'
  | rt d => exact z fun v H' x hv => p' v H' (a1.trans (ExM.of x)) (a2.ex1 x) hv
theorem setE_none {i : Nat} {x : Str} {d : PyData} (R : Rel c K H0 M0 M σ H ρ) (hx : c.N[i]? = some x) (ho : c.isOwn x = false) (h : ∃ j, c.fx = some (j, .ref s) ∧ ρ[j]? = some none) : ∃ j, c.fx = some (j, .ref s) ∧ (setE i d ρ)[j]? = some none := by
  obtain ⟨j, h1, h2⟩ := h
  obtain ⟨y, k1, k2⟩ := R.fixO j _ h1
  refine ⟨j, h1, ?_⟩
  unfold setE
  rw [List.getElem?_set_ne fun z => ?_]
  · exact h2
  · subst z
    rw [hx] at k1
    cases k1
    rw [ho] at k2
    cases k2
theorem XRel.set {i : Nat} {x : Str} {v : V} {d : PyData} (R : XRel c K s cc Hs M0 M σ H ρ n) (hx : c.N[i]? = some x) (ho : c.isOwn x = false) (hv : Rv K (mi H M) v d) : XRel c K s cc Hs M0 M (σ.set i (some v)) H (setE i d ρ) n := by
  obtain ⟨H0, a1, a2, R0⟩ := R.R
  exact ⟨R.sM, R.cM, setE_none R0 hx ho R.sl, H0, a1, a2, R0.set hx ho hv⟩
/-- name = e -/
theorem xs_set {x : Str} {p pos : Pos} {i : Nat} (hn : nmOf c.N sc x = .slot i) (hl : locN sc x = true) (ho : c.isOwn x = false) (hlc : lcOk sc x p e = true) (hno : isLC e = false)
    (h : XE P w K mg base k c sc W s cc false e ρ n fun d n1 => Sf (.nx (setE i d ρ)) n1) : XS P w K mg base k c sc W s cc (.Assign [.Name x p] e pos) ρ n Sf := fun Hs M0 M σ H R D q => by
  obtain ⟨n1, n2, n3, n4⟩ := nm_slot hn
  refine ⟨tAsg (tB P w K mg base k c.N sc W e) (gName i), fun X g => ps_set (by rw [g.1.eN]; exact g.1.nd) (by rw [g.1.eN]; exact n1) (g.1.loc (lok hl)) (be g.1 e) (sw_no hlc hno) (g.1.hf (lok hl)), ?_⟩
  refine h Hs M0 M σ H R _ fun d n2 v H1 h1 x1 S1 hv => ?_
  exact q _ _ h1 M _ H1 ((R.go x1 S1).set n1 ho hv) (Step.draw (R.mem false) x1)
/-- name = [.. for ..] -/
theorem xs_setLC {x : Str} {p pos spos : Pos} {i : Nat} {elt iter : Expr} {sc' : Scope} (hn : nmOf c.N sc x = .slot i) (ho : c.isOwn x = false) (hlc : lcOk sc x p (.ListComp elt [⟨tg, iter, [], 0⟩] sc' pos) = true)
    (h : XLc P w K mg base k c sc W s cc false elt tg iter sc' ρ n fun ds n1 => Sf (.nx (setE i (.list ds) ρ)) n1) : XS P w K mg base k c sc W s cc (.Assign [.Name x p] (.ListComp elt [⟨tg, iter, [], 0⟩] sc' pos) spos) ρ n Sf := fun Hs M0 M σ H R D q => by
  obtain ⟨n1, n2, n3, n4⟩ := nm_slot hn
  obtain ⟨own, wi, g, tt, te, hns, T, h⟩ := h Hs M0 M σ H R (fun x H1 => gName i x σ H1 D.nx) fun ds n2 p vs H1 h1 hp x1 S1 hpl hv =>
    q _ _ h1 M _ H1 ((R.go x1 S1).set n1 ho (.lst (mi_of ((R.dom false).nin hp) hpl) (rlesss (fun m hm => List.mem_cons_of_mem _ hm) hv))) (Step.draw (R.mem false) x1)
  refine ⟨tAsg (tLc wi g tt te (List.map (fun x : Str × Nat => x.2) own)) (gName i), fun X gd => ?_, h⟩
  obtain ⟨l1, l2⟩ := sw_yes (ln := spos.line) gd.1 hlc
  exact ps_setLc gd.1.calm (by rw [gd.1.eN]; exact gd.1.nd) (by rw [gd.1.eN]; exact n1) (by rcases gd.1.kd x _ l1 with q | ⟨q, _⟩; exact q; cases q) l2 (T.pi X gd.1) (T.bo X gd.1) (T.pg X gd.1) (T.pt X gd.1) (T.pe X gd.1) (noSet_fold hns)
theorem xs_if {t : Expr} {sa sb : List Stmt} {pos : Pos} (h : XT P w K mg base k c sc W s cc t ρ n fun x n1 => (x = true → XSs P w K mg base k c sc W s cc sa ρ n1 Sf) ∧ (x = false → XSs P w K mg base k c sc W s cc sb ρ n1 Sf)) : XS P w K mg base k c sc W s cc (.If t sa sb pos) ρ n Sf := fun Hs M0 M σ H R D q => by
  refine ⟨tIfS (tBT P w K mg base k c.N sc W t) (tSs P w K mg base k c.N sc W sa) (tSs P w K mg base k c.N sc W sb), fun X g => ps_if (bt g.1 t) (bss g sa) (bss g sb), ?_⟩
  refine h Hs M0 M σ H R _ fun x n1 H1 h1 x1 S1 => ?_
  have R1 := R.go x1 S1
  have q1 := post_go q (R1.dom false) (Step.draw (R.mem false) x1)
  cases x with
  | true =>
    rw [if_pos rfl]
    exact h1.1 rfl Hs M0 M σ H1 R1 D q1
  | false =>
    rw [if_neg Bool.false_ne_true]
    exact h1.2 rfl Hs M0 M σ H1 R1 D q1
theorem XRel.fin (R : XRel c K s cc Hs M0 M σ H ρ n) (x : ExM [s, cc] H H1) : ExM [s, cc] Hs H1 := by
  obtain ⟨H0, a1, a2, R0⟩ := R.R
  exact a1.trans ((ExM.of R0.ext).trans x)
theorem xs_ret {pos : Pos} (h : XE P w K mg base k c sc W s cc true e ρ n fun d n1 => Sf (.rt d) n1) : XS P w K mg base k c sc W s cc (.Return (some e) pos) ρ n Sf := fun Hs M0 M σ H R D q => by
  refine ⟨tRet (tB P w K mg base k c.N sc W e), fun X g => ps_ret (be g.1 e), ?_⟩
  exact h Hs M0 M σ H R _ fun d n1 v H1 h1 x1 S1 hv => q _ _ h1 v H1 (R.fin x1) S1 hv
/-- for tg in it: the turns by an invariant -/
theorem xs_for {it : Expr} {body : List Stmt} {pos : Pos} (hns : noSet it = true) (h : XI P w K mg base k c sc W s cc false tg it ρ n fun ds n1 => ∃ I : Nat → Nat → En → Prop, I 0 n1 ρ ∧
      (∀ i n2 ρ2 d, ds[i]? = some d → I i n2 ρ2 → ∃ ρ3, tgt c sc 8 tg d ρ2 = some ρ3 ∧ FxN c ρ3 ∧ XSs P w K mg base k c sc W s cc body ρ3 n2 fun fl n3 => match fl with
        | .nx ρ4 => I (i + 1) n3 ρ4
        | .ct ρ4 => I (i + 1) n3 ρ4
        | .bk ρ4 => Sf (.nx ρ4) n3
        | .rt d => Sf (.rt d) n3) ∧
      ∀ n2 ρ2, I ds.length n2 ρ2 → Sf (.nx ρ2) n2) : XS P w K mg base k c sc W s cc (.For tg it body [] pos) ρ n Sf := fun Hs M0 M σ H R D q => by
  refine ⟨tFor (tBI P w K mg base k c.N sc W tg it) (tBG P w K mg base k c.N sc W tg) (tSs P w K mg base k c.N sc W body), fun X g => ps_for g.2 g.1.calm (bi g.1 tg it) (bg g.1 tg) (bss g body) (noSet_fold hns), ?_⟩
  refine h Hs M0 M σ H R _ fun ds n1 J H2 h1 x1 S1 wd => ?_
  obtain ⟨I, I0, Is, Id⟩ := h1
  obtain ⟨nn, G, Y, wk, hn, hw⟩ := wd
  have R1 := R.go x1 S1
  have st1 : Step M H M H2 := Step.draw (R.mem false) x1
  refine for_it wk (fun i σ' H' => ∃ M' ρ' n2, XRel c K s cc Hs M0 M' σ' H' ρ' n2 ∧ Step M H2 M' H' ∧ I i n2 ρ') ⟨M, ρ, n1, R1, Step.refl _ _, I0⟩
    (fun i σ' H' _ p => ?_) (fun i v σ' H' H'' hi' p y => ?_) (fun σ' H' p => ?_)
  · obtain ⟨M', ρ', n2, R', S', _⟩ := p
    exact (hw M' S'.back).1 H' S'.ex
  · obtain ⟨M', ρ', n2, R', S', hI⟩ := p
    obtain ⟨eY, d, hd, rd⟩ := (hw M' S'.back).2 i H' v H'' hi' S'.ex (R'.dom false) y
    obtain ⟨ρ3, ht, hfx, hb⟩ := Is i n2 ρ' d hd hI
    obtain ⟨H0', a1, a2, R0'⟩ := R'.R
    have SY : Step M H2 M' H'' := S'.trans (R'.dom false) (Step.of eY)
    refine tgt2R (R0'.ex eY) ht rd fun σ2 R2 _ _ => ?_
    have RX : XRel c K s cc Hs M0 M' σ2 H'' ρ3 n2 := ⟨R'.sM, R'.cM, R'.same hfx, H0', a1, a2, R2⟩
    refine hb Hs M0 M' σ2 H'' RX _ fun fl n3 hf => ?_
    cases fl with
    | nx ρ4 => exact fun M3 σ3 H3 R3 S3 => ⟨M3, ρ4, n3, R3, SY.trans R2.dom S3, hf⟩
    | ct ρ4 => exact fun M3 σ3 H3 R3 S3 => ⟨M3, ρ4, n3, R3, SY.trans R2.dom S3, hf⟩
    | bk ρ4 => exact fun M3 σ3 H3 R3 S3 => q _ _ hf M3 σ3 H3 R3 (st1.trans (R1.dom false) (SY.trans R2.dom S3))
    | rt d => exact q _ _ hf
  · obtain ⟨M', ρ', n2, R', S', hI⟩ := p
    rw [hn] at hI
    exact q _ _ (Id n2 ρ' hI) M' σ' H' R' (st1.trans (R1.dom false) S')
/-- an own list changed where it stands -/
theorem XRel.mut {i : Nat} {x : Str} {p : Addr} {vs' : List V} {d : PyData} {ds' : List PyData} (R : XRel c K s cc Hs M0 M σ H ρ n) (hx : c.N[i]? = some x) (ho : c.isOwn x = true) (hd : ρ[i]? = some (some d)) (hs : σ[i]? = some (some (.ref p))) (hv : RvA K (mi H M) vs' ds') :
    XRel c K s cc Hs M0 M σ (upd H p (.lst vs')) (setE i (.list ds') ρ) n ∧ Step M H M (upd H p (.lst vs')) := by
  obtain ⟨H0, a1, a2, R0⟩ := R.R
  obtain ⟨R2, S2⟩ := R0.mut hx ho hd hs hv
  refine ⟨⟨R.sM, R.cM, ?_, H0, a1, a2, R2⟩, S2⟩
  obtain ⟨j, h1, h2⟩ := R.sl
  refine ⟨j, h1, ?_⟩
  unfold setE
  rw [List.getElem?_set_ne fun z => ?_]
  · exact h2
  · subst z
    rw [hd] at h2
    cases h2
/-- x.append(e) -/
theorem xs_append {x md : Str} {p ap cp sp : Pos} {i : Nat} {ds : List PyData} (hmd : md = "append") (h : ownAt c sc x ρ = some (i, ds)) (hs : noStar a = true) (hln : (ap.endLine == cp.line) = true) (hlen : ds.length < 100000)
    (he : XE P w K mg base k c sc W s cc false a ρ n fun d n1 => Sf (.nx (setE i (.list (ds ++ [d])) ρ)) n1) :
    XS P w K mg base k c sc W s cc (.Expr (.Call (.Attribute (.Name x p) md ap) [a] [] cp) sp) ρ n Sf := fun Hs M0 M σ H R D q => by
  subst hmd
  obtain ⟨ho, hn, hd⟩ := own_at h
  obtain ⟨n1, n2, n3, n4⟩ := nm_slot hn
  obtain ⟨H0, a1, a2, R0⟩ := R.R
  obtain ⟨pa, vs, es, z, hσ, hM, h0, hp, hv⟩ := R0.own i x _ n1 ho hd
  cases z
  refine ⟨tDrop (tBM K "list" rAppend (tVar i) (tCons (tB P w K mg base k c.N sc W a) tNil)), fun X g => ?_, ?_⟩
  · rw [← g.1.eK]
    exact ps_expr (pe_bm PySem.F.plainAttrs_list PySem.F.slot_list_append PySem.F.type_list_append mt_append (pvar hn g.1) (pa_cons (by rw [g.1.eK]; exact be g.1 a) pa_nil (star1 hs)) rfl (few1 hs) hln (star1 hs) (star_all rfl)) rfl
  · refine ⟨_, hσ, .inl ⟨rfl, _, Evl.sq_of hp⟩, ?_⟩
    refine he Hs M0 M σ H R _ fun d n2 v H2 h2 x2 S2 hv2 => ?_
    have hl := ra_len hv
    have npa : pa ∉ [s, cc] := fun m => by
      simp only [List.mem_cons, List.not_mem_nil, or_false] at m
      rcases m with rfl | rfl
      · exact R0.d0 _ R.sM h0
      · exact R0.d0 _ R.cM h0
    have hp2 : H2 pa = some (.lst vs) := x2 _ _ npa hp
    refine ⟨pa, vs, v, rfl, rfl, hp2, Evl.sz_lt (by omega), ?_⟩
    have RX := R.go x2 S2
    obtain ⟨R2, S2'⟩ := RX.mut n1 ho hd hσ (ra_app (fwds (R.mem false) x2 hv) (.cons hv2 .nil))
    exact q _ _ h2 M σ _ R2 ((Step.draw (R.mem false) x2).trans (RX.dom false) S2')
/-- x[b] = e, the index reckoned behind -/
theorem xs_item {x : Str} {p pt sp : Pos} {i j : Nat} {kk : Int} {ds : List PyData} (h : ownAt c sc x ρ = some (i, ds)) (mm : Mdl P w K mg base k cl c) (hpl : plainI b = true) (hb : evE c m sc true b ρ = .ok (.int kk)) (hj : ixN ds.length kk = some j)
    (he : XE P w K mg base k c sc W s cc false e ρ n fun d n1 => Sf (.nx (setE i (.list (ds.set j d)) ρ)) n1) : XS P w K mg base k c sc W s cc (.Assign [.Subscript (.Name x p) b pt] e sp) ρ n Sf := fun Hs M0 M σ H R D q => by
  obtain ⟨ho, hn, hd⟩ := own_at h
  obtain ⟨n1, n2, n3, n4⟩ := nm_slot hn
  obtain ⟨H0, a1, a2, R0⟩ := R.R
  obtain ⟨pa, vs, es, z, hσ, hM, h0, hp, hv⟩ := R0.own i x _ n1 ho hd
  cases z
  refine ⟨tAsg (tB P w K mg base k c.N sc W e) (gSub (tVar i) (tB P w K mg base k c.N sc W b) rSetL), fun X g => ps_asg (be g.1 e) (pg_sub (pvar hn g.1) (be g.1 b) set_list (sub_asg hpl)) sws2 sws3 rfl, ?_⟩
  refine he Hs M0 M σ H R _ fun d n2 v H2 h2 x2 S2 hv2 => ⟨_, hσ, ?_⟩
  have RX := R.go x2 S2
  refine xe_p mm hb (S := fun d n3 => d = .int kk ∧ n3 = n2) ⟨rfl, rfl⟩ Hs M0 M σ H2 RX _ fun d' n3 u H3 h3 x3 S3 hu => ?_
  obtain ⟨rfl, rfl⟩ := h3
  obtain rfl := rInt hu
  have npa : pa ∉ [s, cc] := fun m => by
    simp only [List.mem_cons, List.not_mem_nil, or_false] at m
    rcases m with rfl | rfl
    · exact R0.d0 _ R.sM h0
    · exact R0.d0 _ R.cM h0
  have RY := RX.go x3 S3
  have x23 := x2.trans x3
  refine ⟨pa, vs, _, j, rfl, rfl, x23 _ _ npa hp, by rw [ra_len hv]; exact hj, ?_⟩
  obtain ⟨R2, S2'⟩ := RY.mut n1 ho hd hσ (ra_set (fwd (R.mem false) x3 hv2) j (fwds (R.mem false) x23 hv))
  exact q _ _ h2 M σ _ R2 ((Step.draw (R.mem false) x23).trans (RY.dom false) S2')
/-- a, b = e -/
theorem xs_unp {es : List Expr} {kk : Nat} {pt sp : Pos} (ht : isTupE e = false) (h : XE P w K mg base k c sc W s cc false e ρ n fun d n1 => ∃ ρ', tgt c sc 8 (.Tuple es kk pt) d ρ = some ρ' ∧ FxN c ρ' ∧ Sf (.nx ρ') n1) : XS P w K mg base k c sc W s cc (.Assign [.Tuple es kk pt] e sp) ρ n Sf := fun Hs M0 M σ H R D q => by
  refine ⟨tAsg (tB P w K mg base k c.N sc W e) (tBG P w K mg base k c.N sc W (.Tuple es kk pt)), fun X g => ps_asg (be g.1 e) (bg g.1 _) sws1 (sws ht) rfl, ?_⟩
  refine h Hs M0 M σ H R _ fun d n1 v H1 h1 x1 S1 hv => ?_
  obtain ⟨ρ', h2, h3, h4⟩ := h1
  have RX := R.go x1 S1
  obtain ⟨H0, a1, a2, R0⟩ := RX.R
  exact tgt2R R0 h2 hv fun σ' R' _ _ => q _ _ h4 M σ' H1 ⟨R.sM, R.cM, R.same h3, H0, a1, a2, R'⟩ (Step.draw (R.mem false) x1)
end
end PY

set_option Elab.async false
set_option linter.all false
set_option maxRecDepth 100000
set_option maxHeartbeats 4000000
/-! Reckonings with draws: further pieces, defs. -/
namespace PY
open PySem PySem.Spec PyProof.Rows L2 DK DD
section
variable {P : Program} {w : World} {K : PySem.W.Frag} {mg : Str → Option Value} {base : Heap} {k : Nat} {cl : Nat → Addr} {c : Cn} {sc : Scope} {W : WX} {s cc : Addr}
variable {e a b1 t : Expr} {es : List Expr} {ρ : En} {n m : Nat} {S : PyData → Nat → Prop} {SL : List PyData → Nat → Prop} {ST : Bool → Nat → Prop} {b : Bool} {pos p p1 p2 : Pos} {d : PyData} {ds : List PyData}
theorem scal_rv {v : V} {L L' : List Addr} {H : Hp} (h : isScal d = true) (r : Rv K (mi H L) v d) : Rv K (mi H L') v d := by
  cases d <;> first | (cases h; done) | (cases r; constructor)
/-- a scalar may be read of own lists, too -/
theorem xe_up (h : XE P w K mg base k c sc W s cc true e ρ n fun d n1 => isScal d = true ∧ S d n1) : XE P w K mg base k c sc W s cc b e ρ n S := fun Hs M0 M σ H R Q q =>
  h Hs M0 M σ H R Q fun d n1 v H1 h1 x1 S1 hv => q d n1 v H1 h1.2 x1 S1 (scal_rv h1.1 hv)
theorem xe_mono {S' : PyData → Nat → Prop} (h : XE P w K mg base k c sc W s cc b e ρ n S') (m : ∀ d n1, S' d n1 → S d n1) : XE P w K mg base k c sc W s cc b e ρ n S := fun Hs M0 M σ H R Q q =>
  h Hs M0 M σ H R Q fun d n1 v H1 h1 x1 S1 hv => q d n1 v H1 (m d n1 h1) x1 S1 hv
/-- an item of an own list -/
theorem xe_own {x : Str} {i : Nat} {kk : Int} (h : ownAt c sc x ρ = some (i, ds)) (mm : Mdl P w K mg base k cl c) (hp : plainI b1 = true) (hb : evE c m sc true b1 ρ = .ok (.int kk)) (hd : atI ds kk = some d) (q : S d n) : XE P w K mg base k c sc W s cc b (.Subscript (.Name x p1) b1 pos) ρ n S := fun Hs M0 M σ H R Q q' => by
  obtain ⟨ho, hn, hdd⟩ := own_at h
  obtain ⟨n1, n2, n3, n4⟩ := nm_slot hn
  obtain ⟨H0, a1, a2, R0⟩ := R.R
  obtain ⟨pa, vs, es, z, hσ, hM, h0, hpp, hv⟩ := R0.own i x _ n1 ho hdd
  cases z
  refine ⟨_, fun X g => pe_ix (r := rIx K) (by rw [← g.eK]; exact ix_any) (pvar hn g) (be g b1) (plain_ix hp), _, hσ, ?_⟩
  refine xe_p mm hb (S := fun d n3 => d = .int kk ∧ n3 = n) ⟨rfl, rfl⟩ Hs M0 M σ H R _ fun d' n3 u H3 h3 x3 S3 hu => ?_
  obtain ⟨rfl, rfl⟩ := h3
  obtain rfl := rInt hu
  have npa : pa ∉ [s, cc] := fun m => by
    simp only [List.mem_cons, List.not_mem_nil, or_false] at m
    rcases m with rfl | rfl
    · exact R0.d0 _ R.sM h0
    · exact R0.d0 _ R.cM h0
  obtain ⟨u, hu1, hu2⟩ := ra_at hv hd
  have hu3 : Rv K (mi H (lv M0 M b)) u d := by
    cases b with
    | false => exact hu2
    | true => exact rless R0.sub hu2
  exact .inl ⟨_, _, _, u, rfl, rfl, Evl.sq_of (x3 _ _ npa hpp), hu1, q' d n3 u H3 q x3 S3 (fwd (R.mem b) x3 hu3)⟩
/-- a[b] -/
theorem xe_ix (hp : plainI b1 = true) (h : XE P w K mg base k c sc W s cc b a ρ n fun d1 n1 => XE P w K mg base k c sc W s cc b b1 ρ n1 fun d2 n2 => ∃ d, ix d1 d2 = .ok d ∧ S d n2) : XE P w K mg base k c sc W s cc b (.Subscript a b1 pos) ρ n S := fun Hs M0 M σ H R Q q => by
  refine ⟨_, fun X g => pe_ix (r := rIx K) (by rw [← g.eK]; exact ix_any) (be g a) (be g b1) (plain_ix hp), ?_⟩
  refine h Hs M0 M σ H R _ fun d1 n1 v1 H1 h1 x1 S1 hv1 => ?_
  refine h1 Hs M0 M σ H1 (R.go x1 S1) _ fun d2 n2 v2 H2 h2 x2 S2 hv2 => ?_
  obtain ⟨d, hd, hS⟩ := h2
  have hv1' := fwd (R.mem b) x2 hv1
  have x12 := x1.trans x2
  unfold ix at hd
  split at hd
  · split at hd
    · rename_i d' hd'
      cases hd
      cases hv1' with
      | lst h1 h2 =>
        obtain rfl := rInt hv2
        obtain ⟨u, hu, ru⟩ := ra_at h2 hd'
        exact .inl ⟨_, _, _, u, rfl, rfl, Evl.sq_of (mi_some h1).2, hu, q _ n2 u H2 hS x12 S2 ru⟩
    · cases hd
  · split at hd
    · rename_i d' hd'
      cases hd
      cases hv1' with
      | tup h1 h2 =>
        obtain rfl := rInt hv2
        obtain ⟨u, hu, ru⟩ := ra_at h2 hd'
        exact .inr (.inl ⟨_, _, _, u, rfl, rfl, Evl.st_of (mi_some h1).2, hu, q _ n2 u H2 hS x12 S2 ru⟩)
    · cases hd
  · split at hd
    · rename_i hz
      split at hd
      · rename_i d' hd'
        cases hd
        obtain rfl := rStr hv1'
        obtain rfl := rInt hv2
        exact .inr (.inr ⟨_, _, _, rfl, rfl, Evl.sz_of hz, hd', q _ n2 _ H2 hS x12 S2 (.str _)⟩)
      · cases hd
    · cases hd
  · cases hd
/-- a built-in called -/
theorem xe_blt {f : Str} (mm : Mdl P w K mg base k cl c) (hn : nmOf c.N sc f = .glob) (hs : (e :: es).all noStar = true) (hk : (bval f).isSome = true)
    (h : XA P w K mg base k c sc W s cc b (e :: es) ρ n fun ds n1 => ∃ d, bfn f ds = .ok d ∧ S d n1) : XE P w K mg base k c sc W s cc b (.Call (.Name f p) (e :: es) [] pos) ρ n S := fun Hs M0 M σ H R Q q => by
  obtain ⟨v, hb⟩ := Option.isSome_iff_exists.mp hk
  refine ⟨_, fun X g => pe_blt mm hn hb hs g, ?_⟩
  refine h Hs M0 M σ H R _ fun ds n1 vs H1 h1 x1 S1 hv => ?_
  obtain ⟨d, hd, hS⟩ := h1
  obtain ⟨d', v', e1, hb', hB⟩ := bfn_ok (P := P) (w := w) (K := K) (mg := mg) (base := base) (k := k) (N := c.N) (sc := sc) (W := W) (L := lv M0 M b) (f := f) (ds := ds) (by rw [hd]; exact fun z => nomatch z)
  rw [hd] at e1
  cases e1
  rw [hb] at hb'
  cases hb'
  exact hB vs H1 ((R.go x1 S1).dom b) hv Q fun u H2 x2 h2 => q d n1 u H2 hS (x1.trans (ExM.of x2)) (S1.ex1 x2) h2
theorem xe_if (h : XT P w K mg base k c sc W s cc t ρ n fun x n1 => (x = true → XE P w K mg base k c sc W s cc b a ρ n1 S) ∧ (x = false → XE P w K mg base k c sc W s cc b b1 ρ n1 S)) : XE P w K mg base k c sc W s cc b (.IfExp t a b1 pos) ρ n S := fun Hs M0 M σ H R Q q => by
  refine ⟨_, fun X g => pe_ifExp (bt g t) (be g a) (be g b1), ?_⟩
  refine h Hs M0 M σ H R _ fun x n1 H1 h1 x1 S1 => ?_
  cases x with
  | true =>
    rw [if_pos rfl]
    exact h1.1 rfl Hs M0 M σ H1 (R.go x1 S1) Q fun d n2 v H2 h2 x2 S2 hv => q d n2 v H2 h2 (x1.trans x2) S2 hv
  | false =>
    rw [if_neg Bool.false_ne_true]
    exact h1.2 rfl Hs M0 M σ H1 (R.go x1 S1) Q fun d n2 v H2 h2 x2 S2 hv => q d n2 v H2 h2 (x1.trans x2) S2 hv
/-- a and b, as a test -/
theorem xt_and (h : XT P w K mg base k c sc W s cc a ρ n fun x n1 => (x = true → XT P w K mg base k c sc W s cc b1 ρ n1 ST) ∧ (x = false → ST false n1)) : XT P w K mg base k c sc W s cc (.BoolOp .And [a, b1] pos) ρ n ST := fun Hs M0 M σ H R Q q => by
  refine ⟨_, fun X g => (pw_and (bt g a) (pw_and1 (pos := pos) (bt g b1))).pt, ?_⟩
  refine h Hs M0 M σ H R _ fun x n1 H1 h1 x1 S1 => ?_
  cases x with
  | true =>
    rw [if_pos rfl]
    exact h1.1 rfl Hs M0 M σ H1 (R.go x1 S1) _ fun d n2 H2 h2 x2 S2 => q d n2 H2 h2 (x1.trans x2) S2
  | false =>
    rw [if_neg Bool.false_ne_true]
    exact q false n1 H1 (h1.2 rfl) x1 S1
theorem xt_or (h : XT P w K mg base k c sc W s cc a ρ n fun x n1 => (x = false → XT P w K mg base k c sc W s cc b1 ρ n1 ST) ∧ (x = true → ST true n1)) : XT P w K mg base k c sc W s cc (.BoolOp .Or [a, b1] pos) ρ n ST := fun Hs M0 M σ H R Q q => by
  refine ⟨_, fun X g => (pw_or (bt g a) (pw_or1 (pos := pos) (bt g b1))).pt, ?_⟩
  refine h Hs M0 M σ H R _ fun x n1 H1 h1 x1 S1 => ?_
  cases x with
  | false =>
    rw [if_neg Bool.false_ne_true]
    exact h1.1 rfl Hs M0 M σ H1 (R.go x1 S1) _ fun d n2 H2 h2 x2 S2 => q d n2 H2 h2 (x1.trans x2) S2
  | true =>
    rw [if_pos rfl]
    exact q true n1 H1 (h1.2 rfl) x1 S1
/-- arguments without draws -/
theorem xa_p (mm : Mdl P w K mg base k cl c) : ∀ {es : List Expr} {ds : List PyData} {SL : List PyData → Nat → Prop}, es.all noStar = true → evAll (fun e => evE c m sc b e ρ) es = .ok ds → SL ds n → XA P w K mg base k c sc W s cc b es ρ n SL
  | [], ds, SL, _, h, q => by
    cases h
    exact xa_nil q
  | e :: es, ds, SL, hs, h, q => by
    rw [List.all_cons, Bool.and_eq_true] at hs
    rw [evAll_cons hs.1] at h
    obtain ⟨d, h1, h⟩ := bind_is h
    obtain ⟨ds', h2, h⟩ := bind_is h
    cases h
    exact xa_cons hs.1 (xe_p mm h1 (xa_p mm hs.2 h2 q))
end
section
variable {P : Program} {w : World} {K : PySem.W.Frag} {mg : Str → Option Value} {base : Heap} {cl : Nat → Addr} {T : Tab}
/-- the defs and names that a def of level n sees -/
theorem mdl_at (S : Stands P w K mg base cl T) (n : Nat) (c : Cn) (h1 : c.cst = T.cst) (h2 : c.cls = T.cls) (h3 : c.isF = isFAt T n) (h4 : c.phi = phiAt T n (run T n)) : Mdl P w K mg base n cl c := by
  refine ⟨by rw [h1]; exact S.cst, S.blt, fun x i hx => ?_, fun g hg => ?_⟩
  · rw [h2] at hx
    obtain ⟨a1, a2, a3, a4, a5⟩ := S.cls x i hx
    exact ⟨a1, a2, a3, a4, a5⟩
  · have hg' : isFAt T n g = true := by rw [← h3]; exact hg
    cases hq : T.look g with
    | some D' =>
      obtain ⟨⟨A'⟩, _⟩ := S.defs g D' hq
      refine ⟨n, A'.f, A'.fd, D'.ps, Nat.le_refl _, A'.g, A'.F.kp, A'.b, ?_⟩
      have : c.phi g = run T n g := by
        rw [h4]
        funext ds
        unfold phiAt
        rw [hq]
      rw [this]
      exact run_ok S n g D' A' hq
    | none =>
      unfold isFAt at hg'
      rw [hq] at hg'
      cases he : T.ext g with
      | none => rw [he] at hg'; cases hg'
      | some kF =>
        obtain ⟨kf, F⟩ := kF
        rw [he] at hg'
        have hk : kf ≤ n := by simpa using hg'
        obtain ⟨fa, fd, ps, b1, b2, b3, b4⟩ := S.ext g kf F hq he
        refine ⟨kf, fa, fd, ps, hk, b1, b2, b3, ?_⟩
        have : c.phi g = F := by
          rw [h4]
          funext ds
          unfold phiAt
          rw [hq, he]
          exact if_pos hk
        rw [this]
        exact b4
/-- what a def that draws sees: its source at s, in the i-th slot -/
def cnX (T : Tab) (n : Nat) (D : Df) (i : Nat) (s : Addr) : Cn := { cnAt T n (run T n) D with fx := some (i, .ref s) }
theorem mdl_x (S : Stands P w K mg base cl T) (n : Nat) (D : Df) (i : Nat) (s : Addr) : Mdl P w K mg base n cl (cnX T n D i s) := mdl_at S n _ rfl rfl rfl rfl
def entryX (N : List Str) (ds : List PyData) : En := none :: (ds.map some ++ List.replicate (N.length - 1 - ds.length) none)
theorem rel_startX {c : Cn} {H : Hp} {M : List Addr} {us : List V} {ds : List PyData} {ps : List Str} {sc : Scope} {x0 : Str} {s : Addr} (S : FnScope c.N ps sc) (hl : ds.length + 1 = ps.length) (hM : Dom M H) (hv : RvA K (mi H M) us ds)
    (h0 : c.N[0]? = some x0) (ho0 : c.isOwn x0 = true) (ho : ∀ x ∈ ps.tail, c.isOwn x = false) (hfx : c.fx = some (0, .ref s)) : Rel c K H M M (L2.start c.N (.ref s :: us)) H (entryX c.N ds) := by
  have hpl : ps.length ≤ c.N.length := by
    have := congrArg List.length S.pre
    rw [List.length_take] at this
    omega
  have hvl := ra_len hv
  have get : ∀ (i : Nat) (d : PyData), (entryX c.N ds)[i]? = some (some d) → ∃ j, i = j + 1 ∧ ds[j]? = some d := fun i d h => by
    unfold entryX at h
    cases i with
    | zero => cases h
    | succ j =>
      refine ⟨j, rfl, ?_⟩
      rw [List.getElem?_cons_succ] at h
      by_cases hi : j < ds.length
      · rw [List.getElem?_append_left (by simpa using hi), List.getElem?_map] at h
        cases q : ds[j]? with
        | none => rw [q] at h; cases h
        | some e => rw [q] at h; cases h; rfl
      · rw [List.getElem?_append_right (by simpa using hi), List.getElem?_replicate] at h
        split at h <;> cases h
  have noOwn : ∀ (i : Nat) (x : Str) (d : PyData), c.N[i]? = some x → c.isOwn x = true → (entryX c.N ds)[i]? ≠ some (some d) := fun i x d h1 h2 h3 => by
    obtain ⟨j, rfl, h4⟩ := get i d h3
    have h4' := (List.getElem?_eq_some_iff.mp h4).1
    have : x ∈ ps.tail := by
      rw [← S.pre]
      refine List.mem_of_getElem? (i := j) ?_
      rw [List.getElem?_tail, List.getElem?_take_of_lt (by omega)]
      exact h1
    rw [ho x this] at h2
    cases h2
  refine ⟨?_, ?_, Evl.Ex.refl _, hM, hM, fun _ h => h, fun i x d h1 h2 h3 => ?_, fun i x d h1 h2 h3 => absurd h3 (noOwn i x d h1 h2), fun i j x y d d' p h1 h2 h3 h4 h5 => absurd h5 (noOwn i x d h1 h3), fun i v h => ?_, fun i v h _ => ?_⟩
  · unfold L2.start
    rw [List.length_append, List.length_map, List.length_replicate, List.length_cons]
    omega
  · unfold entryX
    rw [List.length_cons, List.length_append, List.length_map, List.length_replicate]
    omega
  · obtain ⟨j, rfl, h6⟩ := get i d h3
    obtain ⟨v, h4, h5⟩ := ra_get hv h6
    refine ⟨v, ?_, h5⟩
    have h7 := (List.getElem?_eq_some_iff.mp h4).1
    unfold L2.start
    rw [List.map_cons, List.cons_append, List.getElem?_cons_succ, List.getElem?_append_left (by rw [List.length_map]; exact h7), List.getElem?_map, h4] <;> rfl
  · rw [hfx] at h
    cases h
    exact ⟨x0, h0, ho0⟩
  · rw [hfx] at h
    cases h
    rfl
/-- A def that draws keeps what its text, reckoned with draws, comes to. -/
theorem x_def (S : Stands P w K mg base cl T) {n : Nat} {f x0 : Str} {D : Df} {pr : List PyData → Nat → Prop} {po : List PyData → Nat → PyData → Nat → Prop} (A : AtN K mg f D.nm D.st D.ps) (SC : FnScope D.N D.ps (defScope D.st))
    (h0 : D.N[0]? = some x0) (ho0 : D.own.any (fun y => decide (y = x0)) = true) (ho : ∀ x ∈ D.ps.tail, x ∉ D.own) (hlen : ∀ ds m, pr ds m → ds.length + 1 = D.ps.length)
    (h : ∀ (W : WX) (s cc : Addr) (ds : List PyData) (m : Nat), pr ds m → XSs P w K mg base n (cnX T n D 0 s) (defScope D.st) W s cc (defBody D.st) (entryX D.N ds) m fun fl m1 => match fl with
      | .rt d => po ds m d m1
      | .nx _ => po ds m .none m1
      | _ => False) : FnOk P w K mg base (CX P w) (n + 1) A.f A.fd D.ps (spD K pr po) := by
  refine A.F.okX SC (fun vs H Q E hh => ?_) (fun cdv Ar outer s' H vs Q E hr hh => ?_)
  · obtain ⟨s, cc, M, us, ds, m, rfl, _, _, _, _, hv, hp, _⟩ := hh
    have := hlen ds m hp
    rw [List.length_cons, ra_len hv]
    exact this
  obtain ⟨s, cc, M, us, ds, m, rfl, hS, sM, cM, hM, hv, hp, q⟩ := hh
  let W : WX := fun cls d _ H => E cls d H
  let c : Cn := cnX T n D 0 s
  have g : Good P w K mg base n D.N (defScope D.st) W (cxOf (CX P w) P w K mg base D.N D.nm (defScope D.st) A.f cdv Ar outer s' H E) :=
    ⟨rfl, rfl, rfl, rfl, rfl, rfl, SC.nd, rfl, hr, fun x v h => .inl h, takes_of rfl rfl rfl rfl, fun _ _ => rfl, SC.kind⟩
  refine ⟨tSs P w K mg base n D.N (defScope D.st) W (defBody D.st), bss (c := c) ⟨g, passes_of rfl⟩ _, ?_⟩
  have R : Rel c K H M M (L2.start D.N (.ref s :: us)) H (entryX D.N ds) := rel_startX (c := c) SC (hlen ds m hp) hM hv h0 ho0 (fun x hx => by
    show (D.own.any fun y => decide (y = x)) = false
    rw [List.any_eq_false]
    intro y hy
    have : y ≠ x := fun z => ho x hx (by rw [← z]; exact hy)
    simpa using this) rfl
  refine h W s cc ds m hp H M M (L2.start D.N (.ref s :: us)) H ⟨sM, cM, ⟨0, rfl, rfl⟩, H, ExM.refl _ _, hS, R⟩ _ fun fl m1 hf => ?_
  cases fl with
  | rt d => exact fun v H' x1 S1 hv => q d m1 v H' hf x1 S1 hv
  | nx ρ' =>
    intro M' σ' H' R' _
    have S' := R'.S
    obtain ⟨H0', a1, a2, R0'⟩ := R'.R
    exact q .none m1 .non H' hf (a1.trans (ExM.of R0'.ext)) S' .non
  | bk ρ' => exact hf.elim
  | ct ρ' => exact hf.elim
/-- .. and a name for it, for callers -/
theorem dr_of {k : Nat} {f : Str} {D : Df} {pr : List PyData → Nat → Prop} {po : List PyData → Nat → PyData → Nat → Prop} (A : AtN K mg f D.nm D.st D.ps) (F : FnOk P w K mg base (CX P w) k A.f A.fd D.ps (spD K pr po)) : Dr P w K mg base k f pr po :=
  ⟨k, A.f, A.fd, D.ps, Nat.le_refl _, A.g, A.F.kp, A.b, .inr F⟩
end
end PY
namespace PY
open PySem PySem.Spec PyProof.Rows L2 DK DD
section
variable {P : Program} {w : World} {K : PySem.W.Frag} {mg : Str → Option Value} {base : Heap} {k : Nat} {c : Cn} {sc : Scope} {W : WX} {s cc : Addr} {ρ : En} {n : Nat} {Sf S1 : Fl → Nat → Prop} {st : Stmt} {sts : List Stmt}
theorem xs_mono (h : XS P w K mg base k c sc W s cc st ρ n S1) (m : ∀ fl n1, S1 fl n1 → Sf fl n1) : XS P w K mg base k c sc W s cc st ρ n Sf := fun Hs M0 M σ H R D p => h Hs M0 M σ H R D fun fl n1 hf => p fl n1 (m fl n1 hf)
/-- a statement, by what holds behind it, then the others -/
theorem xss_seq (h : XS P w K mg base k c sc W s cc st ρ n S1) (m : ∀ fl n1, S1 fl n1 → match fl with
    | .nx ρ' => XSs P w K mg base k c sc W s cc sts ρ' n1 Sf
    | o => Sf o n1) : XSs P w K mg base k c sc W s cc (st :: sts) ρ n Sf := xss_cons (xs_mono h m)
end
end PY

set_option Elab.async false
set_option linter.all false
set_option maxRecDepth 100000
set_option maxHeartbeats 4000000
/-! A caught error's word: list.count over data, a try's body in a good context. -/
namespace PY
open PySem PySem.Spec PyProof.Rows L2 DK DD
/-- l.count(x), over data -/
def rCntD (K : PySem.W.Frag) : V → List V → Hp → VK → Prop := fun x xs H Q => ∃ (a : Addr) (y : V) (d : PyData) (ds : List PyData), x = V.ref a ∧ xs = [y] ∧ Dp K H (V.ref a) (.list ds) ∧ Dp K H y d ∧ SeqAt.shaped (.list ds) = true ∧ SeqAt.shaped d = true ∧ Q (.int ((ds.countP fun z => PyData.eqv z d : Nat) : Int)) H
theorem mt_countD {X : Cx} (hu : X.A.units + 65 < cLine) : MtR X "list.count" (rCntD X.K) := by
  intro pins s σ H x xs v us Q I rx rxs h
  obtain ⟨a, y, d, ds, rfl, rfl, hl, hy, sl, sd, q⟩ := h
  cases rx
  cases rxs with
  | cons ry rt =>
    rename_i uy ut
    cases rt
    obtain ⟨bs, r1⟩ := Dp.reads I d y uy hy ry
    have hxs : PyData.canLayAll0 ds = true := SeqAt.canLay_of_shaped sl
    have hroom : X.A.units + 1 + min (PyData.depthAll ds) d.depth < cLine := room_in_shaped sd hu
    cases hl with
    | lst hs ha =>
      obtain ⟨its, rv, ⟨⟨cls, dd, data, sls⟩, n, ho, hc, hdn, hdt⟩, hlen⟩ := I.list hs
      simp only at hc hdt
      subst hc hdt
      obtain ⟨as, h4⟩ := Dp.readsAll I ds _ its ha rv
      have hmap : its.map (SeqAt.readOf s.heap) = ds := SeqAt.readsAll_map ds its as hxs h4
      refine call_meets PySem.F.slot_list_count ⟨_, ho, rfl⟩ PySem.F.entry_list_count (PySem.F.args_list_count_2 _ _)
        (SeqAt.list_countAt a its.toArray n dd sls uy (fun u => PyData.eqv (SeqAt.readOf s.heap u) d)) ⟨ho, SeqAt.items_eqAt (vs := its.toArray) (show ReadsAll s.heap its.toArray.toList ds as from h4) r1 hxs (SeqAt.canLay_of_shaped sd) hroom, ?_⟩
      have ec : its.toArray.toList.countP (fun u => PyData.eqv (SeqAt.readOf s.heap u) d) = ds.countP fun z => PyData.eqv z d := by
        rw [← hmap, List.countP_map]
        rfl
      refine ⟨.int ((ds.countP fun z => PyData.eqv z d : Nat) : Int), H, I.tok _, ⟨s.toks, ?_⟩, q⟩
      show Value.int ((its.toArray.toList.countP (fun u => PyData.eqv (SeqAt.readOf s.heap u) d) : Nat) : Int) s.toks = Value.int ((ds.countP fun z => PyData.eqv z d : Nat) : Int) s.toks
      rw [ec]
theorem good_tr {P : Program} {w : World} {K : PySem.W.Frag} {mg : Str → Option Value} {base : Heap} {k : Nat} {N : List Str} {sc : Scope} {W W' : WX} {X : Cx} (g : Good P w K mg base k N sc W X) {pn : List (Addr × Obj)} {xe : Value → Shared → Prop} (tk : Takes (X.tr pn xe) W') : Good P w K mg base k N sc W' (X.tr pn xe) :=
  ⟨g.eP, g.ew, g.eK, g.em, g.eb, g.eN, g.nd, g.calm, g.room, g.kd, tk, g.fnl, g.kf⟩
end PY

set_option Elab.async false
set_option linter.all false
set_option maxRecDepth 100000
set_option maxHeartbeats 4000000
/-! Data forgotten; a law's own def. -/
namespace PY
open PySem PySem.Spec PyProof.Rows L2 DK DD
section
variable {P : Program} {w : World} {K : PySem.W.Frag} {mg : Str → Option Value} {base : Heap} {k : Nat} {cl : Nat → Addr} {c : Cn} {sc : Scope} {W : WX} {s cc : Addr}
variable {σ : L2.St} {H Hs : Hp} {ρ ρ' : En} {M M0 : List Addr} {n m : Nat} {Sf : Fl → Nat → Prop} {sts : List Stmt}
/-- less is known -/
theorem XRel.forget (R : XRel c K s cc Hs M0 M σ H ρ n) (hl : ρ'.length = ρ.length) (hf : ∀ (i : Nat) (d : PyData), ρ'[i]? = some (some d) → ρ[i]? = some (some d)) (hn : FxN c ρ') : XRel c K s cc Hs M0 M σ H ρ' n := by
  obtain ⟨H0, a1, a2, R0⟩ := R.R
  refine ⟨R.sM, R.cM, R.same hn, H0, a1, a2, R0.ls, by rw [hl]; exact R0.lr, R0.ext, R0.d0, R0.dom, R0.sub, fun i x d h1 h2 h3 => R0.rd i x d h1 h2 (hf i d h3), fun i x d h1 h2 h3 => R0.own i x d h1 h2 (hf i d h3),
    fun i j x y d d' p h1 h2 h3 h4 h5 h6 => R0.inj i j x y d d' p h1 h2 h3 h4 (hf i d h5) (hf j d' h6), R0.fixO, fun i v h1 _ => ?_⟩
  obtain ⟨j, h2, h3⟩ := R.sl
  rw [h1] at h2
  cases h2
  exact R0.fix i _ h1 h3
theorem xss_forget (hl : ρ'.length = ρ.length) (hf : ∀ (i : Nat) (d : PyData), ρ'[i]? = some (some d) → ρ[i]? = some (some d)) (hn : FxN c ρ') (h : XSs P w K mg base k c sc W s cc sts ρ' n Sf) : XSs P w K mg base k c sc W s cc sts ρ n Sf := fun Hs M0 M σ H R D p => h Hs M0 M σ H (R.forget hl hf hn) D p
theorem none_all (N : Nat) : ∀ (i : Nat) (d : PyData), (List.replicate N (none : Option PyData))[i]? = some (some d) → ρ[i]? = some (some d) := fun i d h => by
  rw [List.getElem?_replicate] at h
  split at h <;> cases h
/-- statements without draws, to their end -/
theorem xss_p {wf : Nat} {d : PyData} (mm : Mdl P w K mg base k cl c) (h : seqD (evS c wf sc m) sts ρ = .ok (.rt d)) (q : Sf (.rt d) n) : XSs P w K mg base k c sc W s cc sts ρ n Sf := fun Hs M0 M σ H R D p => by
  obtain ⟨H0, a1, a2, R0⟩ := R.R
  have z := ok_seq (cl := cl) (H0 := H0) (M0 := M0) (fun st ρ => es_ok (cl := cl) mm wf sc W H0 M0 m st ρ) sts ρ M σ H R0 D
  rw [h] at z
  exact z fun v H' x hv => p _ _ q v H' (a1.trans (ExM.of x)) (a2.ex1 x) hv
theorem domS {s c : Addr} {n : Nat} {H : Hp} (S : Src H s c n) : Dom [s, c] H := fun m hm => by
  obtain ⟨_, ks, t, h1, h2, _⟩ := S
  simp only [List.mem_cons, List.not_mem_nil, or_false] at hm
  rcases hm with rfl | rfl
  · rw [h1]; exact fun z => nomatch z
  · rw [h2]; exact fun z => nomatch z
/-- at the law's first rows' end: nothing is told but the source -/
theorem xrel_law {i : Nat} {x : Str} {N : Nat} (S : Src H s cc n) (hN : c.N.length = N) (hσ : σ.length = N) (hfx : c.fx = some (i, .ref s)) (hx : c.N[i]? = some x) (ho : c.isOwn x = true) (hs : σ[i]? = some (some (.ref s))) : XRel c K s cc H [s, cc] [s, cc] σ H (List.replicate N none) n := by
  have no : ∀ (i : Nat) (d : PyData), (List.replicate N (none : Option PyData))[i]? ≠ some (some d) := fun i d h => by
    rw [List.getElem?_replicate] at h
    split at h <;> cases h
  have hi : i < N := by
    rw [← hN]
    exact (List.getElem?_eq_some_iff.mp hx).1
  refine ⟨by simp, by simp, ⟨i, hfx, by rw [List.getElem?_replicate, if_pos hi]⟩, H, ExM.refl _ _, S, by rw [hN]; exact hσ, by rw [List.length_replicate, hN], Evl.Ex.refl _, domS S, domS S, fun _ h => h, fun i x d _ _ h => absurd h (no i d), fun i x d _ _ h => absurd h (no i d), fun i j x y d d' p _ _ _ _ h => absurd h (no i d), fun j v h => ?_, fun j v h _ => ?_⟩
  · rw [hfx] at h
    cases h
    exact ⟨x, hx, ho⟩
  · rw [hfx] at h
    cases h
    exact hs
end
/-- .. the answer True, whatever the numbers -/
def spLaw (K : PySem.W.Frag) : Sp := fun vs H Q _ => ∃ (a : Addr) (ns : List Int), vs = [.ref a] ∧ SqL K H a (ns.map V.int) ∧ ns.length ≤ 63 ∧ ∀ H', Q (.bl true) H'
/-- no error leaves the law -/
theorem fn_calm {P : Program} {w : World} {K : PySem.W.Frag} {mg : Str → Option Value} {base : Heap} {k : Nat} {f : Addr} {fd : FuncData} {ps : List Str} (F : FnOk P w K mg base (CX P w) k f fd ps (spLaw K)) : FnOk P w K mg base CX0 k f fd ps (spLaw K) := by
  refine ⟨F.len, fun A outer s H args us vs Q E hr he hb hv hs => ?_⟩
  obtain ⟨a, ns, h1, h2, h3, h4⟩ := hs
  have z := F.run A outer s H args us vs Q E0 hr he hb hv ⟨a, ns, h1, h2, h3, h4⟩
  refine codeAny_mono z fun r s' hr => ?_
  cases r with
  | ok fl => cases fl <;> exact hr
  | error e =>
    obtain ⟨_, _, _, _, _, _, _, _, _, _, _, _, z⟩ := (show CX P w outer H s E0 e s' from hr)
    exact z.elim
end PY

set_option Elab.async false
set_option linter.all false
set_option maxRecDepth 100000
set_option maxHeartbeats 4000000
/-! Contracts that say more than data: a new list is told as new. -/
namespace PY
open PySem PySem.Spec PyProof.Rows L2 DK DD
/-- a def under a promise -/
structure Fs (P : Program) (w : World) (K : PySem.W.Frag) (mg : Str → Option Value) (base : Heap) (k : Nat) (f : Str) (sp : Sp) : Prop where
  ex : ∃ (kf : Nat) (fa : Addr) (fd : FuncData) (ps : List Str), kf ≤ k ∧ mg f = some (.ref fa) ∧ PySem.W.keepIn K (.ref fa) = true ∧ Binds K fd ps [] ∧ FnOk P w K mg base (CX P w) kf fa fd ps sp
/-- .. that answers with a new list -/
def spN (K : PySem.W.Frag) (pre : List PyData → List PyData → Prop) : Sp := fun vs H Q _ => ∃ M ds es, Dom M H ∧ RvA K (mi H M) vs ds ∧ pre ds es ∧ ∀ p us H', H p = none → Evl.Ex H H' → H' p = some (.lst us) → RvA K (mi H' (p :: M)) us es → Q (.ref p) H'
section
variable {P : Program} {w : World} {K : PySem.W.Frag} {mg : Str → Option Value} {base : Heap} {k : Nat} {cl : Nat → Addr} {c : Cn} {sc : Scope} {W : WX} {T : Tab}
variable {σ : L2.St} {H H' H0 : Hp} {ρ ρ' : En} {M M' M0 : List Addr} {N : List Str}
theorem Fs.mono {f : Str} {sp : Sp} {k' : Nat} (h : Fs P w K mg base k f sp) (l : k ≤ k') : Fs P w K mg base k' f sp := by
  obtain ⟨kf, fa, fd, ps, h1, h2⟩ := h.ex
  exact ⟨kf, fa, fd, ps, Nat.le_trans h1 l, h2⟩
theorem fs_of {f : Str} {D : Df} {sp : Sp} (A : AtN K mg f D.nm D.st D.ps) (F : FnOk P w K mg base (CX P w) k A.f A.fd D.ps sp) : Fs P w K mg base k f sp := ⟨k, A.f, A.fd, D.ps, Nat.le_refl _, A.g, A.F.kp, A.b, F⟩
theorem pe_fs {f : Str} {sp : Sp} {p pos : Pos} {e1 : Expr} {es : List Expr} {ta : TA} {X : Cx} (D : Fs P w K mg base k f sp) (g : Good P w K mg base k N sc W X) (hn : nmOf N sc f = .glob) (h1 : noStar e1 = true) (hs : es.all noStar = true) (pa : PA X (e1 :: es) ta) : PE X (.Call (.Name f p) (e1 :: es) [] pos) (tCall sp [] E0 ta) := by
  obtain ⟨kf, fa, fd, ps, hk, hm, hkp, hb, F⟩ := D.ex
  obtain ⟨g1, g2⟩ := nm_glob hn
  have hP := g.eP
  have hw := g.ew
  have hK := g.eK
  have hm' := g.em
  have hb' := g.eb
  exact pe_call (CX := CX P w) (k := kf) (by rw [hP, hw, hK, hm', hb']; exact F) (g.room.mono hk) (g.gl g1) (by rw [hm']; exact hm) (by rw [hK]; exact hkp) (by rw [hK]; exact hb) .nil (by rw [← hP, ← hw]; exact passL) pa g2 (star1 h1) (star_all hs)
/-- .. an error of its goes where ours go -/
theorem pe_fsE {f : Str} {sp : Sp} {p pos : Pos} {e1 : Expr} {es : List Expr} {ta : TA} {X : Cx} (D : Fs P w K mg base k f sp) (g : Good P w K mg base k N sc W X) (hn : nmOf N sc f = .glob) (h1 : noStar e1 = true) (hs : es.all noStar = true) (pa : PA X (e1 :: es) ta) : PE X (.Call (.Name f p) (e1 :: es) [] pos) (tCallS sp (WE W) ta) := by
  obtain ⟨kf, fa, fd, ps, hk, hm, hkp, hb, F⟩ := D.ex
  obtain ⟨g1, g2⟩ := nm_glob hn
  have hP := g.eP
  have hw := g.ew
  have hK := g.eK
  have hm' := g.em
  have hb' := g.eb
  exact pe_callS (CX := CX P w) (k := kf) (by rw [hP, hw, hK, hm', hb']; exact F) (g.room.mono hk) (g.gl g1) (by rw [hm']; exact hm) (by rw [hK]; exact hkp) (by rw [hK]; exact hb) (fun σ => by rw [← hP, ← hw]; exact passAt g.tk σ) pa g2 (star1 h1) (star_all hs)
/-- the readings of some statements, then what is behind them -/
def tL (P : Program) (w : World) (K : PySem.W.Frag) (mg : Str → Option Value) (base : Heap) (k : Nat) (N : List Str) (sc : Scope) (W : WX) : List Stmt → TS → TS
  | [], t => t
  | st :: sts, t => tSeq (tS P w K mg base k N sc W st) (tL P w K mg base k N sc W sts t)
theorem pss_tL {X : Cx} (g : GoodS P w K mg base k c.N sc W X) {more : List Stmt} {t : TS} (h : PSs X more t) : ∀ sts, PSs X (sts ++ more) (tL P w K mg base k c.N sc W sts t)
  | [] => h
  | st :: sts => pss_cons (bs g st) (pss_tL g h sts)
theorem ok_tL {f : Stmt → En → Rs Fl} {D : Ends} {t : TS} (h : ∀ st ρ, OkS P w K mg base k cl c sc W H0 M0 st ρ (f st ρ)) : ∀ (sts : List Stmt) (ρ : En) (M : List Addr) (σ : L2.St) (H : Hp), Rel c K H0 M0 M σ H ρ → seqD f sts ρ = .ok (.nx ρ') → (∀ M' σ' H', Rel c K H0 M0 M' σ' H' ρ' → Step M H M' H' → t D σ' H') → tL P w K mg base k c.N sc W sts t D σ H
  | [], ρ, M, σ, H, R, e, q => by
    cases e
    exact q M σ H R (Step.refl _ _)
  | st :: sts, ρ, M, σ, H, R, e, q => by
    unfold seqD at e
    refine h st ρ M σ H R _ ?_
    cases hr : f st ρ with
    | ok fl =>
      rw [hr] at e
      cases fl with
      | nx ρ1 => exact fun M' σ' H' R' s => ok_tL h sts ρ1 M' σ' H' R' e fun M2 σ2 H2 R2 s2 => q M2 σ2 H2 R2 (s.trans R'.dom s2)
      | bk ρ1 => cases e
      | ct ρ1 => cases e
      | rt d => cases e
    | er i => rw [hr] at e; cases e
    | no => rw [hr] at e; cases e
theorem ok_tLs {f : Stmt → En → Rs Fl} {D : Ends} {t : TS} (h : ∀ st ρ, OkS P w K mg base k cl c sc W H0 M0 st ρ (f st ρ)) : ∀ (sts : List Stmt) (ρ : En) (M : List Addr) (σ : L2.St) (H : Hp), Rel c K H0 M0 M σ H ρ → (match seqD f sts ρ with
      | .ok (.nx ρ') => ∀ M' σ' H', Rel c K H0 M0 M' σ' H' ρ' → Step M H M' H' → t D σ' H'
      | .er i => ∀ σ' H', Evl.Ex H0 H' → W (.ref (cl i)) none σ' H'
      | _ => False) → tL P w K mg base k c.N sc W sts t D σ H
  | [], ρ, M, σ, H, R, q => q M σ H R (Step.refl _ _)
  | st :: sts, ρ, M, σ, H, R, q => by
    refine h st ρ M σ H R _ ?_
    unfold seqD at q
    cases hr : f st ρ with
    | ok fl =>
      rw [hr] at q
      cases fl with
      | nx ρ1 =>
        refine fun M' σ' H' R' s => ok_tLs h sts ρ1 M' σ' H' R' ?_
        have q' : match seqD f sts ρ1 with
          | .ok (.nx ρ') => ∀ M' σ' H', Rel c K H0 M0 M' σ' H' ρ' → Step M H M' H' → t D σ' H'
          | .er i => ∀ σ' H', Evl.Ex H0 H' → W (.ref (cl i)) none σ' H'
          | _ => False := q
        cases hz : seqD f sts ρ1 with
        | ok fl =>
          rw [hz] at q'
          cases fl with
          | nx ρ2 => exact fun M2 σ2 H2 R2 s2 => q' M2 σ2 H2 R2 (s.trans R'.dom s2)
          | bk ρ1 => exact q'
          | ct ρ1 => exact q'
          | rt d => exact q'
        | er i => rw [hz] at q'; exact q'
        | no => rw [hz] at q'; exact q'
      | bk ρ1 => exact q.elim
      | ct ρ1 => exact q.elim
      | rt d => exact q.elim
    | er i => rw [hr] at q; exact q
    | no => rw [hr] at q; exact q.elim
/-- a def's text, its first statements by the reckoning, its last by hand -/
theorem pre_def (S : Stands P w K mg base cl T) {n : Nat} {f : Str} {D : Df} {init more : List Stmt} {sp : Sp} (A : AtN K mg f D.nm D.st D.ps) (SC : FnScope D.N D.ps (defScope D.st)) (hown : ∀ x ∈ D.ps, x ∉ D.own) (hb : defBody D.st = init ++ more)
    (h : ∀ vs H Q E, sp vs H Q E → ∃ M ds ρ', Dom M H ∧ RvA K (mi H M) vs ds ∧ ds.length = D.ps.length ∧ seqD (evS (cnAt T n (run T n) D) T.wf (defScope D.st) 12) init (entry D.N ds) = .ok (.nx ρ') ∧
      ∀ W, ∃ t : TS, (∀ X, GoodS P w K mg base n D.N (defScope D.st) W X → PSs X more t) ∧ ∀ M' σ' H' D0, Rel (cnAt T n (run T n) D) K H M M' σ' H' ρ' → (∀ v H'', Q v H'' → D0.rt v H'') → t D0 σ' H') : FnOk P w K mg base (CX P w) (n + 1) A.f A.fd D.ps sp := by
  refine A.F.okX SC (fun vs H Q E hh => ?_) (fun cdv Ar outer s' H vs Q E hr hh => ?_)
  · obtain ⟨M, ds, ρ', _, hv, hl, _⟩ := h vs H Q E hh
    rw [ra_len hv]
    exact hl
  obtain ⟨M, ds, ρ', hM, hv, hl, hs, hmore⟩ := h vs H Q E hh
  let W : WX := fun cls d _ H => E cls d H
  let c : Cn := cnAt T n (run T n) D
  have mm : Mdl P w K mg base n cl c := mdl_at S n _ rfl rfl rfl rfl
  have g : Good P w K mg base n D.N (defScope D.st) W (cxOf (CX P w) P w K mg base D.N D.nm (defScope D.st) A.f cdv Ar outer s' H E) :=
    ⟨rfl, rfl, rfl, rfl, rfl, rfl, SC.nd, rfl, hr, fun x v h => .inl h, takes_of rfl rfl rfl rfl, fun _ _ => rfl, SC.kind⟩
  obtain ⟨t, ht, run⟩ := hmore W
  have gS : GoodS P w K mg base n c.N (defScope D.st) W (cxOf (CX P w) P w K mg base D.N D.nm (defScope D.st) A.f cdv Ar outer s' H E) := ⟨g, passes_of rfl⟩
  refine ⟨tL P w K mg base n D.N (defScope D.st) W init t, by rw [hb]; exact pss_tL (c := c) gS (ht _ gS) init, ?_⟩
  refine ok_tL (c := c) (fun st ρ => es_ok mm T.wf (defScope D.st) W H M 12 st ρ) init (entry D.N ds) M (L2.start D.N vs) H (rel_start (c := c) SC hl hM hv (fun x hx => ?_) rfl) hs fun M' σ' H' R' _ => run M' σ' H' _ R' fun v H'' q => q
  show (D.own.any fun y => decide (y = x)) = false
  rw [List.any_eq_false]
  intro y hy
  have : y ≠ x := fun z => hown x hx (by rw [← z]; exact hy)
  simpa using this
/-- a def that answers with its own list -/
theorem new_def (S : Stands P w K mg base cl T) {n i : Nat} {f x : Str} {D : Df} {init : List Stmt} {p p' : Pos} {pre : List PyData → List PyData → Prop} (A : AtN K mg f D.nm D.st D.ps) (SC : FnScope D.N D.ps (defScope D.st)) (hown : ∀ x ∈ D.ps, x ∉ D.own) (hb : defBody D.st = init ++ [.Return (some (.Name x p)) p'])
    (hn : nmOf D.N (defScope D.st) x = .slot i) (hx : (D.own.any fun y => decide (y = x)) = true)
    (h : ∀ ds es, pre ds es → ds.length = D.ps.length ∧ ∃ ρ', seqD (evS (cnAt T n (run T n) D) T.wf (defScope D.st) 12) init (entry D.N ds) = .ok (.nx ρ') ∧ ρ'[i]? = some (some (.list es))) : FnOk P w K mg base (CX P w) (n + 1) A.f A.fd D.ps (spN K pre) := by
  refine pre_def S A SC hown hb fun vs H Q E hh => ?_
  obtain ⟨M, ds, es, hM, hv, hp, q⟩ := hh
  obtain ⟨hl, ρ', hs, hi⟩ := h ds es hp
  refine ⟨M, ds, ρ', hM, hv, hl, hs, fun W => ⟨tRet (tVar i), fun X g => pss_one (ps_ret (pvar (c := cnAt T n (run T n) D) hn g.1)), fun M' σ' H' D0 R hD => ?_⟩⟩
  obtain ⟨n1, n2, n3, n4⟩ := nm_slot hn
  obtain ⟨a, us, es', z, k1, k2, k3, k4, k5⟩ := R.own i x _ n1 hx hi
  cases z
  refine ⟨_, k1, hD _ _ (q a us H' k3 R.ext k4 (rlesss (fun m hm => ?_) k5))⟩
  rcases List.mem_cons.mp hm with rfl | hm
  · exact k2
  · exact R.sub m hm
/-- a def that answers with a new list -/
theorem newE_def (S : Stands P w K mg base cl T) {n : Nat} {f : Str} {D : Df} {init : List Stmt} {e : Expr} {p' : Pos} {pre : List PyData → List PyData → Prop} (A : AtN K mg f D.nm D.st D.ps) (SC : FnScope D.N D.ps (defScope D.st)) (hown : ∀ x ∈ D.ps, x ∉ D.own) (hb : defBody D.st = init ++ [.Return (some e) p'])
    (h : ∀ ds es, pre ds es → ds.length = D.ps.length ∧ ∃ ρ', seqD (evS (cnAt T n (run T n) D) T.wf (defScope D.st) 12) init (entry D.N ds) = .ok (.nx ρ') ∧ evN (cnAt T n (run T n) D) 40 (defScope D.st) true e ρ' = .ok es) : FnOk P w K mg base (CX P w) (n + 1) A.f A.fd D.ps (spN K pre) := by
  refine pre_def S A SC hown hb fun vs H Q E hh => ?_
  obtain ⟨M, ds, es, hM, hv, hp, q⟩ := hh
  obtain ⟨hl, ρ', hs, he⟩ := h ds es hp
  have mm : Mdl P w K mg base n cl (cnAt T n (run T n) D) := mdl_at S n _ rfl rfl rfl rfl
  refine ⟨M, ds, ρ', hM, hv, hl, hs, fun W => ⟨tRet (tB P w K mg base n D.N (defScope D.st) W e), fun X g => pss_one (ps_ret (be g.1 e)), fun M' σ' H' D0 R hD => ?_⟩⟩
  have z := (ev_ok (cl := cl) mm 40).2.1 (defScope D.st) W (lv M M') σ' H' ρ' R.cxt true e H' (Evl.Ex.refl _) (fun v H'' => D0.rt v H'')
  rw [he] at z
  exact z fun a us H2 hn x hp hu => hD _ _ (q a us H2 (Evl.fresh_back R.ext hn) (R.ext.trans x) hp hu)
/-! the masks -/
/-- a slot of which nothing is told any more -/
theorem Rel.offS {i : Nat} {σ' : L2.St} (R : Rel c K H0 M0 M σ H ρ) (hi : ∀ v, c.fx ≠ some (i, v)) (hl : σ'.length = σ.length) (hs : ∀ j, i ≠ j → σ'[j]? = σ[j]?) : Rel c K H0 M0 M σ' H (ρ.set i none) := by
  have get : ∀ (j : Nat) (d : PyData), (ρ.set i none)[j]? = some (some d) → i ≠ j := fun j d h z => by
    subst z
    rw [List.getElem?_set] at h
    split at h
    · split at h <;> cases h
    · rename_i h'
      exact h' rfl
  refine ⟨by rw [hl, R.ls], by rw [List.length_set, R.lr], R.ext, R.d0, R.dom, R.sub, fun j y d h1 h2 h3 => ?_, fun j y d h1 h2 h3 => ?_, fun j l y z d1 d2 q h1 h2 h3 h4 h5 h6 h7 h8 => ?_, R.fixO, fun j v h1 h2 => ?_⟩
  · have ne := get j d h3
    rw [List.getElem?_set_ne ne] at h3
    rw [hs j ne]
    exact R.rd j y d h1 h2 h3
  · have ne := get j d h3
    rw [List.getElem?_set_ne ne] at h3
    rw [hs j ne]
    exact R.own j y d h1 h2 h3
  · have e1 := get j d1 h5
    have e2 := get l d2 h6
    rw [List.getElem?_set_ne e1] at h5
    rw [List.getElem?_set_ne e2] at h6
    rw [hs j e1] at h7
    rw [hs l e2] at h8
    exact R.inj j l y z d1 d2 q h1 h2 h3 h4 h5 h6 h7 h8
  · have ne : i ≠ j := fun z => hi v (by rw [z]; exact h1)
    rw [List.getElem?_set_ne ne] at h2
    rw [hs j ne]
    exact R.fix j v h1 h2
theorem Rel.off {i : Nat} {x : Option V} (R : Rel c K H0 M0 M σ H ρ) (hi : ∀ v, c.fx ≠ some (i, v)) : Rel c K H0 M0 M (σ.set i x) H (ρ.set i none) :=
  R.offS hi (by rw [List.length_set]) fun j ne => List.getElem?_set_ne ne
/-- new addresses are set apart -/
theorem mi_big {A : List Addr} (hA : ∀ a ∈ A, H a = none) : Evl.Ex (mi H M) (mi H (A ++ M)) := fun a o h => by
  obtain ⟨h1, h2⟩ := mi_some h
  refine mi_of (fun z => ?_) h2
  rcases List.mem_append.mp z with z | z
  · rw [hA a z] at h2
    cases h2
  · exact h1 z
theorem Rel.big {A : List Addr} (R : Rel c K H0 M0 M σ H ρ) (hA : ∀ a ∈ A, H a = none) (e : Evl.Ex H H') (hA' : ∀ a ∈ A, H' a ≠ none) : Rel c K H0 M0 (A ++ M) σ H' ρ := by
  have R' := R.ex e
  refine ⟨R.ls, R.lr, R'.ext, R.d0, fun a ha => ?_, fun a ha => List.mem_append.mpr (.inr (R.sub a ha)), fun j y d h1 h2 h3 => ?_, fun j y d h1 h2 h3 => ?_, R.inj, R.fixO, R.fix⟩
  · rcases List.mem_append.mp ha with z | z
    · exact hA' a z
    · exact R'.dom a z
  · obtain ⟨v, k1, k2⟩ := R.rd j y d h1 h2 h3
    exact ⟨v, k1, re e (rx (mi_big hA) _ _ k2)⟩
  · obtain ⟨q, us, es, k1, k2, k3, k4, k5, k6⟩ := R.own j y d h1 h2 h3
    exact ⟨q, us, es, k1, k2, List.mem_append.mpr (.inr k3), k4, e _ _ k5, res e (rxs (mi_big hA) _ _ k6)⟩
/-- less is set apart: what the own lists stand at stays -/
theorem Rel.less (R : Rel c K H0 M0 M σ H ρ) (l : ∀ m, m ∈ M' → m ∈ M) (hs : ∀ a, a ∈ M0 → a ∈ M') (ho : ∀ (j : Nat) (y : Str) (d : PyData) (p : Addr), c.N[j]? = some y → c.isOwn y = true → ρ[j]? = some (some d) → σ[j]? = some (some (.ref p)) → p ∈ M') : Rel c K H0 M0 M' σ H ρ := by
  refine ⟨R.ls, R.lr, R.ext, R.d0, fun a ha => R.dom a (l a ha), hs, fun j y d h1 h2 h3 => ?_, fun j y d h1 h2 h3 => ?_, R.inj, R.fixO, R.fix⟩
  · obtain ⟨v, k1, k2⟩ := R.rd j y d h1 h2 h3
    exact ⟨v, k1, rless l k2⟩
  · obtain ⟨q, us, es, k1, k2, k3, k4, k5, k6⟩ := R.own j y d h1 h2 h3
    exact ⟨q, us, es, k1, k2, ho j y d q h1 h2 h3 k2, k4, k5, rlesss l k6⟩
/-- an own slot's list is told -/
theorem Rel.adopt {i : Nat} {x : Str} {p : Addr} {vs : List V} {ds : List PyData} (R : Rel c K H0 M0 M σ H ρ) (hx : c.N[i]? = some x) (ho : c.isOwn x = true) (hσ : σ[i]? = some (some (.ref p))) (pM : p ∈ M) (h0 : H0 p = none) (hp : H p = some (.lst vs)) (hv : RvA K (mi H M) vs ds)
    (hN : ∀ (j : Nat) (y : Str) (d : PyData), i ≠ j → c.N[j]? = some y → c.isOwn y = true → ρ[j]? = some (some d) → σ[j]? ≠ some (some (.ref p))) : Rel c K H0 M0 M σ H (setE i (.list ds) ρ) := by
  unfold setE
  have hi : i < ρ.length := by rw [R.lr]; exact (List.getElem?_eq_some_iff.mp hx).1
  refine ⟨R.ls, by rw [List.length_set, R.lr], R.ext, R.d0, R.dom, R.sub, fun j y d' h1 h2 h3 => ?_, fun j y d' h1 h2 h3 => ?_, fun j l y z d1 d2 q h1 h2 h3 h4 h5 h6 h7 h8 => ?_, R.fixO, fun j v' h1 h2 => R.fix j v' h1 (set_none hi h2).2⟩
  · have ne : i ≠ j := fun z => by
      subst z
      rw [hx] at h1
      cases h1
      rw [ho] at h2
      cases h2
    rw [List.getElem?_set_ne ne] at h3
    exact R.rd j y d' h1 h2 h3
  · by_cases ne : i = j
    · subst ne
      rw [List.getElem?_set_self hi] at h3
      cases h3
      exact ⟨p, vs, ds, rfl, hσ, pM, h0, hp, hv⟩
    · rw [List.getElem?_set_ne ne] at h3
      exact R.own j y d' h1 h2 h3
  · by_cases n1 : i = j
    · by_cases n2 : i = l
      · exact n1.symm.trans n2
      · subst n1
        rw [List.getElem?_set_ne n2] at h6
        rw [hσ] at h7
        cases h7
        exact absurd h8 (hN l z d2 n2 h2 h4 h6)
    · by_cases n2 : i = l
      · subst n2
        rw [List.getElem?_set_ne n1] at h5
        rw [hσ] at h8
        cases h8
        exact absurd h7 (hN j y d1 n1 h1 h3 h5)
      · rw [List.getElem?_set_ne n1] at h5
        rw [List.getElem?_set_ne n2] at h6
        exact R.inj j l y z d1 d2 q h1 h2 h3 h4 h5 h6 h7 h8
end
end PY

set_option Elab.async false
set_option linter.all false
set_option maxRecDepth 100000
set_option maxHeartbeats 4000000
/-! More statements: a comprehension to a cell, two names at once, a call that makes a new list. -/
namespace PY
open PySem PySem.Spec PyProof.Rows L2 DK DD
section
variable {P : Program} {w : World} {K : PySem.W.Frag} {mg : Str → Option Value} {base : Heap} {k : Nat} {cl : Nat → Addr} {c : Cn} {sc : Scope} {W : WX} {s cc : Addr}
variable {σ : L2.St} {H H' H1 H0 Hs : Hp} {e a b tg : Expr} {es : List Expr} {ρ ρ' : En} {M M' M0 : List Addr} {n n1 m : Nat} {Sf : Fl → Nat → Prop} {st : Stmt} {sts : List Stmt}
theorem kindCell {x : Str} {X : Cx} (g : Good P w K mg base k c.N sc W X) (hc : sc.names.lookup x = some .cell) : X.env.kindOf x = some .cell := by
  rcases g.kd x _ hc with q | ⟨q, _⟩
  · exact q
  · cases q
theorem kindLocal {x : Str} {X : Cx} (g : Good P w K mg base k c.N sc W X) (hc : sc.names.lookup x = some .local) : X.env.kindOf x = some .local := by
  rcases g.kd x _ hc with q | ⟨q, _⟩
  · exact q
  · cases q
theorem blkFn {X : Cx} (g : Good P w K mg base k c.N sc W X) : X.env.blockKind = .function := by
  unfold Env.blockKind
  rw [g.kf] <;> rfl
theorem sw_cell {x : Str} {p pos : Pos} {ln : Nat} {X : Cx} {elt : Expr} {gens : List Comprehension} {sc' : Scope} (g : Good P w K mg base k c.N sc W X) (hc : sc.names.lookup x = some .cell) : swapsWith (.ListComp elt gens sc' pos) (some (.Name x p)) ln X.env = pure false := by
  unfold swapsWith
  show pure (X.env.blockKind == .function && X.env.kindOf x == some .local && p.line == pos.line && !(sc'.names.any fun (n, k) => n == x && (k == .local || k == .cell))) = pure false
  rw [kindCell g hc, show ((some NameKind.cell : Option NameKind) == some .local) = false from rfl, Bool.and_false, Bool.false_and, Bool.false_and]
/-- name = [.. for ..], the name a cell -/
theorem xs_setC {x : Str} {p pos lp : Pos} {i : Nat} {elt : Expr} {gens : List Comprehension} {sc' : Scope} (hn : nmOf c.N sc x = .slot i) (hc : sc.names.lookup x = some .cell) (ho : c.isOwn x = false)
    (h : XE P w K mg base k c sc W s cc false (.ListComp elt gens sc' lp) ρ n fun d n1 => Sf (.nx (setE i d ρ)) n1) : XS P w K mg base k c sc W s cc (.Assign [.Name x p] (.ListComp elt gens sc' lp) pos) ρ n Sf := fun Hs M0 M σ H R D q => by
  obtain ⟨n1, n2, n3, n4⟩ := nm_slot hn
  refine ⟨tAsg (tB P w K mg base k c.N sc W (.ListComp elt gens sc' lp)) (gName i), fun X g => ps_set (by rw [g.1.eN]; exact g.1.nd) (by rw [g.1.eN]; exact n1) (g.1.loc (.inr hc)) (be g.1 _) (sw_cell g.1 hc) (g.1.hf (.inr hc)), ?_⟩
  refine h Hs M0 M σ H R _ fun d n2 v H1 h1 x1 S1 hv => ?_
  exact q _ _ h1 M _ H1 ((R.go x1 S1).set n1 ho hv) (Step.draw (R.mem false) x1)
theorem XRel.new {i : Nat} {x : Str} {p : Addr} {vs : List V} {ds : List PyData} (R : XRel c K s cc Hs M0 M σ H ρ n) (hx : c.N[i]? = some x) (ho : c.isOwn x = true) (hfx : ∀ v, c.fx ≠ some (i, v)) (hn : H p = none) (e : Evl.Ex H H') (hp : H' p = some (.lst vs)) (hv : RvA K (mi H' (p :: M)) vs ds) :
    XRel c K s cc Hs M0 (p :: M) (σ.set i (some (.ref p))) H' (setE i (.list ds) ρ) n ∧ Step M H (p :: M) H' := by
  obtain ⟨H0, a1, a2, R0⟩ := R.R
  refine ⟨⟨R.sM, R.cM, ?_, H0, a1, a2, R0.new hx ho hn e hp hv⟩, ⟨fun _ h => List.mem_cons_of_mem _ h, fun a ha => (List.mem_cons.mp ha).elim (fun z => .inr (by rw [z]; exact hn)) .inl, ExM.of e⟩⟩
  obtain ⟨j, h1, h2⟩ := R.sl
  refine ⟨j, h1, ?_⟩
  unfold setE
  rw [List.getElem?_set_ne fun z => hfx _ (by rw [z]; exact h1)]
  exact h2
theorem swapped2 {x y : Str} {px py pt p2 : Pos} {kt k2 : Nat} {X : Cx} (g : Good P w K mg base k c.N sc W X) (lx : sc.names.lookup x = some .local) (ly : sc.names.lookup y = some .local) (hxy : (x == y) = false) (hl : (py.line == px.line) = true)
    (sa : noStar a = true) (sb : noStar b = true) (h1 : [a, b].all (foldedForSure 8) = false) (h2 : [a, b].all (constantsAlone 8) = false) : swappedStores [.Tuple [.Name x px, .Name y py] kt pt] (.Tuple [a, b] k2 p2) X.env = pure (some [x, y]) := by
  have hk1 := kindLocal g lx
  have hk2 := kindLocal g ly
  have hb := blkFn g
  have st : [a, b].any (fun | .Starred .. => true | _ => false) = false := by
    cases a <;> first | (cases sa; done) | (cases b <;> first | (cases sb; done) | rfl)
  have hyx : (y == x) = false := by
    have : x ≠ y := by simpa using hxy
    simpa using (Ne.symm this)
  have hl' : py.line = px.line := by simpa using hl
  have q1 : (if (X.env.kindOf x == some NameKind.local && px.line == px.line) = true then some x else none) = some x := by simp [hk1]
  have q2 : (if (X.env.kindOf y == some NameKind.local && py.line == px.line) = true then some y else none) = some y := by simp [hk2, hl']
  have hed : ([x, y] : List Str).eraseDups.length = 2 := by
    simp [List.eraseDups_cons, hyx]
  have hp : (Expr.Name x px).pos = px := rfl
  unfold swappedStores
  simp only [List.length_cons, List.length_nil, List.head?_cons, Option.map_some, Option.getD_some, List.filterMap_cons, List.filterMap_nil, hb, hp, q1, q2, hed, h1, h2]
  refine (if_neg (by decide)).trans ?_
  refine (if_neg (fun z => absurd (st.symm.trans z) (by decide))).trans ?_
  rfl
/-- x, y = a, [] : y takes a new list -/
theorem xs_par {x y : Str} {px py pt p2 pl pos : Pos} {kt k2 i j : Nat} (hx : nmOf c.N sc x = .slot i) (hy : nmOf c.N sc y = .slot j) (lx : sc.names.lookup x = some .local) (ly : sc.names.lookup y = some .local) (ox : c.isOwn x = false) (oy : c.isOwn y = true) (hfx : ∀ v, c.fx ≠ some (j, v)) (hxy : (x == y) = false) (hij : i ≠ j) (hl : (py.line == px.line) = true)
    (sa : noStar a = true) (h1 : [a, .List [] pl].all (foldedForSure 8) = false) (h2 : [a, .List [] pl].all (constantsAlone 8) = false)
    (h : XE P w K mg base k c sc W s cc false a ρ n fun d n1 => Sf (.nx (setE j (.list []) (setE i d ρ))) n1) : XS P w K mg base k c sc W s cc (.Assign [.Tuple [.Name x px, .Name y py] kt pt] (.Tuple [a, .List [] pl] k2 p2) pos) ρ n Sf := fun Hs M0 M σ H R D q => by
  obtain ⟨n1, n2, n3, n4⟩ := nm_slot hx
  obtain ⟨m1, m2, m3, m4⟩ := nm_slot hy
  refine ⟨tPar i j (tCons (tB P w K mg base k c.N sc W a) (tCons (tLst tNil) tNil)), fun X g => ps_par g.1.calm (by rw [g.1.eN]; exact g.1.nd) (by rw [g.1.eN]; exact n1) (by rw [g.1.eN]; exact m1) hij (kindLocal g.1 lx) (kindLocal g.1 ly) (pa_cons (be g.1 a) (pa_cons (pe_lst pa_nil) pa_nil rfl) (star1 sa)) (swapped2 g.1 lx ly hxy hl sa rfl h1 h2) rfl, ?_⟩
  refine h Hs M0 M σ H R _ fun d n2 v H1 hS x1 S1 hv => ?_
  refine ⟨Evl.sz_of (by simp), fun p hp => ⟨v, .ref p, rfl, ?_⟩⟩
  have R1 := (R.go x1 S1).set (d := d) n1 ox hv
  obtain ⟨R2, st2⟩ := R1.new (vs := []) (ds := []) m1 oy hfx hp (Evl.Ex.new hp) upd_same .nil
  exact q _ _ hS (p :: M) _ _ R2 ((Step.draw (R.mem false) x1).trans R1.R.choose_spec.2.2.dom st2)
/-- name = f(..), the name an own list's -/
theorem xs_new {f x : Str} {p p1 pos cp : Pos} {i : Nat} {e1 : Expr} {ds es' : List PyData} {pre : List PyData → List PyData → Prop} (mm : Mdl P w K mg base k cl c) (D : Fs P w K mg base k f (spN K pre)) (hf : nmOf c.N sc f = .glob) (hx : nmOf c.N sc x = .slot i) (lx : locN sc x = true) (ox : c.isOwn x = true) (hfx : ∀ v, c.fx ≠ some (i, v)) (h1 : noStar e1 = true) (hs : es.all noStar = true)
    (ha : evAll (fun e => evE c m sc false e ρ) (e1 :: es) = .ok ds) (hp : pre ds es') (q : Sf (.nx (setE i (.list es') ρ)) n) : XS P w K mg base k c sc W s cc (.Assign [.Name x p1] (.Call (.Name f p) (e1 :: es) [] cp) pos) ρ n Sf := fun Hs M0 M σ H R D' p' => by
  obtain ⟨n1, n2, n3, n4⟩ := nm_slot hx
  refine ⟨tAsg (tCall (spN K pre) [] E0 (tBA P w K mg base k c.N sc W (e1 :: es))) (gName i), fun X g => ps_set (by rw [g.1.eN]; exact g.1.nd) (by rw [g.1.eN]; exact n1) (g.1.loc (lok lx)) (pe_fs D g.1 hf h1 hs (ba g.1 _)) rfl (g.1.hf (lok lx)), ?_⟩
  have hA : XA P w K mg base k c sc W s cc false (e1 :: es) ρ n fun ds' n' => ds' = ds ∧ n' = n := xa_p mm (m := m) (by rw [List.all_cons, h1, hs] <;> rfl) ha ⟨rfl, rfl⟩
  refine hA Hs M0 M σ H R _ fun ds' n' vs H1 he x1 S1 hv => ?_
  obtain ⟨rfl, rfl⟩ := he
  have R1 := R.go x1 S1
  rw [List.append_nil]
  refine ⟨M, ds', es', R1.dom false, hv, hp, fun a us H2 hn e2 ha hu => ?_⟩
  obtain ⟨R2, st2⟩ := R1.new n1 ox hfx hn e2 ha hu
  exact p' _ _ q (a :: M) _ H2 R2 ((Step.draw (R.mem false) x1).trans (R1.dom false) st2)
end
end PY

set_option Elab.async false
set_option linter.all false
set_option maxRecDepth 100000
set_option maxHeartbeats 4000000
/-! A list that two rows make becomes a plain value. -/
namespace PY
open PySem PySem.Spec PyProof.Rows L2 DK DD
/-- one own list more -/
def Cn.plus (c : Cn) (x : Str) : Cn := { c with own := x :: c.own }
theorem plus_own {c : Cn} {x y : Str} : (c.plus x).isOwn y = (decide (x = y) || c.isOwn y) := rfl
section
variable {c : Cn} {K : PySem.W.Frag} {s cc : Addr} {Hs H H1 H2 H0 : Hp} {M0 M M1 M2 : List Addr} {σ σ2 : L2.St} {ρ ρ2 : En} {n n1 n2 i : Nat} {x : Str} {ds : List PyData}
theorem nd_ix (hnd : c.N.Nodup) {i j : Nat} {x : Str} (h1 : c.N[i]? = some x) (h2 : c.N[j]? = some x) : j = i := nodup_ix hnd h2 h1
theorem set_no {j : Nat} {d : PyData} (h : (ρ.set i none)[j]? = some (some d)) : j ≠ i ∧ ρ[j]? = some (some d) := by
  by_cases z : i = j
  · subst z
    rw [List.getElem?_set] at h
    simp only [if_true] at h
    split at h <;> cases h
  · rw [List.getElem?_set_ne z] at h
    exact ⟨fun q => z q.symm, h⟩
theorem XRel.up (R : XRel c K s cc Hs M0 M σ H ρ n) (hnd : c.N.Nodup) (hi : c.N[i]? = some x) (hfx : ∀ v, c.fx ≠ some (i, v)) (hno : ∀ (j : Nat) (y : Str) (d : PyData), c.N[j]? = some y → c.isOwn y = true → ρ[j]? ≠ some (some d)) :
    XRel (c.plus x) K s cc H M0 M σ H (ρ.set i none) n := by
  obtain ⟨H0, a1, a2, R0⟩ := R.R
  have own0 : ∀ (j : Nat) (y : Str) (d : PyData), c.N[j]? = some y → (c.plus x).isOwn y = true → (ρ.set i none)[j]? ≠ some (some d) := fun j y d h1 h2 h3 => by
    obtain ⟨e1, e2⟩ := set_no h3
    rw [plus_own, Bool.or_eq_true] at h2
    rcases h2 with h2 | h2
    · have : x = y := by simpa using h2
      subst this
      exact e1 (nd_ix hnd hi h1)
    · exact hno j y d h1 h2 e2
  refine ⟨R.sM, R.cM, ?_, H, ExM.refl _ _, R.S, R0.ls, by rw [List.length_set]; exact R0.lr, Evl.Ex.refl _, fun a ha => R0.dom a (R0.sub a ha), R0.dom, R0.sub, fun j y d h1 h2 h3 => ?_, fun j y d h1 h2 h3 => absurd h3 (own0 j y d h1 h2), fun j l y z d1 d2 q h1 h2 h3 h4 h5 => absurd h5 (own0 j y d1 h1 h3), fun j v h => ?_, fun j v h1 h2 => ?_⟩
  · obtain ⟨j, h1, h2⟩ := R.sl
    have ne : i ≠ j := fun z => hfx _ (by rw [z]; exact h1)
    exact ⟨j, h1, by rw [List.getElem?_set_ne ne]; exact h2⟩
  · obtain ⟨e1, e2⟩ := set_no h3
    refine R0.rd j y d h1 ?_ e2
    rw [plus_own, Bool.or_eq_false_iff] at h2
    exact h2.2
  · obtain ⟨y, h1, h2⟩ := R0.fixO j v h
    exact ⟨y, h1, by rw [plus_own, h2, Bool.or_true]⟩
  · refine R0.fix j v h1 ?_
    have ne : i ≠ j := fun z => hfx v (by rw [z]; exact h1)
    rw [List.getElem?_set_ne ne] at h2
    exact h2
theorem XRel.down (R : XRel (c.plus x) K s cc H M0 M2 σ2 H2 ρ2 n2) (hH : ExM [s, cc] Hs H) (dm : Dom M H) (st : Step M H M2 H2) (hnd : c.N.Nodup) (hi : c.N[i]? = some x) (hx : c.isOwn x = false) (hd : ρ2[i]? = some (some (.list ds))) :
    ∃ M3, XRel c K s cc Hs M0 M3 σ2 H2 ρ2 n2 ∧ Step M H M3 H2 := by
  obtain ⟨H0, a1, a2, R0⟩ := R.R
  obtain ⟨p, vs, es, e1, k2, k3, k4, k5, k6⟩ := R0.own i x _ hi (by rw [plus_own]; simp) hd
  cases e1
  have hHp : H p = none := by
    cases hz : H p with
    | none => rfl
    | some o =>
      have np : p ∉ [s, cc] := fun m => by
        simp only [List.mem_cons, List.not_mem_nil, or_false] at m
        rcases m with rfl | rfl
        · exact R0.d0 _ R.sM k4
        · exact R0.d0 _ R.cM k4
      rw [a1 p o np hz] at k4
      cases k4
  have hpM : p ∉ M := fun z => dm p z hHp
  let M3 := M2.filter fun a => decide (a ≠ p)
  have mem3 : ∀ a, a ∈ M3 ↔ a ∈ M2 ∧ a ≠ p := fun a => by simp [M3]
  have le : ∀ m, m ∈ M3 → m ∈ M2 := fun m hm => ((mem3 m).mp hm).1
  refine ⟨M3, ⟨R.sM, R.cM, R.sl, H0, hH.trans a1, a2, R0.ls, R0.lr, R0.ext, R0.d0, fun a ha => R0.dom a (le a ha), fun a ha => (mem3 a).mpr ⟨R0.sub a ha, fun z => R0.d0 a ha (by rw [z]; exact k4)⟩, fun j y d h1 h2 h3 => ?_, fun j y d h1 h2 h3 => ?_, fun j l y z d1 d2 q h1 h2 h3 h4 h5 h6 h7 h8 => R0.inj j l y z d1 d2 q h1 h2 (by rw [plus_own, h3, Bool.or_true]) (by rw [plus_own, h4, Bool.or_true]) h5 h6 h7 h8, fun j v h => ?_, R0.fix⟩, fun a ha => (mem3 a).mpr ⟨st.up a ha, fun z => hpM (by rw [← z]; exact ha)⟩, fun a ha => st.back a (le a ha), fun a o na h => ?_⟩
  · by_cases z : x = y
    · subst z
      have := nd_ix hnd hi h1
      subst this
      rw [hd] at h3
      cases h3
      refine ⟨_, k2, .lst (show mi H2 M3 p = some (.lst vs) from ?_) (rlesss le k6)⟩
      unfold mi
      rw [if_neg fun q => ((mem3 p).mp q).2 rfl]
      exact k5
    · obtain ⟨v, q1, q2⟩ := R0.rd j y d h1 (by rw [plus_own, h2]; simpa using z) h3
      exact ⟨v, q1, rless le q2⟩
  · obtain ⟨q, us, es, g1, g2, g3, g4, g5, g6⟩ := R0.own j y d h1 (by rw [plus_own, h2, Bool.or_true]) h3
    refine ⟨q, us, es, g1, g2, (mem3 q).mpr ⟨g3, fun z => ?_⟩, g4, g5, rlesss le g6⟩
    subst z
    have e := R0.inj j i y x _ _ q h1 hi (by rw [plus_own, h2, Bool.or_true]) (by rw [plus_own]; simp) h3 hd g2 k2
    subst e
    rw [hi] at h1
    cases h1
    rw [hx] at h2
    cases h2
  · obtain ⟨j', h1, h2⟩ := R.sl
    obtain ⟨y, q1, q2⟩ := R0.fixO j v h
    refine ⟨y, q1, ?_⟩
    rw [plus_own, Bool.or_eq_true] at q2
    refine q2.resolve_left fun z => ?_
    have : x = y := by simpa using z
    subst this
    have := nd_ix hnd hi q1
    subst this
    have hf : c.fx = some (j', .ref s) := h1
    rw [hf] at h
    cases h
    rw [hd] at h2
    cases h2
  · refine st.ex a o (fun z => ?_) h
    exact na ((mem3 a).mpr ⟨z, fun q => by rw [q, hHp] at h; cases h⟩)
end
section
variable {P : Program} {w : World} {K : PySem.W.Frag} {mg : Str → Option Value} {base : Heap} {k : Nat} {cl : Nat → Addr} {c : Cn} {sc : Scope} {W : WX} {s cc : Addr}
variable {ρ : En} {n i : Nat} {x : Str} {Sf : Fl → Nat → Prop} {st1 st2 : Stmt} {sts : List Stmt}
/-- two rows make and change a list; behind them it is a plain value -/
theorem xss_two (hnd : c.N.Nodup) (hi : c.N[i]? = some x) (hx : c.isOwn x = false) (hfx : ∀ v, c.fx ≠ some (i, v)) (hno : ∀ (j : Nat) (y : Str) (d : PyData), c.N[j]? = some y → c.isOwn y = true → ρ[j]? ≠ some (some d))
    (h : XS P w K mg base k (c.plus x) sc W s cc st1 (ρ.set i none) n fun fl n1 => match fl with
      | .nx ρ1 => XS P w K mg base k (c.plus x) sc W s cc st2 ρ1 n1 fun fl n2 => match fl with
        | .nx ρ2 => (∃ ds, ρ2[i]? = some (some (.list ds))) ∧ XSs P w K mg base k c sc W s cc sts ρ2 n2 Sf
        | .rt d => Sf (.rt d) n2
        | _ => False
      | .rt d => Sf (.rt d) n1
      | _ => False) : XSs P w K mg base k c sc W s cc (st1 :: st2 :: sts) ρ n Sf := fun Hs M0 M σ H R D p => by
  refine ⟨tSeq (tS P w K mg base k c.N sc W st1) (tSeq (tS P w K mg base k c.N sc W st2) (tSs P w K mg base k c.N sc W sts)), fun X g => pss_cons (bs g st1) (pss_cons (bs g st2) (bss g sts)), ?_⟩
  have hH : ExM [s, cc] Hs H := R.fin (ExM.refl _ _)
  have dm : Dom M H := R.dom false
  refine h H M0 M σ H (R.up hnd hi hfx hno) _ fun fl n1 hs => ?_
  cases fl with
  | nx ρ1 =>
    refine fun M1 σ1 H1 R1 S1 => ?_
    refine hs H M0 M1 σ1 H1 R1 _ fun fl n2 hs2 => ?_
    cases fl with
    | nx ρ2 =>
      refine fun M2 σ2 H2 R2 S2 => ?_
      obtain ⟨⟨ds, hd⟩, hs3⟩ := hs2
      obtain ⟨M3, R3, S3⟩ := R2.down hH dm (S1.trans (R1.dom false) S2) hnd hi hx hd
      exact hs3 Hs M0 M3 σ2 H2 R3 D (post_go p (R3.dom false) S3)
    | rt d => exact fun v H' e S' hv => p _ _ hs2 v H' (hH.trans e) S' hv
    | bk _ => exact hs2.elim
    | ct _ => exact hs2.elim
  | rt d => exact fun v H' e S' hv => p _ _ hs v H' (hH.trans e) S' hv
  | bk _ => exact hs.elim
  | ct _ => exact hs.elim
end
end PY

set_option Elab.async false
set_option linter.all false
set_option maxRecDepth 100000
set_option maxHeartbeats 4000000
namespace PY
open PySem PySem.Spec PyProof.Rows L2 DK DD
theorem e_lc {c : Cn} {n : Nat} {sc sc' : Scope} {w : Bool} {elt : Expr} {gens : List Comprehension} {p : Pos} {ρ : En} {ds : List PyData} (h : evN c n sc w (.ListComp elt gens sc' p) ρ = .ok ds) : evE c (n + 1) sc w (.ListComp elt gens sc' p) ρ = .ok (.list ds) := by
  show ((evN c n sc w (.ListComp elt gens sc' p) ρ).bind fun ds => Rs.ok (PyData.list ds)) = _
  rw [h]
  rfl
theorem s_for {c : Cn} {wf m : Nat} {sc : Scope} {ρ : En} {tg it : Expr} {body : List Stmt} {p : Pos} {ds : List PyData} {r : Rs Fl} (hn : noSet it = true) (hi : evIter (fun e => evE c 40 sc false e ρ) (bltn c sc) tg it = .ok ds) (h : forD (tgt c sc 8 tg) (seqD (evS c wf sc m) body) ds ρ = r) : evS c wf sc (m + 1) (.For tg it body [] p) ρ = r := by
  show (if (!noSet it) = true then .no else (evIter (fun e => evE c 40 sc false e ρ) (bltn c sc) tg it).bind fun ds => forD (tgt c sc 8 tg) (seqD (evS c wf sc m) body) ds ρ) = _
  rw [if_neg (by rw [hn]; simp), hi]
  exact h
theorem it_range {f : Expr → Rs PyData} {isB : Str → Bool} {tg a : Expr} {g : Str} {p1 p2 : Pos} {i : Int} (hg : g = "range") (hB : isB g = true) (ha : noStar a = true) (hf : f a = .ok (.int i)) (h0 : 0 ≤ i) (h1 : i ≤ 100000) : evIter f isB tg (.Call (.Name g p1) [a] [] p2) = .ok (rngD i.toNat) := by
  have e : evIter f isB tg (.Call (.Name g p1) [a] [] p2) = if g = "range" ∧ isB g ∧ noStar a then (f a).bind fun d => match d with | .int j => if -(2 ^ 62) ≤ j ∧ j < 2 ^ 62 then .ok (rngD j.toNat) else .no | _ => .no
    else if g = "enumerate" ∧ isB g ∧ noStar a ∧ isTupE tg then (f a).bind fun d => match d with | .list ds => .ok (pairsD (rngD ds.length) ds) | _ => .no
    else (f (.Call (.Name g p1) [a] [] p2)).bind iterD := by cases a <;> first | rfl | cases ha
  rw [e, if_pos ⟨hg, hB, ha⟩, hf, bind_ok]
  show (if -(2 ^ 62) ≤ i ∧ i < 2 ^ 62 then Rs.ok (rngD i.toNat) else .no) = _
  rw [if_pos (by omega)]
theorem orT_1 {f : Expr → Rs Bool} {e : Expr} : orT f [e] = f e := rfl
theorem andT_1 {f : Expr → Rs Bool} {e : Expr} : andT f [e] = f e := rfl
theorem andD_1 {f : Expr → Rs PyData} {e : Expr} : andD f [e] = f e := rfl
theorem orD_1 {f : Expr → Rs PyData} {e : Expr} : orD f [e] = f e := rfl
theorem asB_map {g : PyData → Bool} : ∀ {l : List PyData}, asBools (l.map fun a => .bool (g a)) = some (l.map g) := asBools_map
/-- all(..) of a comprehension over any data -/
theorem all_lc {f : PyData → Rs PyData} {g : PyData → Bool} {xs : List PyData} (hl : xs.length ≤ 100000) (h : ∀ d ∈ xs, f d = .ok (.bool (g d))) : callR "all" (lcR f xs) = .ok (.bool (xs.all g)) := by
  have e := lcR_map (enc := fun d : PyData => d) (f := f) (g := fun d => .bool (g d)) hl h
  rw [List.map_id'] at e
  rw [e, call_all]
/-- a comprehension with a test -/
theorem mapD_filter {f : PyData → Rs (Option PyData)} {g : PyData → Bool} : ∀ {xs : List PyData}, (∀ d ∈ xs, f d = .ok (if g d = true then some d else none)) → mapD f xs = .ok (xs.filter g)
  | [], _ => rfl
  | x :: xs, h => by
    rw [mapD, h x (by simp), bind_ok, mapD_filter fun d hd => h d (List.mem_cons_of_mem _ hd), bind_ok, List.filter_cons]
    cases g x <;> rfl
end PY
namespace K68
open PySem PySem.Spec PyProof.Rows L2 DK DD TM PY
def topS (i : Nat) : Stmt := PySem.Challenge.pw_pricespin_k68_doors_of_what_was_seen.main.body.getD i (.Pass ⟨0, 0, 0, 0⟩)
def dfs : List (Str × Df) := [
  ("is_int", ⟨"is_int", ["value"], ["value"], [], topS 8⟩),
  ("is_int_list", ⟨"is_int_list", ["value", "fewest", "greatest"], ["value", "fewest", "greatest", "item"], [], topS 9⟩),
  ("check_prices", ⟨"check_prices", ["prices", "many"], ["prices", "many"], [], topS 11⟩),
  ("fit_rule", ⟨"fit_rule", ["kind", "seen"], ["kind", "seen", "sign", "sights", "wrong", "adds", "number", "add"], [], topS 14⟩),
  ("foretell", ⟨"foretell", ["kind", "seen", "prices"], ["kind", "seen", "prices", "sign", "sights", "adds", "asked", "greatest", "least", "sight"], [], topS 15⟩),
  ("_check_seen", ⟨"_check_seen", ["kind", "seen"], ["kind", "seen", "item", "prices", "_"], [], topS 16⟩),
  ("_is_sight", ⟨"_is_sight", ["value"], ["value"], [], topS 17⟩),
  ("_sign", ⟨"_sign", ["kind"], ["kind"], [], topS 18⟩),
  ("_sights", ⟨"_sights", ["sign", "seen"], ["sign", "seen", "prices", "price"], [], topS 19⟩),
  ("_line", ⟨"_line", ["sign", "prices"], ["sign", "prices", "price"], [], topS 20⟩),
  ("_least_adds", ⟨"_least_adds", ["sights"], ["sights", "lines", "prices", "line", "_", "price", "column", "own"], [], topS 21⟩),
  ("_parts", ⟨"_parts", ["adds", "line"], ["adds", "line", "own", "add"], [], topS 22⟩),
  ("_first_fault", ⟨"_first_fault", ["sights"], ["sights", "at", "ahead", "adds", "line", "price"], [], topS 23⟩),
  ("_where_told", ⟨"_where_told", ["adds", "sight", "asked"], ["adds", "sight", "asked", "line", "price", "own", "answer"], [], topS 24⟩),
  ("_law_is_whole", ⟨"_law_is_whole", ["value"], ["value"], [], topS 31⟩),
  ("_law_is_row", ⟨"_law_is_row", ["value", "shops"], ["value", "shops", "one"], [], topS 32⟩),
  ("_law_are_seen", ⟨"_law_are_seen", ["value", "shops"], ["value", "shops", "one"], [], topS 33⟩),
  ("_law_due", ⟨"_law_due", ["way", "kind", "seen", "prices"], ["way", "kind", "seen", "prices", "shops", "first"], [], topS 34⟩),
  ("_law_fits", ⟨"_law_fits", ["kind", "seen", "prices"], ["kind", "seen", "prices", "words", "way"], [], topS 35⟩)]
def cInts : List (Str × Int) := [("MOST_SHOPS", 6), ("_MOST_SEEN", 50)]
def clss : List Str := ["InvalidKind", "InvalidSeen", "InvalidPrices", "InvalidPrice"]
def cst (x : Str) : Option PyData := (cInts.lookup x).map PyData.int
def cls (x : Str) : Option Nat := ixOf x clss
def Tw (F : List PyData → Rs PyData) : Tab := { dfs := dfs, cst := cst, cls := cls, ext := fun f => if f = ("_law_word" : Str) then some (6, F) else none, wf := 50 }
abbrev T0 : Tab := Tw fun _ => .no
def wordOf (r : Rs PyData) : Rs PyData := match r with
  | .ok _ => .ok (.str "good")
  | .er 0 => .ok (.str "kind")
  | .er 1 => .ok (.str "seen")
  | .er 2 => .ok (.str "prices")
  | .er _ => .no
  | .no => .no
def wordR (i : Int) (k s p : PyData) : Rs PyData := if i = 0 then run T0 5 "fit_rule" [k, s] else run T0 5 "foretell" [k, s, p]
def F_word : List PyData → Rs PyData
  | [d, k, s, p] => match d with
    | .int i => wordOf (wordR i k s p)
    | _ => .no
  | _ => .no
abbrev T1 : Tab := Tw F_word
variable {F : List PyData → Rs PyData}
/-! what is no list of prices, no sight -/
def sm (d : PyData) : Prop := ∀ ys, d = .list ys → ys.length ≤ 1000
def isIL (d : PyData) (lo hi : Int) : Bool := match d with
  | .list xs => decide (lo ≤ (xs.length : Int)) && decide ((xs.length : Int) ≤ hi) && xs.all isI
  | _ => false
theorem r_is_int (n : Nat) (d : PyData) : run (Tw F) (n + 1) "is_int" [d] = .ok (.bool (isI d)) := by cases d <;> rfl
theorem r_whole (n : Nat) (d : PyData) : run (Tw F) (n + 1) "_law_is_whole" [d] = .ok (.bool (isI d)) := by cases d <;> rfl
theorem r_int_list (n : Nat) (d : PyData) (a b : Int) (h : sm d) : run (Tw F) (n + 2) "is_int_list" [d, .int a, .int b] = .ok (.bool (isIL d a b)) := by
  cases d with
  | list xs =>
    have hl := h xs rfl
    refine run_rt rfl rfl (seq_rt (s_ret ?_))
    refine (e_and (x := true) (y := (decide (a ≤ (xs.length : Int)) && decide ((xs.length : Int) ≤ b)) && xs.all isI) rfl fun _ => ?_).trans (by simp [isIL])
    refine andD_c (chR_eq a xs.length b) fun _ => ?_
    show callR "all" (lcR (fun d => run (Tw F) (n + 1) "is_int" [d]) xs) = _
    exact all_lc (by omega) fun d _ => r_is_int (F := F) n d
  | _ => rfl
def isSight (d : PyData) : Bool := match d with
  | .tuple [p, x] => isIL p 1 6 && isI x
  | _ => false
def smS (d : PyData) : Prop := ∀ p l, d = .tuple (p :: l) → sm p
theorem r_is_sight (n : Nat) (d : PyData) (h : smS d) : run (Tw F) (n + 3) "_is_sight" [d] = .ok (.bool (isSight d)) := by
  cases d with
  | tuple xs =>
    match xs, h with
    | [], _ => rfl
    | [a], _ => rfl
    | [p, x], h =>
      refine run_rt rfl rfl (seq_nx rfl (seq_rt (s_ret ?_)))
      refine e_and (r_int_list (F := F) n p 1 6 (h p [x] rfl)) fun _ => ?_
      exact r_is_int (F := F) (n + 1) x
    | a :: b :: c :: l, _ =>
      have hn : ((a :: b :: c :: l).length : Int) ≠ 2 := by simp; omega
      have ht : evT (cnAt (Tw F) (n + 2) (run (Tw F) (n + 2)) ⟨"_is_sight", ["value"], ["value"], [], topS 17⟩) 40 (defScope (topS 17)) (whT (bodyAt (topS 17) 0)) [some (.tuple (a :: b :: c :: l))] = .ok true := by
        refine (t_or (x := false) (y := true) rfl fun _ => ?_)
        rw [orT_1]
        refine t_cmp rfl ?_
        show ((Rs.ok (decide (((a :: b :: c :: l).length : Int) = 2))).bind fun x => Rs.ok !x) = _
        rw [decide_eq_false hn]
        rfl
      exact run_rt rfl rfl (seq_rt (s_if ht rfl))
  | _ => rfl
end K68

set_option Elab.async false
set_option linter.all false
set_option maxRecDepth 100000
set_option maxHeartbeats 4000000
namespace K68
open PySem PySem.Spec PyProof.Rows L2 DK DD TM PY
variable {F : List PyData → Rs PyData}
/-- the two kinds -/
def kd (b : Bool) : PyData := .str (if b then "least" else "most")
def encS (e : List Int × Int) : PyData := .tuple [.list (e.1.map .int), .int e.2]
def smSeen (s : PyData) : Prop := ∀ xs, s = .list xs → xs.length ≤ 1000 ∧ ∀ x ∈ xs, smS x
/-- what was seen, rightly told -/
structure Good (L : List (List Int × Int)) (m : Nat) : Prop where
  l1 : 1 ≤ L.length
  l2 : L.length ≤ 50
  m1 : 1 ≤ m
  m2 : m ≤ 6
  eq : ∀ e ∈ L, e.1.length = m
theorem ints_of : ∀ {xs : List PyData}, xs.all isI = true → ∃ is : List Int, xs = is.map .int
  | [], _ => ⟨[], rfl⟩
  | x :: xs, h => by
    rw [List.all_cons, Bool.and_eq_true] at h
    obtain ⟨is, rfl⟩ := ints_of h.2
    cases x with
    | int i => exact ⟨i :: is, rfl⟩
    | _ => exact nomatch h.1
theorem int_of {x : PyData} (h : isI x = true) : ∃ i, x = .int i := by
  cases x with
  | int i => exact ⟨i, rfl⟩
  | _ => exact nomatch h
theorem sight_of {x : PyData} (h : isSight x = true) : ∃ e : List Int × Int, x = encS e ∧ 1 ≤ e.1.length ∧ e.1.length ≤ 6 := by
  unfold isSight at h
  split at h
  · rename_i p y
    rw [Bool.and_eq_true] at h
    obtain ⟨i, rfl⟩ := int_of h.2
    have h1 := h.1
    unfold isIL at h1
    split at h1
    · rename_i ys
      rw [Bool.and_eq_true, Bool.and_eq_true, decide_eq_true_eq, decide_eq_true_eq] at h1
      obtain ⟨is, rfl⟩ := ints_of h1.2
      rw [List.length_map] at h1
      exact ⟨(is, i), rfl, by show 1 ≤ is.length; omega, by show is.length ≤ 6; omega⟩
    · cases h1
  · cases h
theorem sights_of : ∀ {xs : List PyData}, xs.all isSight = true → ∃ L : List (List Int × Int), xs = L.map encS ∧ ∀ e ∈ L, 1 ≤ e.1.length ∧ e.1.length ≤ 6
  | [], _ => ⟨[], rfl, fun _ h => nomatch h⟩
  | x :: xs, h => by
    rw [List.all_cons, Bool.and_eq_true] at h
    obtain ⟨L, rfl, hL⟩ := sights_of h.2
    obtain ⟨e, rfl, he⟩ := sight_of h.1
    refine ⟨e :: L, rfl, fun u hu => ?_⟩
    rcases List.mem_cons.mp hu with rfl | hu
    · exact he
    · exact hL u hu
theorem isSight_enc {e : List Int × Int} (h1 : 1 ≤ e.1.length) (h2 : e.1.length ≤ 6) : isSight (encS e) = true := by
  have h3 : (e.1.map PyData.int).all isI = true := by rw [List.all_map]; simp [isI]
  show ((decide ((1 : Int) ≤ ((e.1.map PyData.int).length : Int)) && decide (((e.1.map PyData.int).length : Int) ≤ 6) && (e.1.map PyData.int).all isI) && true) = true
  rw [h3, List.length_map, decide_eq_true (by omega), decide_eq_true (by omega)]
  rfl
theorem ix_0 {d : PyData} {ds : List PyData} : ix (.list (d :: ds)) (.int 0) = .ok d := by
  have : atI (d :: ds) 0 = some d := by simp [atI, ixN]
  show (match atI (d :: ds) 0 with | some d => Rs.ok d | none => .no) = _
  rw [this]
/-! _check_seen -/
abbrev D_cs : Df := ⟨"_check_seen", ["kind", "seen"], ["kind", "seen", "item", "prices", "_"], [], topS 16⟩
abbrev c_cs (F : List PyData → Rs PyData) (n : Nat) : Cn := cnAt (Tw F) n (run (Tw F) n) D_cs
abbrev rhoC (b : Bool) (s : PyData) : En := [some (kd b), some s, none, none, none]
theorem cs_1 (n : Nat) (b : Bool) (s : PyData) : evT (c_cs F n) 40 (defScope (topS 16)) (whT (bodyAt (topS 16) 0)) (rhoC b s) = .ok false := by cases b <;> rfl
theorem cs_2 (n : Nat) (b : Bool) (xs : List PyData) : evT (c_cs F n) 40 (defScope (topS 16)) (whT (bodyAt (topS 16) 1)) (rhoC b (.list xs)) = .ok (!(decide ((1 : Int) ≤ (xs.length : Int)) && decide ((xs.length : Int) ≤ 50))) := by
  refine (t_or (x := false) (y := !(decide ((1 : Int) ≤ (xs.length : Int)) && decide ((xs.length : Int) ≤ 50))) rfl fun _ => ?_).trans rfl
  rw [orT_1]
  refine t_not ?_
  show (if decide ((1 : Int) ≤ (xs.length : Int)) = true then Rs.ok (decide ((xs.length : Int) ≤ 50)) else .ok false) = _
  cases decide ((1 : Int) ≤ (xs.length : Int)) <;> rfl
theorem cs_3 (n : Nat) (b : Bool) (xs : List PyData) (h : smSeen (.list xs)) : evT (c_cs F (n + 3)) 40 (defScope (topS 16)) (whT (bodyAt (topS 16) 2)) (rhoC b (.list xs)) = .ok (!xs.all isSight) := by
  obtain ⟨h1, h2⟩ := h xs rfl
  refine t_not (t_val rfl ?_)
  show callR "all" (lcR (fun d => run (Tw F) (n + 3) "_is_sight" [d]) xs) = _
  exact all_lc (by omega) fun d hd => r_is_sight (F := F) n d (h2 d hd)
theorem cs_4 (n : Nat) (b : Bool) (e0 : List Int × Int) (L : List (List Int × Int)) (h : L.length ≤ 1000) : evT (c_cs F n) 40 (defScope (topS 16)) (whT (bodyAt (topS 16) 3)) (rhoC b (.list ((e0 :: L).map encS))) = .ok (!(e0 :: L).all fun e => decide ((e.1.length : Int) = e0.1.length)) := by
  refine t_not (t_val rfl ?_)
  show callR "all" (lstR (if ((e0 :: L).map encS).length ≤ 100000 then mapD _ ((e0 :: L).map encS) else .no)) = _
  rw [if_pos (by rw [List.length_map, List.length_cons]; omega), mapD_map (g := fun e : List Int × Int => .bool (decide (((e.1.map PyData.int).length : Int) = (e0.1.map PyData.int).length))) fun e _ => ?_]
  · refine (call_all (g := fun e : List Int × Int => decide (((e.1.map PyData.int).length : Int) = (e0.1.map PyData.int).length))).trans ?_
    simp only [List.length_map]
  · show (noEr (((callR "len" ((ix (.list ((e0 :: L).map encS)) (.int 0)).bind fun x => ix x (.int 0))).bind fun y => cmp .Eq (.int ((e.1.map PyData.int).length)) y).bind fun b => Rs.ok (PyData.bool b))).bind (fun y => Rs.ok (some y)) = _
    rw [List.map_cons, ix_0]
    rfl
theorem check_good (n : Nat) (b : Bool) {L : List (List Int × Int)} {m : Nat} (h : Good L m) : run (Tw F) (n + 4) "_check_seen" [kd b, .list (L.map encS)] = .ok .none := by
  have hl1 := h.l1
  have hl2 := h.l2
  have hm1 := h.m1
  have hm2 := h.m2
  have hs : smSeen (.list (L.map encS)) := fun xs hx => by
    cases hx
    refine ⟨by rw [List.length_map]; omega, fun x hx => ?_⟩
    obtain ⟨e, he, rfl⟩ := List.mem_map.mp hx
    intro p l hp ys hy
    cases hp
    cases hy
    rw [List.length_map, h.eq e he]
    omega
  have ha : (L.map encS).all isSight = true := by
    rw [List.all_eq_true]
    intro x hx
    obtain ⟨e, he, rfl⟩ := List.mem_map.mp hx
    exact isSight_enc (by rw [h.eq e he]; omega) (by rw [h.eq e he]; omega)
  have h2 := cs_2 (F := F) (n + 3) b (L.map encS)
  rw [List.length_map, decide_eq_true (by omega), decide_eq_true (by omega)] at h2
  have h3 := cs_3 (F := F) n b (L.map encS) hs
  rw [ha] at h3
  cases L with
  | nil => exact absurd hl1 (by simp)
  | cons e0 L =>
    have h4 := cs_4 (F := F) (n + 3) b e0 L (by rw [List.length_cons] at hl2; omega)
    have hq : (e0 :: L).all (fun e => decide ((e.1.length : Int) = e0.1.length)) = true := by
      rw [List.all_eq_true]
      intro e he
      rw [h.eq e he, h.eq e0 (by simp)]
      simp
    rw [hq] at h4
    exact run_nx rfl rfl (seq_nx (s_if (cs_1 (F := F) (n + 3) b _) rfl) (seq_nx (s_if h2 rfl) (seq_nx (s_if h3 rfl) (seq_nx (s_if h4 rfl) rfl))))
theorem check_bad (n : Nat) (b : Bool) {s : PyData} (h : smSeen s) (hb : ¬ ∃ L m, s = .list (L.map encS) ∧ Good L m) : run (Tw F) (n + 4) "_check_seen" [kd b, s] = .er 1 := by
  cases s with
  | list xs =>
    have h2 := cs_2 (F := F) (n + 3) b xs
    by_cases hl : 1 ≤ xs.length ∧ xs.length ≤ 50
    · rw [decide_eq_true (by omega), decide_eq_true (by omega)] at h2
      have h3 := cs_3 (F := F) n b xs h
      cases ha : xs.all isSight with
      | false =>
        rw [ha] at h3
        exact run_er rfl rfl (seq_nx (s_if (cs_1 (F := F) (n + 3) b _) rfl) (seq_nx (s_if h2 rfl) (seq_er (s_if h3 rfl))))
      | true =>
        rw [ha] at h3
        obtain ⟨L, rfl, hL⟩ := sights_of ha
        rw [List.length_map] at hl
        cases L with
        | nil => exact absurd hl.1 (by simp)
        | cons e0 L =>
          have h4 := cs_4 (F := F) (n + 3) b e0 L (by have := hl.2; rw [List.length_cons] at this; omega)
          cases hq : (e0 :: L).all (fun e => decide ((e.1.length : Int) = e0.1.length)) with
          | true =>
            refine absurd ⟨e0 :: L, e0.1.length, rfl, hl.1, hl.2, (hL e0 (by simp)).1, (hL e0 (by simp)).2, fun e he => ?_⟩ hb
            have := List.all_eq_true.mp hq e he
            rw [decide_eq_true_eq] at this
            omega
          | false =>
            rw [hq] at h4
            exact run_er rfl rfl (seq_nx (s_if (cs_1 (F := F) (n + 3) b _) rfl) (seq_nx (s_if h2 rfl) (seq_nx (s_if h3 rfl) (seq_er (s_if h4 rfl)))))
    · have hf : (!(decide ((1 : Int) ≤ (xs.length : Int)) && decide ((xs.length : Int) ≤ 50))) = true := by
        simp only [Bool.not_eq_true', Bool.and_eq_false_iff, decide_eq_false_iff_not]
        omega
      rw [hf] at h2
      exact run_er rfl rfl (seq_nx (s_if (cs_1 (F := F) (n + 3) b _) rfl) (seq_er (s_if h2 rfl)))
  | _ => cases b <;> rfl
theorem r_check_prices (n : Nat) (p : PyData) (m : Int) (h : sm p) : run (Tw F) (n + 3) "check_prices" [p, .int m] = if isIL p m m = true then .ok .none else .er 2 := by
  have ht : evT (cnAt (Tw F) (n + 2) (run (Tw F) (n + 2)) ⟨"check_prices", ["prices", "many"], ["prices", "many"], [], topS 11⟩) 40 (defScope (topS 11)) (whT (bodyAt (topS 11) 0)) [some p, some (.int m)] = .ok (!isIL p m m) := t_not (t_val rfl (r_int_list (F := F) n p m m h))
  cases hp : isIL p m m with
  | true =>
    rw [hp] at ht
    rw [if_pos rfl]
    exact run_nx rfl rfl (seq_nx (s_if ht rfl) rfl)
  | false =>
    rw [hp] at ht
    rw [if_neg Bool.false_ne_true]
    exact run_er rfl rfl (seq_er (s_if ht rfl))
end K68

set_option Elab.async false
set_option linter.all false
set_option maxRecDepth 100000
set_option maxHeartbeats 4000000
namespace PY
open PySem PySem.Spec PyProof.Rows L2 DK DD
section
variable {c : Cn} {n : Nat} {sc : Scope} {w : Bool} {a b : Expr} {p p1 : Pos} {ρ : En} {x y d : PyData} {g : Str}
theorem e_sub (hp : plainI b = true) (ha : evE c n sc w a ρ = .ok x) (hb : evE c n sc true b ρ = .ok y) (h : ix x y = .ok d) : evE c (n + 1) sc w (.Subscript a b p) ρ = .ok d := by
  have e : evE c (n + 1) sc w (.Subscript a b p) ρ = if plainI b then (evE c n sc w a ρ).bind fun x => (evE c n sc true b ρ).bind fun y => ix x y else .no := by cases b <;> first | rfl | cases hp
  rw [e, if_pos hp, ha, hb]
  exact h
theorem e_call1 (hf : evE c (n + 1) sc w (.Call (.Name g p1) [a] [] p) ρ = callR g (evE c n sc w a ρ)) (ha : evE c n sc w a ρ = .ok x) (h : callR g (.ok x) = .ok d) : evE c (n + 1) sc w (.Call (.Name g p1) [a] [] p) ρ = .ok d := by
  rw [hf, ha]
  exact h
end
end PY
namespace K68
open PySem PySem.Spec PyProof.Rows L2 DK DD TM PY
variable {F : List PyData → Rs PyData}
/-! what the law tells of a row, of what was seen -/
def isRow (v : PyData) (sh : Int) : Bool := match v with
  | .list xs => decide ((xs.length : Int) = sh) && xs.all isI
  | _ => false
theorem filt_nil {xs : List PyData} : ((xs.filter fun d => !isI d).isEmpty) = xs.all isI := by
  induction xs with
  | nil => rfl
  | cons x xs ih =>
    rw [List.filter_cons, List.all_cons]
    cases isI x with
    | true => simpa using ih
    | false => rfl
theorem eq_nil (xs : List PyData) : cmp .Eq (.list xs) (.list []) = .ok xs.isEmpty := by
  cases xs with
  | nil => rfl
  | cons x xs =>
    show (if PyData.canLay0 (.list (x :: xs)) = true ∧ PyData.canLay0 (.list []) = true ∧ min (PyData.depth (.list (x :: xs))) (PyData.depth (.list [])) ≤ 64 then Rs.ok (PyData.eqv (.list (x :: xs)) (.list [])) else eqX (.list (x :: xs)) (.list [])) = _
    split
    · rfl
    · rfl
theorem ne_nil (xs : List PyData) : cmp .NotEq (.list xs) (.list []) = .ok !xs.isEmpty := by
  have := eq_nil xs
  show ((cmp .Eq (.list xs) (.list [])).bind fun x => Rs.ok !x) = _
  rw [this]
  rfl
theorem ne_tnil (xs : List PyData) : cmp .NotEq (.tuple xs) (.tuple []) = .ok !xs.isEmpty := by
  cases xs with
  | nil => rfl
  | cons x xs =>
    show ((if PyData.canLay0 (.tuple (x :: xs)) = true ∧ PyData.canLay0 (.tuple []) = true ∧ min (PyData.depth (.tuple (x :: xs))) (PyData.depth (.tuple [])) ≤ 64 then Rs.ok (PyData.eqv (.tuple (x :: xs)) (.tuple [])) else eqX (.tuple (x :: xs)) (.tuple [])).bind fun x => Rs.ok !x) = _
    split
    · rfl
    · rfl
theorem r_is_row (n : Nat) (v : PyData) (sh : Int) (h : sm v) : run (Tw F) (n + 2) "_law_is_row" [v, .int sh] = .ok (.bool (isRow v sh)) := by
  cases v with
  | list xs =>
    have hl := h xs rfl
    refine run_rt rfl rfl (seq_rt (s_ret ?_))
    refine (e_and (x := true) (y := decide ((xs.length : Int) = sh) && xs.all isI) rfl fun _ => ?_).trans rfl
    refine andD_c (x := decide ((xs.length : Int) = sh)) rfl fun _ => ?_
    rw [andD_1]
    show (((lstR (if xs.length ≤ 100000 then mapD _ xs else .no)).bind fun x => cmp .Eq x (.list [])).bind fun b => Rs.ok (PyData.bool b)) = _
    rw [if_pos (by omega), mapD_filter (g := fun d => !isI d) fun d _ => ?_]
    · show ((cmp .Eq (.list (xs.filter fun d => !isI d)) (.list [])).bind fun b => Rs.ok (PyData.bool b)) = _
      rw [eq_nil, filt_nil]
      rfl
    · show (noEr (((run (Tw F) (n + 1) "_law_is_whole" [d]).bind tru).bind fun b => Rs.ok !b)).bind _ = _
      rw [r_whole]
      cases isI d <;> rfl
  | _ => rfl
def isSeenRow (sh : Int) (d : PyData) : Bool := match d with
  | .tuple [p, x] => isRow p sh && isI x
  | _ => false
abbrev D_are : Df := ⟨"_law_are_seen", ["value", "shops"], ["value", "shops", "one"], [], topS 33⟩
abbrev c_are (F : List PyData → Rs PyData) (n : Nat) : Cn := cnAt (Tw F) n (run (Tw F) n) D_are
def tgO : Expr := match bodyAt (topS 33) 1 with | .For t _ _ _ _ => t | _ => .Name Str.empty ⟨0, 0, 0, 0⟩
theorem are_t (n : Nat) (v : PyData) (sh : Int) (d : PyData) (h : smS d) : evT (c_are F (n + 2)) 40 (defScope (topS 33)) (whT ((whB (bodyAt (topS 33) 1)).getD 0 (.Pass ⟨0, 0, 0, 0⟩))) [some v, some (.int sh), some d] = .ok (!isSeenRow sh d) := by
  cases d with
  | tuple xs =>
    match xs, h with
    | [], _ => rfl
    | [a], _ => rfl
    | [p, x], h =>
      refine (t_or (x := false) (y := !(isRow p sh && isI x)) rfl fun _ => ?_).trans rfl
      refine (orT_c (x := false) (y := !(isRow p sh && isI x)) rfl fun _ => ?_).trans rfl
      refine (orT_c (x := !isRow p sh) (y := !isI x) (t_not (t_val rfl ?_)) fun _ => ?_).trans ?_
      · exact r_is_row (F := F) n p sh (h p [x] rfl)
      · rw [orT_1]
        exact t_not (t_val rfl (r_whole (F := F) (n + 1) x))
      · rw [Bool.not_and]
    | a :: b :: c :: l, _ =>
      have hn : ((a :: b :: c :: l).length : Int) ≠ 2 := by simp; omega
      refine (t_or (x := false) (y := true) rfl fun _ => ?_).trans rfl
      refine (orT_c (x := true) (y := false) (t_cmp rfl ?_) fun z => nomatch z).trans rfl
      show ((Rs.ok (decide (((a :: b :: c :: l).length : Int) = 2))).bind fun x => Rs.ok !x) = _
      rw [decide_eq_false hn]
      rfl
  | _ => rfl
theorem are_for (n : Nat) (v : PyData) (sh : Int) : ∀ (xs : List PyData) (o : Option PyData), (∀ x ∈ xs, smS x) →
    ∃ r, forD (tgt (c_are F (n + 2)) (defScope (topS 33)) 8 tgO) (seqD (evS (c_are F (n + 2)) 50 (defScope (topS 33)) 11) (whB (bodyAt (topS 33) 1))) xs [some v, some (.int sh), o] = .ok r ∧ (if xs.all (isSeenRow sh) = true then ∃ ρ, r = .nx ρ else r = .rt (.bool false))
  | [], o, _ => ⟨_, rfl, by show if true = true then _ else _; rw [if_pos rfl]; exact ⟨_, rfl⟩⟩
  | x :: xs, o, h => by
    have ht := are_t (F := F) n v sh x (h x (by simp))
    rw [List.all_cons]
    cases hx : isSeenRow sh x with
    | false =>
      rw [hx] at ht
      exact ⟨_, for_rt (ρ1 := [some v, some (.int sh), some x]) rfl (seq_rt (s_if ht rfl)), rfl⟩
    | true =>
      rw [hx] at ht
      obtain ⟨r, h1, h2⟩ := are_for n v sh xs (some x) fun y hy => h y (List.mem_cons_of_mem _ hy)
      exact ⟨r, (for_c (ρ1 := [some v, some (.int sh), some x]) rfl (seq_nx (s_if ht rfl) rfl)).trans h1, by simpa using h2⟩
def areSeen (s : PyData) (sh : Int) : Bool := match s with
  | .list xs => decide (1 ≤ xs.length) && decide (xs.length ≤ 50) && xs.all (isSeenRow sh)
  | _ => false
theorem r_are (n : Nat) (s : PyData) (sh : Int) (h : smSeen s) : run (Tw F) (n + 3) "_law_are_seen" [s, .int sh] = .ok (.bool (areSeen s sh)) := by
  cases s with
  | list xs =>
    obtain ⟨h1, h2⟩ := h xs rfl
    have ht : evT (c_are F (n + 2)) 40 (defScope (topS 33)) (whT (bodyAt (topS 33) 0)) [some (.list xs), some (.int sh), none] = .ok (decide ((xs.length : Int) < 1) || decide ((50 : Int) < xs.length)) := by
      refine (t_or (x := false) (y := decide ((xs.length : Int) < 1) || decide ((50 : Int) < xs.length)) rfl fun _ => ?_).trans rfl
      exact orT_c (x := decide ((xs.length : Int) < 1)) rfl fun _ => rfl
    by_cases hl : 1 ≤ xs.length ∧ xs.length ≤ 50
    · rw [decide_eq_false (by omega), decide_eq_false (by omega)] at ht
      obtain ⟨r, h3, h4⟩ := are_for (F := F) n (.list xs) sh xs none h2
      have e : areSeen (.list xs) sh = xs.all (isSeenRow sh) := by
        show (decide (1 ≤ xs.length) && decide (xs.length ≤ 50) && xs.all (isSeenRow sh)) = _
        rw [decide_eq_true hl.1, decide_eq_true hl.2]
        rfl
      rw [e]
      cases ha : xs.all (isSeenRow sh) with
      | true =>
        rw [ha, if_pos rfl] at h4
        obtain ⟨ρ, rfl⟩ := h4
        exact run_rt rfl rfl (seq_nx (s_if ht rfl) (seq_nx (s_for rfl rfl h3) (seq_rt rfl)))
      | false =>
        rw [ha, if_neg Bool.false_ne_true] at h4
        subst h4
        exact run_rt rfl rfl (seq_nx (s_if ht rfl) (seq_rt (s_for rfl rfl h3)))
    · have hf : (decide ((xs.length : Int) < 1) || decide ((50 : Int) < xs.length)) = true := by
        simp only [Bool.or_eq_true, decide_eq_true_eq]
        omega
      have e : areSeen (.list xs) sh = false := by
        show (decide (1 ≤ xs.length) && decide (xs.length ≤ 50) && xs.all (isSeenRow sh)) = _
        by_cases z : 1 ≤ xs.length
        · rw [decide_eq_false (p := xs.length ≤ 50) (fun q => hl ⟨z, q⟩), Bool.and_false, Bool.false_and]
        · rw [decide_eq_false z, Bool.false_and, Bool.false_and]
      rw [hf] at ht
      rw [e]
      exact run_rt rfl rfl (seq_rt (s_if ht rfl))
  | _ => rfl
/-! _law_due -/
theorem ixT_0 {d : PyData} {ds : List PyData} : ix (.tuple (d :: ds)) (.int 0) = .ok d := by
  have : atI (d :: ds) 0 = some d := by simp [atI, ixN]
  show (match atI (d :: ds) 0 with | some d => Rs.ok d | none => .no) = _
  rw [this]
def firstOf (s : PyData) : PyData := match s with
  | .list (x :: _) => x
  | _ => .none
def shOf (f : PyData) : Int := match f with
  | .tuple (.list ps :: _) => ps.length
  | _ => 0
abbrev D_due : Df := ⟨"_law_due", ["way", "kind", "seen", "prices"], ["way", "kind", "seen", "prices", "shops", "first"], [], topS 34⟩
abbrev c_due (F : List PyData → Rs PyData) (n : Nat) : Cn := cnAt (Tw F) n (run (Tw F) n) D_due
theorem due_2 (n : Nat) (w k s p : PyData) : evS (c_due F n) 50 (defScope (topS 34)) 12 (bodyAt (topS 34) 2) [some w, some k, some s, some p, some (.int 0), some .none] = .ok (.nx [some w, some k, some s, some p, some (.int 0), some (firstOf s)]) := by
  cases s with
  | list xs =>
    refine s_if (x := !xs.isEmpty) ((t_and (x := true) (y := !xs.isEmpty) rfl fun _ => ?_).trans rfl) ?_
    · rw [andT_1]
      refine t_cmp rfl ?_
      show cmp .NotEq (.list xs) (.list []) = _
      exact ne_nil xs
    · cases xs with
      | nil => rfl
      | cons x xs =>
        refine seq_nx (s_set (k := 5) (d := x) rfl rfl rfl ?_) rfl
        show ix (.list (x :: xs)) (.int 0) = _
        exact ix_0
  | _ => rfl
theorem due_3 (n : Nat) (w k s p f : PyData) : evS (c_due F n) 50 (defScope (topS 34)) 12 (bodyAt (topS 34) 3) [some w, some k, some s, some p, some (.int 0), some f] = .ok (.nx [some w, some k, some s, some p, some (.int (shOf f)), some f]) := by
  cases f with
  | tuple ts =>
    refine s_if (x := !ts.isEmpty && (match ts with | t :: _ => TM.isLst t | [] => false)) ((t_and (x := true) (y := !ts.isEmpty && (match ts with | t :: _ => TM.isLst t | [] => false)) rfl fun _ => ?_).trans rfl) ?_
    · refine andT_c (t_cmp rfl ?_) fun hne => ?_
      · show cmp .NotEq (.tuple ts) (.tuple []) = _
        exact ne_tnil ts
      · cases ts with
        | nil => exact nomatch hne
        | cons t ts =>
          rw [andT_1]
          refine t_val rfl ?_
          show ((ix (.tuple (t :: ts)) (.int 0)).bind fun d => (isi "list" d).bind fun b => Rs.ok (PyData.bool b)) = _
          rw [ixT_0]
          rfl
    · cases ts with
      | nil => rfl
      | cons t ts =>
        cases t with
        | list ps =>
          refine seq_nx (s_set (k := 4) (d := .int ps.length) rfl rfl rfl ?_) rfl
          show callR "len" (ix (.tuple (.list ps :: ts)) (.int 0)) = _
          rw [ixT_0]
          rfl
        | _ => rfl
  | _ => rfl
theorem due_4 (n : Nat) (w k s p f : PyData) (sh : Int) (h : smSeen s) : evT (c_due F (n + 3)) 40 (defScope (topS 34)) (whT (bodyAt (topS 34) 4)) [some w, some k, some s, some p, some (.int sh), some f] = .ok (decide (sh < 1) || (decide (6 < sh) || !areSeen s sh)) := by
  refine t_or rfl fun _ => ?_
  refine orT_c rfl fun _ => ?_
  rw [orT_1]
  exact t_not (t_val rfl (r_are (F := F) n s sh h))
theorem due_5 (n : Nat) (i : Int) (k s p f : PyData) (sh : Int) (h : sm p) : evS (c_due F (n + 2)) 50 (defScope (topS 34)) 12 (bodyAt (topS 34) 5) [some (.int i), some k, some s, some p, some (.int sh), some f] = .ok (.rt (.str (if (decide (i = 0) || isRow p sh) = true then "good" else "prices"))) := by
  refine s_ret (e_sub rfl (x := .list [.str "prices", .str "good"]) (y := .int (if (decide (i = 0) || isRow p sh) = true then 1 else 0)) rfl (e_call1 rfl (e_or (x := decide (i = 0)) (y := isRow p sh) rfl fun _ => ?_) ?_) ?_)
  · rw [orD_1]
    exact r_is_row (F := F) n p sh h
  · rfl
  · cases (decide (i = 0) || isRow p sh) <;> rfl
theorem r_due (n : Nat) (i : Int) (b : Bool) (s p : PyData) (h : smSeen s) (hp : sm p) : run (Tw F) (n + 4) "_law_due" [.int i, kd b, s, p] = .ok (.str (if (decide (shOf (firstOf s) < 1) || (decide (6 < shOf (firstOf s)) || !areSeen s (shOf (firstOf s)))) = true then "seen" else if (decide (i = 0) || isRow p (shOf (firstOf s))) = true then "good" else "prices")) := by
  have h0 : evT (c_due F (n + 3)) 40 (defScope (topS 34)) (whT (bodyAt (topS 34) 0)) [some (.int i), some (kd b), some s, some p, none, none] = .ok false := by
    have e : cmp .NotIn (kd b) (.list [.str "least", .str "most"]) = .ok false := by cases b <;> decide +kernel
    refine t_cmp rfl ?_
    show cmp .NotIn (kd b) (.list [.str "least", .str "most"]) = _
    exact e
  have h4 := due_4 (F := F) n (.int i) (kd b) s p (firstOf s) (shOf (firstOf s)) h
  have h5 := due_5 (F := F) (n + 1) i (kd b) s p (firstOf s) (shOf (firstOf s)) hp
  cases hq : (decide (shOf (firstOf s) < 1) || (decide (6 < shOf (firstOf s)) || !areSeen s (shOf (firstOf s)))) with
  | true =>
    rw [hq] at h4
    exact run_rt rfl rfl (seq_nx (s_if h0 rfl) (seq_nx rfl (seq_nx (due_2 (F := F) (n + 3) _ _ _ _) (seq_nx (due_3 (F := F) (n + 3) _ _ _ _ _) (seq_rt (s_if h4 rfl))))))
  | false =>
    rw [hq] at h4
    exact run_rt rfl rfl (seq_nx (s_if h0 rfl) (seq_nx rfl (seq_nx (due_2 (F := F) (n + 3) _ _ _ _) (seq_nx (due_3 (F := F) (n + 3) _ _ _ _ _) (seq_nx (s_if h4 rfl) (seq_rt h5))))))
end K68

set_option Elab.async false
set_option linter.all false
set_option maxRecDepth 100000
set_option maxHeartbeats 2000000
namespace K68
open PySem PySem.Spec PyProof.Rows L2 DK DD TM PY
variable {F : List PyData → Rs PyData}
/-! _law_due, told by what is right -/
theorem row_len {p : PyData} {sh : Int} (h : isRow p sh = true) : ∃ is : List Int, p = .list (is.map .int) ∧ (is.length : Int) = sh := by
  unfold isRow at h
  split at h
  · rename_i xs
    rw [Bool.and_eq_true, decide_eq_true_eq] at h
    obtain ⟨is, rfl⟩ := ints_of h.2
    exact ⟨is, rfl, by simpa using h.1⟩
  · cases h
theorem rows_of {sh : Int} : ∀ {xs : List PyData}, xs.all (isSeenRow sh) = true → ∃ L : List (List Int × Int), xs = L.map encS ∧ ∀ e ∈ L, (e.1.length : Int) = sh
  | [], _ => ⟨[], rfl, fun _ h => nomatch h⟩
  | x :: xs, h => by
    rw [List.all_cons, Bool.and_eq_true] at h
    obtain ⟨L, rfl, hL⟩ := rows_of h.2
    have h1 := h.1
    unfold isSeenRow at h1
    split at h1
    · rename_i p y
      rw [Bool.and_eq_true] at h1
      obtain ⟨i, rfl⟩ := int_of h1.2
      obtain ⟨is, rfl, hi⟩ := row_len h1.1
      refine ⟨(is, i) :: L, rfl, fun u hu => ?_⟩
      rcases List.mem_cons.mp hu with rfl | hu
      · exact hi
      · exact hL u hu
    · cases h1
theorem row_ints (is : List Int) (sh : Int) : isRow (.list (is.map .int)) sh = decide ((is.length : Int) = sh) := by
  have h3 : (is.map PyData.int).all isI = true := by rw [List.all_map]; simp [isI]
  show (decide (((is.map PyData.int).length : Int) = sh) && (is.map PyData.int).all isI) = _
  rw [h3, Bool.and_true, List.length_map]
theorem il_row (p : PyData) (m : Int) : isIL p m m = isRow p m := by
  cases p with
  | list xs =>
    show (decide (m ≤ (xs.length : Int)) && decide ((xs.length : Int) ≤ m) && xs.all isI) = (decide ((xs.length : Int) = m) && xs.all isI)
    congr 1
    by_cases h : (xs.length : Int) = m
    · rw [decide_eq_true h, decide_eq_true (by omega), decide_eq_true (by omega)]
      rfl
    · rw [decide_eq_false h, Bool.and_eq_false_iff, decide_eq_false_iff_not, decide_eq_false_iff_not]
      omega
  | _ => rfl
theorem good_sm {L : List (List Int × Int)} {m : Nat} (h : Good L m) : smSeen (.list (L.map encS)) := fun xs hx => by
  have hl2 := h.l2
  have hm2 := h.m2
  cases hx
  refine ⟨by rw [List.length_map]; omega, fun x hx => ?_⟩
  obtain ⟨e, he, rfl⟩ := List.mem_map.mp hx
  intro p l hp ys hy
  cases hp
  cases hy
  rw [List.length_map, h.eq e he]
  omega
theorem good_first {L : List (List Int × Int)} {m : Nat} (h : Good L m) : shOf (firstOf (.list (L.map encS))) = m ∧ areSeen (.list (L.map encS)) m = true := by
  have hl1 := h.l1
  have hl2 := h.l2
  constructor
  · cases L with
    | nil => exact absurd hl1 (by simp)
    | cons e0 L =>
      show (((e0.1.map PyData.int).length : Nat) : Int) = m
      rw [List.length_map, h.eq e0 (by simp)]
  · show (decide (1 ≤ (L.map encS).length) && decide ((L.map encS).length ≤ 50) && (L.map encS).all (isSeenRow m)) = true
    rw [List.length_map, decide_eq_true hl1, decide_eq_true hl2, List.all_map]
    rw [Bool.true_and, Bool.true_and, List.all_eq_true]
    intro e he
    show (isRow (.list (e.1.map .int)) m && true) = true
    rw [row_ints, h.eq e he]
    simp
theorem due_good (n : Nat) (i : Int) (b : Bool) {L : List (List Int × Int)} {m : Nat} (p : PyData) (h : Good L m) (hp : sm p) : run (Tw F) (n + 4) "_law_due" [.int i, kd b, .list (L.map encS), p] = .ok (.str (if (decide (i = 0) || isRow p m) = true then "good" else "prices")) := by
  have hm1 := h.m1
  have hm2 := h.m2
  obtain ⟨g1, g2⟩ := good_first h
  rw [r_due (F := F) n i b _ p (good_sm h) hp, g1, g2, decide_eq_false (by omega), decide_eq_false (by omega)]
  rfl
theorem due_bad (n : Nat) (i : Int) (b : Bool) {s : PyData} (p : PyData) (h : smSeen s) (hb : ¬ ∃ L m, s = .list (L.map encS) ∧ Good L m) (hp : sm p) : run (Tw F) (n + 4) "_law_due" [.int i, kd b, s, p] = .ok (.str "seen") := by
  rw [r_due (F := F) n i b s p h hp]
  rw [if_pos]
  simp only [Bool.or_eq_true, decide_eq_true_eq]
  by_cases h1 : shOf (firstOf s) < 1
  · exact .inl h1
  by_cases h2 : 6 < shOf (firstOf s)
  · exact .inr (.inl h2)
  refine .inr (.inr ?_)
  cases hs : areSeen s (shOf (firstOf s)) with
  | false => rfl
  | true =>
    refine absurd ?_ hb
    unfold areSeen at hs
    split at hs
    · rename_i sh xs
      rw [Bool.and_eq_true, Bool.and_eq_true, decide_eq_true_eq, decide_eq_true_eq] at hs
      obtain ⟨L, rfl, hL⟩ := rows_of hs.2
      rw [List.length_map] at hs
      refine ⟨L, (shOf (firstOf (.list (L.map encS)))).toNat, rfl, hs.1.1, hs.1.2, by omega, by omega, fun e he => ?_⟩
      have := hL e he
      omega
    · cases hs
end K68

set_option Elab.async false
set_option linter.all false
set_option maxRecDepth 100000
set_option maxHeartbeats 2000000
namespace PY
open PySem PySem.Spec PyProof.Rows L2 DK DD
section
variable {f : Expr → Rs PyData} {isB : Str → Bool} {tg a b : Expr} {g : Str} {p1 p2 p3 : Pos} {ds xs ys : List PyData} {x y : PyData} {r : Rs (List PyData)}
theorem it_zipS (hg : g = "zip") (hB : isB g = true) (ht : nmT tg = true) (hf : f a = .ok (.list ds)) (h : zipD ds = r) : evIter f isB tg (.Call (.Name g p1) [.Starred a p3] [] p2) = r := by
  show (if g = "zip" ∧ isB g ∧ nmT tg then (f a).bind fun d => match d with | .list ds => zipD ds | _ => .no else .no) = r
  rw [if_pos ⟨hg, hB, ht⟩, hf]
  exact h
theorem it_zip (hg : g = "zip") (hB : isB g = true) (ha : noStar a = true) (hb : noStar b = true) (ht : isTupE tg = true) (hf : f a = .ok (.list xs)) (hf2 : f b = .ok (.list ys)) : evIter f isB tg (.Call (.Name g p1) [a, b] [] p2) = .ok (pairsD xs ys) := by
  have e : evIter f isB tg (.Call (.Name g p1) [a, b] [] p2) = if g = "range" ∧ isB g ∧ noStar a ∧ noStar b then (f a).bind fun d => (f b).bind fun d' => match d, d' with | .int i, .int j => if -(2 ^ 62) ≤ i ∧ i < 2 ^ 62 ∧ -(2 ^ 62) ≤ j ∧ j < 2 ^ 62 then .ok (rngF i (j - i).toNat) else .no | _, _ => .no
    else if g = "zip" ∧ isB g ∧ noStar a ∧ noStar b ∧ isTupE tg then (f a).bind fun d => (f b).bind fun d' => match d, d' with | .list xs, .list ys => .ok (pairsD xs ys) | _, _ => zipD [d, d']
    else (f (.Call (.Name g p1) [a, b] [] p2)).bind iterD := by cases a <;> first | rfl | cases ha
  rw [e, if_neg fun z => by rw [z.1] at hg; exact absurd hg (by decide), if_pos ⟨hg, hB, ha, hb, ht⟩, hf, hf2]
  rfl
theorem it_zipT (hg : g = "zip") (hB : isB g = true) (ha : noStar a = true) (hb : noStar b = true) (ht : isTupE tg = true) (hf : f a = .ok (.list xs)) (hf2 : f b = .ok (.tuple ys)) (h : zipD [.list xs, .tuple ys] = r) : evIter f isB tg (.Call (.Name g p1) [a, b] [] p2) = r := by
  have e : evIter f isB tg (.Call (.Name g p1) [a, b] [] p2) = if g = "range" ∧ isB g ∧ noStar a ∧ noStar b then (f a).bind fun d => (f b).bind fun d' => match d, d' with | .int i, .int j => if -(2 ^ 62) ≤ i ∧ i < 2 ^ 62 ∧ -(2 ^ 62) ≤ j ∧ j < 2 ^ 62 then .ok (rngF i (j - i).toNat) else .no | _, _ => .no
    else if g = "zip" ∧ isB g ∧ noStar a ∧ noStar b ∧ isTupE tg then (f a).bind fun d => (f b).bind fun d' => match d, d' with | .list xs, .list ys => .ok (pairsD xs ys) | _, _ => zipD [d, d']
    else (f (.Call (.Name g p1) [a, b] [] p2)).bind iterD := by cases a <;> first | rfl | cases ha
  rw [e, if_neg fun z => by rw [z.1] at hg; exact absurd hg (by decide), if_pos ⟨hg, hB, ha, hb, ht⟩, hf, hf2]
  exact h
theorem turn_ok {g : PyData → Option En} {ft : Expr → En → Rs Bool} {fe : En → Rs PyData} {d y : PyData} {ρ' : En} (h1 : g d = some ρ') (h2 : fe ρ' = .ok y) : turnD g [] ft fe d = .ok (some y) := by
  unfold turnD
  rw [h1]
  show (noEr (fe ρ')).bind _ = _
  rw [h2]
  rfl
end
end PY
namespace K68
open PySem PySem.Spec PyProof.Rows L2 DK DD TM PY
variable {F : List PyData → Rs PyData}
theorem asInts_ints (l : List Int) : asInts (l.map .int) = some l := by
  have := asInts_map (l := l) (g := fun i => i)
  rw [List.map_id'] at this
  exact this
theorem call_max {l : List Int} (h : l ≠ []) : callR "max" (.ok (.list (l.map .int))) = .ok (.int (maxI l)) := by
  show (match asInts (l.map PyData.int) with | some (i :: is) => Rs.ok (PyData.int (maxI (i :: is))) | _ => .no) = _
  rw [asInts_ints]
  cases l with
  | nil => exact absurd rfl h
  | cons i is => rfl
theorem call_min {l : List Int} (h : l ≠ []) : callR "min" (.ok (.list (l.map .int))) = .ok (.int (minI l)) := by
  show (match asInts (l.map PyData.int) with | some (i :: is) => Rs.ok (PyData.int (minI (i :: is))) | _ => .no) = _
  rw [asInts_ints]
  cases l with
  | nil => exact absurd rfl h
  | cons i is => rfl
def sgn (b : Bool) : Int := if b then 1 else -1
def line (g : Int) (ps : List Int) : List Int := ps.map (fun i => g * i) ++ [0]
def sights (g : Int) (L : List (List Int × Int)) : List (List Int × Int) := L.map fun e => (line g e.1, g * e.2)
theorem mulS (b : Bool) (i : Int) : bop .Mult (.int (sgn b)) (.int i) = .ok (.int (sgn b * i)) := by
  show (if (-(2 ^ 64) < sgn b ∧ sgn b < 2 ^ 64) ∨ (-(2 ^ 64) < i ∧ i < 2 ^ 64) then Rs.ok (PyData.int (sgn b * i)) else if (sgn b).natAbs.log2 + i.natAbs.log2 < 1000000 then Rs.ok (PyData.int (sgn b * i)) else .no) = _
  rw [if_pos (.inl (by cases b <;> decide))]
theorem r_sign (n : Nat) (b : Bool) : run (Tw F) (n + 1) "_sign" [kd b] = .ok (.int (sgn b)) := by cases b <;> rfl
theorem r_line (n : Nat) (b : Bool) (ps : List Int) (h : ps.length ≤ 1000) : run (Tw F) (n + 1) "_line" [.int (sgn b), .list (ps.map .int)] = .ok (.list ((line (sgn b) ps).map .int)) := by
  refine run_rt rfl rfl (seq_rt (s_ret ?_))
  show ((lcR (fun d => bop .Mult (.int (sgn b)) d) (ps.map .int)).bind fun x => (Rs.ok (PyData.list [.int 0])).bind fun y => match lop .Add x y with | .ok ds => Rs.ok (.list ds) | _ => bop .Add x y) = _
  rw [lcR_map (enc := PyData.int) (g := fun i => .int (sgn b * i)) (by omega) fun i _ => mulS b i]
  show (match (if (ps.map fun i => PyData.int (sgn b * i)).length + 1 ≤ 100000 then Rs.ok ((ps.map fun i => PyData.int (sgn b * i)) ++ [.int 0]) else .no) with | .ok ds => Rs.ok (PyData.list ds) | _ => _) = _
  rw [if_pos (by rw [List.length_map]; omega)]
  show Rs.ok (PyData.list ((ps.map fun i => PyData.int (sgn b * i)) ++ [.int 0])) = _
  unfold line
  rw [List.map_append, List.map_map]
  rfl
theorem r_sights (n : Nat) (b : Bool) (L : List (List Int × Int)) (h : L.length ≤ 1000) (hL : ∀ e ∈ L, e.1.length ≤ 1000) : run (Tw F) (n + 2) "_sights" [.int (sgn b), .list (L.map encS)] = .ok (.list ((sights (sgn b) L).map encS)) := by
  refine run_rt rfl rfl (seq_rt (s_ret ?_))
  show lstR (if (L.map encS).length ≤ 100000 then mapD _ (L.map encS) else .no) = _
  rw [if_pos (by rw [List.length_map]; omega), mapD_map (g := fun e : List Int × Int => encS (line (sgn b) e.1, sgn b * e.2)) fun e he => ?_]
  · unfold sights
    rw [List.map_map]
    rfl
  · show (noEr (((run (Tw F) (n + 1) "_line" [.int (sgn b), .list (e.1.map .int)]).bind fun d => ((bop .Mult (.int (sgn b)) (.int e.2)).bind fun d => Rs.ok [d]).bind fun ds => Rs.ok (d :: ds)).bind fun ds => if ds.length ≤ 1000 then Rs.ok (PyData.tuple ds) else .no)).bind (fun y => Rs.ok (some y)) = _
    rw [r_line (F := F) n b e.1 (hL e he), mulS]
    rfl
/-! the least adds -/
def lad (S : List (List Int × Int)) (m : Nat) : List Int := (List.range m).map fun i => maxI (S.map fun s => s.2 - s.1.getD i 0)
theorem rows_map {α : Type} {f : α → List PyData} : ∀ (l : List α), rowsOf (l.map fun a => .list (f a)) = some (l.map f)
  | [] => rfl
  | a :: l => by
    show (match rowOf (.list (f a)), rowsOf (l.map fun a => .list (f a)) with | some x, some r => some (x :: r) | _, _ => none) = _
    rw [rows_map l]
    rfl
theorem zip_cols {S : List (List Int × Int)} {m : Nat} (h0 : S ≠ []) (hl : S.length ≤ 1000) (hm : ∀ s ∈ S, s.1.length = m) : zipD (S.map fun s => .list (s.1.map .int)) = .ok ((List.range m).map fun i => .tuple (S.map fun s => .int (s.1.getD i 0))) := by
  unfold zipD
  rw [rows_map (f := fun s : List Int × Int => s.1.map PyData.int)]
  cases S with
  | nil => exact absurd rfl h0
  | cons s0 S =>
    have e0 : (s0.1.map PyData.int).length = m := by rw [List.length_map, hm s0 (by simp)]
    show (if ((s0 :: S).map fun s : List Int × Int => PyData.list (s.1.map .int)).length ≤ 1000 ∧ ((S.map fun s : List Int × Int => s.1.map PyData.int).all fun x => decide (x.length = (s0.1.map PyData.int).length)) = true then Rs.ok (colsD ((s0 :: S).map fun s => s.1.map PyData.int) (s0.1.map PyData.int).length) else .no) = _
    have hh : ((S.map fun s : List Int × Int => s.1.map PyData.int).all fun x => decide (x.length = (s0.1.map PyData.int).length)) = true := by
      rw [List.all_map, List.all_eq_true]
      intro s hs
      show decide ((s.1.map PyData.int).length = _) = true
      rw [e0, List.length_map, hm s (List.mem_cons_of_mem _ hs)]
      simp
    rw [if_pos ⟨by rw [List.length_map]; exact hl, hh⟩, e0]
    · unfold colsD
      congr 1
      refine List.map_congr_left fun i hi => ?_
      congr 1
      rw [List.map_map]
      refine List.map_congr_left fun s hs => ?_
      have hi' : i < s.1.length := by
        rw [hm s hs]
        exact List.mem_range.mp hi
      show (s.1.map PyData.int).getD i .none = .int (s.1.getD i 0)
      simp [List.getD_eq_getElem?_getD, List.getElem?_map, List.getElem?_eq_getElem hi']
theorem map_range {α β : Type} (d : α) (f : α → β) (l : List α) : (List.range l.length).map (fun j => f (l.getD j d)) = l.map f := by
  refine List.ext_getElem (by simp) fun j h1 h2 => ?_
  have hj : j < l.length := by simpa using h2
  simp [List.getD_eq_getElem?_getD, List.getElem?_eq_getElem hj]
theorem zip_col {α : Type} (d : α) (f g : α → PyData) (l : List α) : zipD [.list (l.map f), .tuple (l.map g)] = .ok (l.map fun a => .tuple [f a, g a]) := by
  show (if (2 : Nat) ≤ 1000 ∧ ([l.map g].all fun x => decide (x.length = (l.map f).length)) = true then Rs.ok (colsD [l.map f, l.map g] (l.map f).length) else .no) = _
  rw [if_pos ⟨by decide, by simp⟩, List.length_map]
  unfold colsD
  congr 1
  rw [← map_range d (fun a => PyData.tuple [f a, g a]) l]
  refine List.map_congr_left fun j hj => ?_
  have hj' : j < l.length := List.mem_range.mp hj
  show PyData.tuple [(l.map f).getD j .none, (l.map g).getD j .none] = _
  simp [List.getD_eq_getElem?_getD, List.getElem?_map, List.getElem?_eq_getElem hj']
theorem r_least (n : Nat) {S : List (List Int × Int)} {m : Nat} (h0 : S ≠ []) (hl : S.length ≤ 1000) (hm1 : m ≤ 1000) (hm : ∀ s ∈ S, s.1.length = m) : run (Tw F) (n + 1) "_least_adds" [.list (S.map encS)] = .ok (.list ((lad S m).map .int)) := by
  have hS : (S.map encS).length ≤ 100000 := by rw [List.length_map]; omega
  refine run_rt rfl rfl (seq_nx (ρ' := [some (.list (S.map encS)), some (.list (S.map fun s => .list (s.1.map .int))), none, none, none, none, none, none]) (s_set (k := 1) rfl rfl rfl (e_lc (n_comp (ds := S.map encS) rfl rfl hS (mapD_map fun s _ => rfl)))) ?_)
  refine seq_nx (ρ' := [some (.list (S.map encS)), some (.list (S.map fun s => .list (s.1.map .int))), some (.list (S.map fun s => .int s.2)), none, none, none, none, none]) (s_set (k := 2) rfl rfl rfl (e_lc (n_comp (ds := S.map encS) rfl rfl hS (mapD_map fun s _ => rfl)))) ?_
  refine seq_rt (s_ret (e_lc (n_comp (ds := (List.range m).map fun i => .tuple (S.map fun s => .int (s.1.getD i 0))) rfl (it_zipS rfl rfl rfl rfl (zip_cols h0 hl hm)) (by rw [List.length_map, List.length_range]; omega) ?_)))
  unfold lad
  rw [List.map_map]
  refine mapD_map fun i hi => ?_
  refine turn_ok rfl (e_call1 rfl (e_lc (n_comp (ds := S.map fun s : List Int × Int => .tuple [.int s.2, .int (s.1.getD i 0)]) rfl (it_zipT rfl rfl rfl rfl rfl rfl rfl (zip_col ([], 0) (fun s : List Int × Int => PyData.int s.2) (fun s => PyData.int (s.1.getD i 0)) S)) (by rw [List.length_map]; omega) (mapD_map (g := fun s : List Int × Int => .int (s.2 - s.1.getD i 0)) fun s _ => rfl))) ?_)
  have e := call_max (l := S.map fun s : List Int × Int => s.2 - s.1.getD i 0) (by simpa using h0)
  rw [List.map_map] at e
  exact e
end K68

set_option Elab.async false
set_option linter.all false
set_option maxRecDepth 100000
set_option maxHeartbeats 2000000
namespace PY
open PySem PySem.Spec PyProof.Rows L2 DK DD
section
variable {c : Cn} {n m wf : Nat} {sc : Scope} {w : Bool} {a b e : Expr} {p p1 p2 p3 pos : Pos} {ρ : En} {x y d : PyData} {f : Str} {as : List Expr} {ds : List PyData} {r : Rs PyData} {R : List PyData → Rs PyData}
theorem e_run (hf : evE c (m + 1) sc w (.Call (.Name f p) as [] pos) ρ = (evAll (fun e => evE c m sc w e ρ) as).bind R) (ha : evAll (fun e => evE c m sc w e ρ) as = .ok ds) (h : R ds = r) : evE c (m + 1) sc w (.Call (.Name f p) as [] pos) ρ = r := by
  rw [hf, ha]
  exact h
theorem evAll2 {g : Expr → Rs PyData} (h1 : noStar a = true) (h2 : noStar b = true) (ha : g a = .ok x) (hb : g b = .ok y) : evAll g [a, b] = .ok [x, y] := by
  have e : evAll g [a, b] = (g a).bind fun d => (evAll g [b]).bind fun ds => .ok (d :: ds) := by cases a <;> first | rfl | cases h1
  have e2 : evAll g [b] = (g b).bind fun d => (evAll g []).bind fun ds => .ok (d :: ds) := by cases b <;> first | rfl | cases h2
  rw [e, ha, bind_ok, e2, hb]
  rfl
theorem evAll1 {g : Expr → Rs PyData} (h1 : noStar a = true) (ha : g a = .ok x) : evAll g [a] = .ok [x] := by
  have e2 : evAll g [a] = (g a).bind fun d => (evAll g []).bind fun ds => .ok (d :: ds) := by cases a <;> first | rfl | cases h1
  rw [e2, ha]
  rfl
theorem e_cmp1 {op : CmpOp} {t : Bool} (hF : cmpF [op] [b] = true) (ha : evE c m sc true a ρ = .ok x) (hb : evE c m sc true b ρ = .ok y) (hc : cmp op x y = .ok t) : evE c (m + 1) sc w (.Compare a [op] [b] p) ρ = .ok (.bool t) := by
  show (if cmpF [op] [b] = true then ((evE c m sc true a ρ).bind fun x => (evE c m sc true b ρ).bind fun y => cmp op x y).bind fun b => Rs.ok (PyData.bool b) else .no) = _
  rw [if_pos hF, ha, bind_ok, hb, bind_ok, hc]
  rfl
theorem t_cmp1 {op : CmpOp} {t : Bool} (hF : cmpF [op] [b] = true) (ha : evE c m sc true a ρ = .ok x) (hb : evE c m sc true b ρ = .ok y) (hc : cmp op x y = .ok t) : evT c (m + 1) sc (.Compare a [op] [b] p) ρ = .ok t := by
  show (if cmpF [op] [b] = true then (evE c m sc true a ρ).bind fun x => (evE c m sc true b ρ).bind fun y => cmp op x y else .no) = _
  rw [if_pos hF, ha, bind_ok, hb, bind_ok, hc]
/-- *x, y = e -/
theorem s_star {z1 z2 : Str} {kk i j : Nat} {z : PyData} (hx : nmOf c.N sc z1 = .slot i) (hy : nmOf c.N sc z2 = .slot j) (hz : (isTupE e || c.isOwn z1 || c.isOwn z2 || !locN sc z1 || !locN sc z2) = false) (h : evE c 40 sc false e ρ = .ok (.list (ds ++ [z]))) (hl : ds.length + 1 < 1000) :
    evS c wf sc (m + 1) (.Assign [.Tuple [.Starred (.Name z1 p1) p2, .Name z2 p3] kk p] e pos) ρ = .ok (.nx (setE j z (setE i (.list ds) ρ))) := by
  have q : evS c wf sc (m + 1) (.Assign [.Tuple [.Starred (.Name z1 p1) p2, .Name z2 p3] kk p] e pos) ρ = match nmOf c.N sc z1, nmOf c.N sc z2 with
      | .slot i, .slot j => if isTupE e || c.isOwn z1 || c.isOwn z2 || !locN sc z1 || !locN sc z2 then .no else (evE c 40 sc false e ρ).bind fun d => match d with
        | .list ds => match ds.getLast? with
          | some z => if ds.length < 1000 then .ok (.nx (setE j z (setE i (.list ds.dropLast) ρ))) else .no
          | none => .no
        | _ => .no
      | _, _ => .no := rfl
  rw [q, hx, hy]
  show (if (isTupE e || c.isOwn z1 || c.isOwn z2 || !locN sc z1 || !locN sc z2) = true then _ else _) = _
  rw [hz, if_neg Bool.false_ne_true, h, bind_ok]
  have e3 : (ds ++ [z]).getLast? = some z := by simp
  simp only [e3]
  rw [if_pos (by rw [List.length_append]; exact hl), List.dropLast_concat]
theorem cut_take (xs : List PyData) (k : Nat) (h : k ≤ xs.length) : cutD xs none (some (k : Int)) = xs.take k := by
  unfold cutD
  rw [HT.sIx_nat, HT.sIx_none, Nat.min_eq_left h]
  rfl
theorem mapD_fm {α : Type} {enc : α → PyData} {f : PyData → Rs (Option PyData)} {g : α → Option PyData} : ∀ {l : List α}, (∀ a ∈ l, f (enc a) = .ok (g a)) → mapD f (l.map enc) = .ok (l.filterMap g)
  | [], _ => rfl
  | a :: l, h => by
    rw [List.map_cons, mapD, h a (by simp), bind_ok, mapD_fm fun b hb => h b (List.mem_cons_of_mem _ hb), bind_ok, List.filterMap_cons]
    cases g a <;> rfl
theorem turn_if {g : PyData → Option En} {ft : Expr → En → Rs Bool} {fe : En → Rs PyData} {d y : PyData} {ρ' : En} {t : Expr} {v : Bool} (h1 : g d = some ρ') (h2 : ft t ρ' = .ok v) (h3 : fe ρ' = .ok y) : turnD g [t] ft fe d = .ok (if v = true then some y else none) := by
  unfold turnD
  rw [h1]
  show (noEr (ft t ρ')).bind _ = _
  rw [h2]
  cases v with
  | true =>
    show (noEr (fe ρ')).bind _ = _
    rw [h3]
    rfl
  | false => rfl
end
end PY
namespace K68
open PySem PySem.Spec PyProof.Rows L2 DK DD TM PY
variable {F : List PyData → Rs PyData}
theorem pairs_ints (xs ys : List Int) : pairsD (xs.map .int) (ys.map .int) = (xs.zip ys).map fun p => PyData.tuple [.int p.1, .int p.2] := by
  unfold pairsD
  rw [List.zip_map, List.map_map]
  rfl
def parts (adds ln : List Int) : List Int := (ln.zip adds).map fun p => p.1 + p.2
theorem r_parts (n : Nat) (adds ln : List Int) (h : ln.length ≤ 1000) : run (Tw F) (n + 1) "_parts" [.list (adds.map .int), .list (ln.map .int)] = .ok (.list ((parts adds ln).map .int)) := by
  refine run_rt rfl rfl (seq_rt (s_ret (e_lc (n_comp (ds := pairsD (ln.map .int) (adds.map .int)) rfl (it_zip rfl rfl rfl rfl rfl rfl rfl) ?_ ?_))))
  · unfold pairsD
    rw [List.length_map, List.length_zip, List.length_map]
    omega
  · rw [pairs_ints]
    unfold parts
    rw [List.map_map]
    exact mapD_map fun p _ => rfl
/-- a sight among these is told wrongly by their least adds -/
def flt (m : Nat) (A : List (List Int × Int)) : Bool := A.any fun s => !decide (minI (parts (lad A m) s.1) = s.2)
theorem parts_ne {adds ln : List Int} {m : Nat} (h1 : adds.length = m) (h2 : ln.length = m) (hm : 1 ≤ m) : parts adds ln ≠ [] := by
  intro h
  have : (parts adds ln).length = 0 := by rw [h]; rfl
  unfold parts at this
  rw [List.length_map, List.length_zip] at this
  omega
theorem lad_len {S : List (List Int × Int)} {m : Nat} : (lad S m).length = m := by simp [lad]
abbrev D_ff : Df := ⟨"_first_fault", ["sights"], ["sights", "at", "ahead", "adds", "line", "price"], [], topS 23⟩
abbrev c_ff (F : List PyData → Rs PyData) (n : Nat) : Cn := cnAt (Tw F) n (run (Tw F) n) D_ff
theorem ff_t (n : Nat) (a b c : Option PyData) {A : List (List Int × Int)} {m : Nat} (h0 : A ≠ []) (hl : A.length ≤ 1000) (hm1 : 1 ≤ m) (hm2 : m ≤ 1000) (hm : ∀ s ∈ A, s.1.length = m) : evT (c_ff F (n + 1)) 40 (defScope (topS 23)) (whT ((whB (bodyAt (topS 23) 0)).getD 2 (.Pass ⟨0, 0, 0, 0⟩))) [a, b, some (.list (A.map encS)), some (.list ((lad A m).map .int)), c, none] = .ok (flt m A) := by
  refine t_val rfl (e_call1 rfl (e_lc (n_comp (ds := A.map encS) rfl rfl (by rw [List.length_map]; omega) (mapD_map (g := fun s : List Int × Int => .bool (!decide (minI (parts (lad A m) s.1) = s.2))) fun s hs => turn_ok rfl (e_cmp1 (x := .int (minI (parts (lad A m) s.1))) (y := .int s.2) rfl (e_call1 rfl (e_run (R := run (Tw F) (n + 1) "_parts") rfl (ds := [.list ((lad A m).map .int), .list (s.1.map .int)]) rfl (r_parts (F := F) n _ _ (by rw [hm s hs]; exact hm2))) (call_min (parts_ne lad_len (hm s hs) hm1))) rfl rfl)))) ?_)
  exact call_any
end K68

set_option Elab.async false
set_option linter.all false
set_option maxRecDepth 100000
set_option maxHeartbeats 2000000
namespace K68
open PySem PySem.Spec PyProof.Rows L2 DK DD TM PY
variable {F : List PyData → Rs PyData}
/-! _first_fault -/
def tgA : Expr := match bodyAt (topS 23) 0 with | .For t _ _ _ _ => t | _ => .Name Str.empty ⟨0, 0, 0, 0⟩
theorem take_lens {S : List (List Int × Int)} {m k : Nat} (hm : ∀ s ∈ S, s.1.length = m) : ∀ s ∈ S.take k, s.1.length = m := fun s hs => hm s (List.mem_of_mem_take hs)
theorem take_nil {S : List (List Int × Int)} {k : Nat} (h : k < S.length) : S.take (k + 1) ≠ [] := by
  intro e
  have : (S.take (k + 1)).length = 0 := by rw [e]; rfl
  rw [List.length_take] at this
  omega
theorem ff_for (n : Nat) {S : List (List Int × Int)} {m : Nat} (hl : S.length ≤ 1000) (hm1 : 1 ≤ m) (hm2 : m ≤ 1000) (hm : ∀ s ∈ S, s.1.length = m) : ∀ (is : List Nat) (a b c : Option PyData), (∀ i ∈ is, i < S.length) →
    ∃ r, forD (tgt (c_ff F (n + 1)) (defScope (topS 23)) 8 tgA) (seqD (evS (c_ff F (n + 1)) 50 (defScope (topS 23)) 11) (whB (bodyAt (topS 23) 0))) (is.map fun i : Nat => PyData.int (i : Int)) [some (.list (S.map encS)), a, b, c, none, none] = .ok r ∧
      match is.find? (fun i => flt m (S.take (i + 1))) with | some i => r = .rt (.int (i : Int)) | none => ∃ ρ, r = .nx ρ
  | [], a, b, c, _ => ⟨_, rfl, _, rfl⟩
  | i :: is, a, b, c, hi => by
    have hi0 := hi i (by simp)
    have ht := ff_t (F := F) n (some (.list (S.map encS))) (some (.int (i : Int))) none (A := S.take (i + 1)) (take_nil hi0) (by rw [List.length_take]; omega) hm1 hm2 (take_lens hm)
    have hr : run (Tw F) (n + 1) "_least_adds" [.list ((S.take (i + 1)).map encS)] = .ok (.list ((lad (S.take (i + 1)) m).map .int)) := r_least (F := F) n (take_nil hi0) (by rw [List.length_take]; omega) hm2 (take_lens hm)
    have h1 : evS (c_ff F (n + 1)) 50 (defScope (topS 23)) 11 ((whB (bodyAt (topS 23) 0)).getD 0 (.Pass ⟨0, 0, 0, 0⟩)) [some (.list (S.map encS)), some (.int (i : Int)), b, c, none, none] = .ok (.nx [some (.list (S.map encS)), some (.int (i : Int)), some (.list ((S.take (i + 1)).map encS)), c, none, none]) := by
      refine s_set (k := 2) (d := .list ((S.take (i + 1)).map encS)) rfl rfl rfl ?_
      show Rs.ok (PyData.list (cutD (S.map encS) none (some ((i : Int) + 1)))) = _
      rw [show ((i : Int) + 1) = ((i + 1 : Nat) : Int) by omega, cut_take _ _ (by rw [List.length_map]; omega), List.map_take]
    have h2 : evS (c_ff F (n + 1)) 50 (defScope (topS 23)) 11 ((whB (bodyAt (topS 23) 0)).getD 1 (.Pass ⟨0, 0, 0, 0⟩)) [some (.list (S.map encS)), some (.int (i : Int)), some (.list ((S.take (i + 1)).map encS)), c, none, none] = .ok (.nx [some (.list (S.map encS)), some (.int (i : Int)), some (.list ((S.take (i + 1)).map encS)), some (.list ((lad (S.take (i + 1)) m).map .int)), none, none]) :=
      s_set (k := 3) (d := .list ((lad (S.take (i + 1)) m).map .int)) rfl rfl rfl (e_run (R := run (Tw F) (n + 1) "_least_adds") rfl (ds := [.list ((S.take (i + 1)).map encS)]) rfl hr)
    rw [List.find?_cons]
    cases hf : flt m (S.take (i + 1)) with
    | true =>
      rw [hf] at ht
      exact ⟨_, for_rt (ρ1 := [some (.list (S.map encS)), some (.int (i : Int)), b, c, none, none]) rfl (seq_nx h1 (seq_nx h2 (seq_rt (s_if ht (seq_rt (s_ret rfl)))))), rfl⟩
    | false =>
      rw [hf] at ht
      obtain ⟨r, k1, k2⟩ := ff_for n hl hm1 hm2 hm is (some (.int (i : Int))) (some (.list ((S.take (i + 1)).map encS))) (some (.list ((lad (S.take (i + 1)) m).map .int))) fun j hj => hi j (List.mem_cons_of_mem _ hj)
      exact ⟨r, (for_c (ρ1 := [some (.list (S.map encS)), some (.int (i : Int)), b, c, none, none]) rfl (seq_nx h1 (seq_nx h2 (seq_nx (s_if ht rfl) rfl)))).trans k1, k2⟩
def firstF (m : Nat) (S : List (List Int × Int)) : Option Nat := (List.range S.length).find? fun i => flt m (S.take (i + 1))
def encN (o : Option Nat) : PyData := match o with | some i => .int (i : Int) | none => .none
theorem r_first (n : Nat) {S : List (List Int × Int)} {m : Nat} (hl : S.length ≤ 1000) (hm1 : 1 ≤ m) (hm2 : m ≤ 1000) (hm : ∀ s ∈ S, s.1.length = m) : run (Tw F) (n + 2) "_first_fault" [.list (S.map encS)] = .ok (encN (firstF m S)) := by
  obtain ⟨r, h1, h2⟩ := ff_for (F := F) n hl hm1 hm2 hm (List.range S.length) none none none fun i hi => List.mem_range.mp hi
  have hi : evIter (fun e => evE (c_ff F (n + 1)) 40 (defScope (topS 23)) false e [some (.list (S.map encS)), none, none, none, none, none]) (bltn (c_ff F (n + 1)) (defScope (topS 23))) tgA (match bodyAt (topS 23) 0 with | .For _ i _ _ _ => i | _ => .Name Str.empty ⟨0, 0, 0, 0⟩) = .ok ((List.range S.length).map fun i : Nat => PyData.int (i : Int)) := by
    refine (it_range (i := ((S.map encS).length : Int)) rfl rfl rfl rfl (by omega) (by rw [List.length_map]; omega)).trans ?_
    rw [List.length_map, Int.toNat_natCast]
    rfl
  unfold firstF
  cases hf : (List.range S.length).find? (fun i => flt m (S.take (i + 1))) with
  | some i =>
    rw [hf] at h2
    have h2 : r = .rt (.int (i : Int)) := h2
    subst h2
    exact run_rt rfl rfl (seq_rt (s_for rfl hi h1))
  | none =>
    rw [hf] at h2
    obtain ⟨ρ, rfl⟩ := h2
    exact run_rt rfl rfl (seq_nx (s_for rfl hi h1) (seq_rt rfl))
theorem first_none {m : Nat} {S : List (List Int × Int)} (h0 : S ≠ []) (h : firstF m S = none) : ∀ s ∈ S, minI (parts (lad S m) s.1) = s.2 := by
  unfold firstF at h
  rw [List.find?_eq_none] at h
  have hl : 0 < S.length := List.length_pos_iff.mpr h0
  have h1 := h (S.length - 1) (List.mem_range.mpr (by omega))
  have e : S.take (S.length - 1 + 1) = S := List.take_of_length_le (by omega)
  rw [e] at h1
  intro s hs
  unfold flt at h1
  rw [List.any_eq_true] at h1
  by_cases z : minI (parts (lad S m) s.1) = s.2
  · exact z
  · exact absurd ⟨s, hs, by simp [z]⟩ h1
/-! _where_told -/
def wt (adds : List Int) (s : List Int × Int) (asked : List Int) : List Int := ((parts adds s.1).zip asked).filterMap fun p => if decide (p.1 = s.2) = true then some p.2 else none
theorem minI_mem : ∀ {l : List Int}, l ≠ [] → minI l ∈ l
  | [], h => absurd rfl h
  | [x], _ => by simp [minI]
  | x :: y :: l, _ => by
    have ih := minI_mem (l := y :: l) (by simp)
    show min x (minI (y :: l)) ∈ _
    rcases Int.le_total x (minI (y :: l)) with h | h
    · rw [Int.min_eq_left h]
      simp
    · rw [Int.min_eq_right h]
      exact List.mem_cons_of_mem _ ih
theorem wt_ne {adds asked : List Int} {s : List Int × Int} (h : minI (parts adds s.1) = s.2) (hp : parts adds s.1 ≠ []) (hl : (parts adds s.1).length ≤ asked.length) : wt adds s asked ≠ [] := by
  have hm := minI_mem hp
  rw [h] at hm
  obtain ⟨i, hi, hx⟩ := List.getElem_of_mem hm
  intro z
  unfold wt at z
  rw [List.filterMap_eq_nil_iff] at z
  have hz : i < ((parts adds s.1).zip asked).length := by
    rw [List.length_zip]
    omega
  have := z ((parts adds s.1).zip asked)[i] (List.getElem_mem hz)
  rw [List.getElem_zip] at this
  simp [hx] at this
theorem r_where (n : Nat) (adds asked : List Int) (s : List Int × Int) (h : s.1.length ≤ 1000) : run (Tw F) (n + 2) "_where_told" [.list (adds.map .int), encS s, .list (asked.map .int)] = .ok (.list ((wt adds s asked).map .int)) := by
  refine run_rt rfl rfl (seq_nx (ρ' := [some (.list (adds.map .int)), some (encS s), some (.list (asked.map .int)), some (.list (s.1.map .int)), some (.int s.2), none, none]) rfl (seq_rt (s_ret (e_lc (n_comp (ds := pairsD ((parts adds s.1).map .int) (asked.map .int)) rfl (it_zip rfl rfl rfl rfl rfl (e_run (R := run (Tw F) (n + 1) "_parts") rfl (ds := [.list (adds.map .int), .list (s.1.map .int)]) rfl (r_parts (F := F) n adds s.1 h)) rfl) ?_ ?_)))))
  · rw [pairs_ints, List.length_map, List.length_zip]
    unfold parts
    rw [List.length_map, List.length_zip]
    omega
  · rw [pairs_ints]
    unfold wt
    rw [List.map_filterMap]
    refine mapD_fm fun p _ => (turn_if (v := decide (p.1 = s.2)) (y := .int p.2) rfl (t_cmp1 (x := .int p.1) (y := .int s.2) rfl rfl rfl rfl) rfl).trans ?_
    cases decide (p.1 = s.2) <;> rfl
end K68

set_option Elab.async false
set_option linter.all false
set_option maxRecDepth 100000
set_option maxHeartbeats 2000000
namespace K68
open PySem PySem.Spec PyProof.Rows L2 DK DD TM PY
variable {F : List PyData → Rs PyData}
theorem line_len (g : Int) (ps : List Int) : (line g ps).length = ps.length + 1 := by simp [line]
theorem sg_len {L : List (List Int × Int)} {m : Nat} (h : Good L m) (g : Int) : ∀ s ∈ sights g L, s.1.length = m + 1 := fun s hs => by
  obtain ⟨e, he, rfl⟩ := List.mem_map.mp hs
  show (line g e.1).length = _
  rw [line_len, h.eq e he]
theorem sg_n (g : Int) (L : List (List Int × Int)) : (sights g L).length = L.length := List.length_map ..
theorem sg_ne {L : List (List Int × Int)} {m : Nat} (h : Good L m) (g : Int) : sights g L ≠ [] := fun z => by
  have h1 := h.l1
  have : (sights g L).length = 0 := by rw [z]; rfl
  rw [sg_n] at this
  omega
theorem last_of {α : Type} {l : List α} (h : 1 ≤ l.length) : ∃ ds z, l = ds ++ [z] := by
  rcases List.eq_nil_or_concat l with rfl | ⟨ds, z, e⟩
  · exact absurd h (by simp)
  · exact ⟨ds, z, by rw [e, List.concat_eq_append]⟩
theorem r_fit (n : Nat) (b : Bool) {L : List (List Int × Int)} {m : Nat} (h : Good L m) : ∃ d, run (Tw F) (n + 5) "fit_rule" [kd b, .list (L.map encS)] = .ok d := by
  have hm2 := h.m2
  have hl2 := h.l2
  have hS1 := sg_n (sgn b) L
  have e1 : evE (cnAt (Tw F) (n + 4) (run (Tw F) (n + 4)) ⟨"fit_rule", ["kind", "seen"], ["kind", "seen", "sign", "sights", "wrong", "adds", "number", "add"], [], topS 14⟩) 40 (defScope (topS 14)) true (match bodyAt (topS 14) 0 with | .Expr e _ => e | _ => .Name Str.empty ⟨0, 0, 0, 0⟩) [some (kd b), some (.list (L.map encS)), none, none, none, none, none, none] = .ok .none := e_run (R := run (Tw F) (n + 4) "_check_seen") rfl (ds := [kd b, .list (L.map encS)]) rfl (check_good (F := F) n b h)
  have e2 := r_sign (F := F) (n + 3) b
  have e3 := r_sights (F := F) (n + 2) b L (by omega) fun e he => by rw [h.eq e he]; omega
  have e4 := r_first (F := F) (n + 2) (S := sights (sgn b) L) (m := m + 1) (by omega) (by omega) (by omega) (sg_len h _)
  have e5 := r_least (F := F) (n + 3) (S := sights (sgn b) L) (m := m + 1) (sg_ne h _) (by omega) (by omega) (sg_len h _)
  have e4c : ∀ d, run (Tw F) (n + 4) "_first_fault" [.list ((sights (sgn b) L).map encS)] = .ok d → evE (cnAt (Tw F) (n + 4) (run (Tw F) (n + 4)) ⟨"fit_rule", ["kind", "seen"], ["kind", "seen", "sign", "sights", "wrong", "adds", "number", "add"], [], topS 14⟩) 40 (defScope (topS 14)) false (match bodyAt (topS 14) 3 with | .Assign _ e _ => e | _ => .Name Str.empty ⟨0, 0, 0, 0⟩) [some (kd b), some (.list (L.map encS)), some (.int (sgn b)), some (.list ((sights (sgn b) L).map encS)), none, none, none, none] = .ok d := fun d hd => by
    refine e_run (R := run (Tw F) (n + 4) "_first_fault") ?_ (ds := [.list ((sights (sgn b) L).map encS)]) ?_ hd
    · rfl
    · rfl
  cases hf : firstF (m + 1) (sights (sgn b) L) with
  | some i =>
    rw [hf] at e4
    have e4 : run (Tw F) (n + 4) "_first_fault" [.list ((sights (sgn b) L).map encS)] = .ok (.int (i : Int)) := by rw [e4] <;> rfl
    exact ⟨_, run_rt rfl rfl (seq_nx (s_drop e1) (seq_nx (ρ' := [some (kd b), some (.list (L.map encS)), some (.int (sgn b)), none, none, none, none, none]) (s_set (k := 2) rfl rfl rfl (e_run (R := run (Tw F) (n + 4) "_sign") rfl (ds := [kd b]) rfl e2))
      (seq_nx (ρ' := [some (kd b), some (.list (L.map encS)), some (.int (sgn b)), some (.list ((sights (sgn b) L).map encS)), none, none, none, none]) (s_set (k := 3) rfl rfl rfl (e_run (R := run (Tw F) (n + 4) "_sights") rfl (ds := [.int (sgn b), .list (L.map encS)]) rfl e3))
      (seq_nx (ρ' := [some (kd b), some (.list (L.map encS)), some (.int (sgn b)), some (.list ((sights (sgn b) L).map encS)), some (.int (i : Int)), none, none, none]) (s_set (k := 4) rfl rfl rfl (e4c _ e4))
      (seq_rt (s_if (x := true) rfl (seq_rt (s_ret rfl))))))))⟩
  | none =>
    rw [hf] at e4
    have e4 : run (Tw F) (n + 4) "_first_fault" [.list ((sights (sgn b) L).map encS)] = .ok .none := by rw [e4] <;> rfl
    have hlad : ((lad (sights (sgn b) L) (m + 1)).map fun a => PyData.int (sgn b * a)).length = m + 1 := by rw [List.length_map, lad_len]
    obtain ⟨ds, z, hz⟩ := last_of (l := (lad (sights (sgn b) L) (m + 1)).map fun a => PyData.int (sgn b * a)) (by omega)
    have hdl : ds.length + 1 < 1000 := by
      rw [hz, List.length_append] at hlad
      simp only [List.length_cons, List.length_nil] at hlad
      omega
    have e6 : evE (cnAt (Tw F) (n + 4) (run (Tw F) (n + 4)) ⟨"fit_rule", ["kind", "seen"], ["kind", "seen", "sign", "sights", "wrong", "adds", "number", "add"], [], topS 14⟩) 40 (defScope (topS 14)) false (match bodyAt (topS 14) 5 with | .Assign _ e _ => e | _ => .Name Str.empty ⟨0, 0, 0, 0⟩) [some (kd b), some (.list (L.map encS)), some (.int (sgn b)), some (.list ((sights (sgn b) L).map encS)), some .none, none, none, none] = .ok (.list (ds ++ [z])) := by
      rw [← hz]
      refine e_lc (n_comp (ds := (lad (sights (sgn b) L) (m + 1)).map .int) rfl ?_ (by rw [List.length_map, lad_len]; omega) (mapD_map fun a _ => turn_ok rfl (mulS b a)))
      show (evE _ 38 _ false _ _).bind iterD = _
      rw [e_run (R := run (Tw F) (n + 4) "_least_adds") rfl (ds := [.list ((sights (sgn b) L).map encS)]) rfl e5]
      rfl
    exact ⟨_, run_rt rfl rfl (seq_nx (s_drop e1) (seq_nx (ρ' := [some (kd b), some (.list (L.map encS)), some (.int (sgn b)), none, none, none, none, none]) (s_set (k := 2) rfl rfl rfl (e_run (R := run (Tw F) (n + 4) "_sign") rfl (ds := [kd b]) rfl e2))
      (seq_nx (ρ' := [some (kd b), some (.list (L.map encS)), some (.int (sgn b)), some (.list ((sights (sgn b) L).map encS)), none, none, none, none]) (s_set (k := 3) rfl rfl rfl (e_run (R := run (Tw F) (n + 4) "_sights") rfl (ds := [.int (sgn b), .list (L.map encS)]) rfl e3))
      (seq_nx (ρ' := [some (kd b), some (.list (L.map encS)), some (.int (sgn b)), some (.list ((sights (sgn b) L).map encS)), some .none, none, none, none]) (s_set (k := 4) rfl rfl rfl (e4c _ e4))
      (seq_nx (s_if (x := false) rfl rfl) (seq_nx (ρ' := [some (kd b), some (.list (L.map encS)), some (.int (sgn b)), some (.list ((sights (sgn b) L).map encS)), some .none, some (.list ds), some z, none]) (s_star (i := 5) (j := 6) rfl rfl rfl e6 hdl) (seq_rt (s_ret rfl))))))))⟩
end K68

set_option Elab.async false
set_option linter.all false
set_option maxRecDepth 100000
set_option maxHeartbeats 2000000
namespace PY
open PySem PySem.Spec PyProof.Rows L2 DK DD
theorem s_tgt {c : Cn} {wf m k : Nat} {sc : Scope} {ts : List Expr} {e : Expr} {p pos : Pos} {ρ ρ' : En} {d : PyData} (hq : evS c wf sc (m + 1) (.Assign [.Tuple ts k p] e pos) ρ = if parNo e then .no else (evE c 40 sc false e ρ).bind fun d => match tgt c sc 8 (.Tuple ts k p) d ρ with
    | some ρ' => .ok (.nx ρ')
    | none => .no) (h1 : parNo e = false) (h : evE c 40 sc false e ρ = .ok d) (h2 : tgt c sc 8 (.Tuple ts k p) d ρ = some ρ') : evS c wf sc (m + 1) (.Assign [.Tuple ts k p] e pos) ρ = .ok (.nx ρ') := by
  rw [hq, h1, if_neg Bool.false_ne_true, h, bind_ok]
  simp only [h2]
section
variable {c : Cn} {n m : Nat} {sc : Scope} {w : Bool} {a b : Expr} {p : Pos} {ρ : En} {x y d : PyData}
theorem e_bop {op : Operator} (ha : evE c n sc w a ρ = .ok x) (hb : evE c n sc w b ρ = .ok y) (hl : lop op x y = .no) (h : bop op x y = .ok d) : evE c (n + 1) sc w (.BinOp a op b p) ρ = .ok d := by
  show ((evE c n sc w a ρ).bind fun x => (evE c n sc w b ρ).bind fun y => match lop op x y with
    | .ok ds => Rs.ok (PyData.list ds)
    | _ => bop op x y) = _
  rw [ha, bind_ok, hb, bind_ok, hl]
  exact h
theorem e_list2 (sa : noStar a = true) (sb : noStar b = true) (ha : evE c m sc w a ρ = .ok x) (hb : evE c m sc w b ρ = .ok y) : evE c (m + 2) sc w (.List [a, b] p) ρ = .ok (.list [x, y]) := by
  show (((evAll (fun e => evE c m sc w e ρ) [a, b]).bind fun ds => if ds.length ≤ 1000 then Rs.ok ds else .no).bind fun ds => Rs.ok (PyData.list ds)) = _
  rw [evAll2 sa sb ha hb]
  rfl
end
end PY
namespace K68
open PySem PySem.Spec PyProof.Rows L2 DK DD TM PY
variable {F : List PyData → Rs PyData}
/-! foretell -/
abbrev c_ft (F : List PyData → Rs PyData) (n : Nat) : Cn := cnAt (Tw F) n (run (Tw F) n) ⟨"foretell", ["kind", "seen", "prices"], ["kind", "seen", "prices", "sign", "sights", "adds", "asked", "greatest", "least", "sight"], [], topS 15⟩
def drC (st : Stmt) : Expr := match st with | .Expr e _ => e | _ => .Name Str.empty ⟨0, 0, 0, 0⟩
def asE (st : Stmt) : Expr := match st with | .Assign _ e _ => e | _ => .Name Str.empty ⟨0, 0, 0, 0⟩
theorem ft_0 (n : Nat) (b : Bool) {s p : PyData} {r : Rs PyData} (h : run (Tw F) n "_check_seen" [kd b, s] = r) : evE (c_ft F n) 40 (defScope (topS 15)) true (drC (bodyAt (topS 15) 0)) [some (kd b), some s, some p, none, none, none, none, none, none, none] = r := by
  refine e_run (R := run (Tw F) n "_check_seen") ?_ (ds := [kd b, s]) ?_ h
  · rfl
  · rfl
theorem ft_1 (n : Nat) (b : Bool) {L : List (List Int × Int)} {m : Nat} (h : Good L m) (p : PyData) {r : Rs PyData} (hr : run (Tw F) n "check_prices" [p, .int m] = r) : evE (c_ft F n) 40 (defScope (topS 15)) true (drC (bodyAt (topS 15) 1)) [some (kd b), some (.list (L.map encS)), some p, none, none, none, none, none, none, none] = r := by
  cases L with
  | nil => exact absurd h.l1 (by simp)
  | cons e0 L =>
    have e0m : e0.1.length = m := h.eq e0 (by simp)
    refine e_run (R := run (Tw F) n "check_prices") ?_ (ds := [p, .int m]) ?_ hr
    · rfl
    · refine evAll2 rfl rfl rfl (e_call1 (x := .list (e0.1.map .int)) rfl (e_sub rfl (x := encS e0) (y := .int 0) (e_sub rfl (x := .list ((e0 :: L).map encS)) (y := .int 0) rfl rfl ?_) rfl ?_) ?_)
      · exact ix_0
      · exact ixT_0
      · show Rs.ok (PyData.int ((e0.1.map PyData.int).length)) = _
        rw [List.length_map, e0m]
theorem sort2 (x y : Int) : ∃ u v : Int, callR "sorted" (.ok (.list [.int x, .int y])) = .ok (.list [.int u, .int v]) := by
  have e := call_sorted (l := [x, y]) (g := fun i => i)
  by_cases h : x ≤ y
  · refine ⟨x, y, ?_⟩
    show Rs.ok (PyData.list ((srtI [x, y]).map PyData.int)) = _
    have : srtI [x, y] = [x, y] := by simp [srtI, insI, h]
    rw [this]
    rfl
  · refine ⟨y, x, ?_⟩
    show Rs.ok (PyData.list ((srtI [x, y]).map PyData.int)) = _
    have : srtI [x, y] = [y, x] := by simp [srtI, insI, h]
    rw [this]
    rfl
theorem r_fore (n : Nat) (b : Bool) {L : List (List Int × Int)} {m : Nat} (h : Good L m) (p : PyData) (hp : sm p) : if isRow p m = true then ∃ d, run (Tw F) (n + 5) "foretell" [kd b, .list (L.map encS), p] = .ok d else run (Tw F) (n + 5) "foretell" [kd b, .list (L.map encS), p] = .er 2 := by
  have hm1 := h.m1
  have hm2 := h.m2
  have hl2 := h.l2
  have hS1 := sg_n (sgn b) L
  have e0 := ft_0 (F := F) (n + 4) b (p := p) (check_good (F := F) n b h)
  have e1 := ft_1 (F := F) (n + 4) b h p (r_check_prices (F := F) (n + 1) p m hp)
  rw [il_row] at e1
  cases hr : isRow p m with
  | false =>
    rw [hr, if_neg Bool.false_ne_true] at e1
    rw [if_neg Bool.false_ne_true]
    exact run_er rfl rfl (seq_nx (s_drop e0) (seq_er (s_dropE e1)))
  | true =>
    rw [hr, if_pos rfl] at e1
    rw [if_pos rfl]
    obtain ⟨is, rfl, hi⟩ := row_len hr
    have hi : is.length = m := by omega
    have e2 := r_sign (F := F) (n + 3) b
    have e3 := r_sights (F := F) (n + 2) b L (by omega) fun e he => by rw [h.eq e he]; omega
    have e4 := r_first (F := F) (n + 2) (S := sights (sgn b) L) (m := m + 1) (by omega) (by omega) (by omega) (sg_len h _)
    have e5 := r_least (F := F) (n + 3) (S := sights (sgn b) L) (m := m + 1) (sg_ne h _) (by omega) (by omega) (sg_len h _)
    have e6 := r_line (F := F) (n + 3) b is (by omega)
    have e7 := r_parts (F := F) (n + 3) (lad (sights (sgn b) L) (m + 1)) (line (sgn b) is) (by rw [line_len]; omega)
    have t4 : evT (c_ft F (n + 4)) 40 (defScope (topS 15)) (whT (bodyAt (topS 15) 4)) [some (kd b), some (.list (L.map encS)), some (.list (is.map .int)), some (.int (sgn b)), some (.list ((sights (sgn b) L).map encS)), none, none, none, none, none] = .ok (match firstF (m + 1) (sights (sgn b) L) with | some _ => true | none => false) := by
      refine t_cmp1 (x := encN (firstF (m + 1) (sights (sgn b) L))) (y := .none) rfl ?_ rfl ?_
      · refine e_run (R := run (Tw F) (n + 4) "_first_fault") ?_ (ds := [.list ((sights (sgn b) L).map encS)]) ?_ e4
        · rfl
        · rfl
      · cases firstF (m + 1) (sights (sgn b) L) <;> rfl
    cases hf : firstF (m + 1) (sights (sgn b) L) with
    | some i =>
      have t4 : evT (c_ft F (n + 4)) 40 (defScope (topS 15)) (whT (bodyAt (topS 15) 4)) [some (kd b), some (.list (L.map encS)), some (.list (is.map .int)), some (.int (sgn b)), some (.list ((sights (sgn b) L).map encS)), none, none, none, none, none] = .ok true := by rw [t4, hf]
      exact ⟨_, run_rt rfl rfl (seq_nx (s_drop e0) (seq_nx (s_drop e1) (seq_nx (ρ' := [some (kd b), some (.list (L.map encS)), some (.list (is.map .int)), some (.int (sgn b)), none, none, none, none, none, none]) (s_set (k := 3) rfl rfl rfl (e_run (R := run (Tw F) (n + 4) "_sign") rfl (ds := [kd b]) rfl e2))
        (seq_nx (ρ' := [some (kd b), some (.list (L.map encS)), some (.list (is.map .int)), some (.int (sgn b)), some (.list ((sights (sgn b) L).map encS)), none, none, none, none, none]) (s_set (k := 4) rfl rfl rfl (e_run (R := run (Tw F) (n + 4) "_sights") rfl (ds := [.int (sgn b), .list (L.map encS)]) rfl e3))
        (seq_rt (s_if t4 (seq_rt (s_ret rfl))))))))⟩
    | none =>
      have t4 : evT (c_ft F (n + 4)) 40 (defScope (topS 15)) (whT (bodyAt (topS 15) 4)) [some (kd b), some (.list (L.map encS)), some (.list (is.map .int)), some (.int (sgn b)), some (.list ((sights (sgn b) L).map encS)), none, none, none, none, none] = .ok false := by rw [t4, hf]
      have hfn := first_none (sg_ne h (sgn b)) hf
      have hask : (parts (lad (sights (sgn b) L) (m + 1)) (line (sgn b) is)).length = m + 1 := by
        unfold parts
        rw [List.length_map, List.length_zip, lad_len, line_len]
        omega
      have hane : parts (lad (sights (sgn b) L) (m + 1)) (line (sgn b) is) ≠ [] := parts_ne (m := m + 1) lad_len (by rw [line_len]; omega) (by omega)
      have a6 : evE (c_ft F (n + 4)) 40 (defScope (topS 15)) false (asE (bodyAt (topS 15) 6)) [some (kd b), some (.list (L.map encS)), some (.list (is.map .int)), some (.int (sgn b)), some (.list ((sights (sgn b) L).map encS)), some (.list ((lad (sights (sgn b) L) (m + 1)).map .int)), none, none, none, none] = .ok (.list ((parts (lad (sights (sgn b) L) (m + 1)) (line (sgn b) is)).map .int)) := by
        refine e_run (R := run (Tw F) (n + 4) "_parts") ?_ (ds := [.list ((lad (sights (sgn b) L) (m + 1)).map .int), .list ((line (sgn b) is).map .int)]) ?_ e7
        · rfl
        · refine evAll2 rfl rfl rfl ?_
          refine e_run (R := run (Tw F) (n + 4) "_line") ?_ (ds := [.int (sgn b), .list (is.map .int)]) ?_ e6
          · rfl
          · rfl
      have a7 : ∃ g : Int, evE (c_ft F (n + 4)) 40 (defScope (topS 15)) false (asE (bodyAt (topS 15) 7)) [some (kd b), some (.list (L.map encS)), some (.list (is.map .int)), some (.int (sgn b)), some (.list ((sights (sgn b) L).map encS)), some (.list ((lad (sights (sgn b) L) (m + 1)).map .int)), some (.list ((parts (lad (sights (sgn b) L) (m + 1)) (line (sgn b) is)).map .int)), none, none, none] = .ok (.int g) := by
        refine ⟨minI ((sights (sgn b) L).map fun s => maxI (wt (lad (sights (sgn b) L) (m + 1)) s (parts (lad (sights (sgn b) L) (m + 1)) (line (sgn b) is)))), e_call1 (x := .list ((sights (sgn b) L).map fun s => .int (maxI (wt (lad (sights (sgn b) L) (m + 1)) s (parts (lad (sights (sgn b) L) (m + 1)) (line (sgn b) is)))))) rfl (e_lc (n_comp (ds := (sights (sgn b) L).map encS) rfl rfl (by rw [List.length_map]; omega) (mapD_map fun s hs => turn_ok rfl (e_call1 (x := .list ((wt (lad (sights (sgn b) L) (m + 1)) s (parts (lad (sights (sgn b) L) (m + 1)) (line (sgn b) is))).map .int)) rfl ?_ (call_max ?_))))) ?_⟩
        · refine e_run (R := run (Tw F) (n + 4) "_where_told") ?_ (ds := [.list ((lad (sights (sgn b) L) (m + 1)).map .int), encS s, .list ((parts (lad (sights (sgn b) L) (m + 1)) (line (sgn b) is)).map .int)]) ?_ (r_where (F := F) (n + 2) _ _ s (by rw [sg_len h _ s hs]; omega))
          · rfl
          · rfl
        · refine wt_ne (hfn s hs) (parts_ne (m := m + 1) lad_len (sg_len h _ s hs) (by omega)) ?_
          rw [hask]
          unfold parts
          rw [List.length_map, List.length_zip, lad_len, sg_len h _ s hs]
          omega
        · have e := call_min (l := (sights (sgn b) L).map fun s => maxI (wt (lad (sights (sgn b) L) (m + 1)) s (parts (lad (sights (sgn b) L) (m + 1)) (line (sgn b) is)))) (by simpa using sg_ne h (sgn b))
          rw [List.map_map] at e
          exact e
      obtain ⟨g, a7⟩ := a7
      obtain ⟨u, v, hs2⟩ := sort2 (sgn b * minI (parts (lad (sights (sgn b) L) (m + 1)) (line (sgn b) is))) (sgn b * g)
      have a8 : evE (c_ft F (n + 4)) 40 (defScope (topS 15)) false (asE (bodyAt (topS 15) 8)) [some (kd b), some (.list (L.map encS)), some (.list (is.map .int)), some (.int (sgn b)), some (.list ((sights (sgn b) L).map encS)), some (.list ((lad (sights (sgn b) L) (m + 1)).map .int)), some (.list ((parts (lad (sights (sgn b) L) (m + 1)) (line (sgn b) is)).map .int)), some (.int g), none, none] = .ok (.list [.int u, .int v]) := by
        refine e_call1 (x := .list [.int (sgn b * minI (parts (lad (sights (sgn b) L) (m + 1)) (line (sgn b) is))), .int (sgn b * g)]) rfl ?_ hs2
        exact e_list2 rfl rfl (e_bop rfl (e_call1 rfl rfl (call_min hane)) rfl (mulS b _)) (e_bop rfl rfl rfl (mulS b _))
      exact ⟨_, run_rt rfl rfl (seq_nx (s_drop e0) (seq_nx (s_drop e1) (seq_nx (ρ' := [some (kd b), some (.list (L.map encS)), some (.list (is.map .int)), some (.int (sgn b)), none, none, none, none, none, none]) (s_set (k := 3) rfl rfl rfl (e_run (R := run (Tw F) (n + 4) "_sign") rfl (ds := [kd b]) rfl e2))
        (seq_nx (ρ' := [some (kd b), some (.list (L.map encS)), some (.list (is.map .int)), some (.int (sgn b)), some (.list ((sights (sgn b) L).map encS)), none, none, none, none, none]) (s_set (k := 4) rfl rfl rfl (e_run (R := run (Tw F) (n + 4) "_sights") rfl (ds := [.int (sgn b), .list (L.map encS)]) rfl e3))
        (seq_nx (s_if t4 rfl)
        (seq_nx (ρ' := [some (kd b), some (.list (L.map encS)), some (.list (is.map .int)), some (.int (sgn b)), some (.list ((sights (sgn b) L).map encS)), some (.list ((lad (sights (sgn b) L) (m + 1)).map .int)), none, none, none, none]) (s_set (k := 5) rfl rfl rfl (e_run (R := run (Tw F) (n + 4) "_least_adds") rfl (ds := [.list ((sights (sgn b) L).map encS)]) rfl e5))
        (seq_nx (ρ' := [some (kd b), some (.list (L.map encS)), some (.list (is.map .int)), some (.int (sgn b)), some (.list ((sights (sgn b) L).map encS)), some (.list ((lad (sights (sgn b) L) (m + 1)).map .int)), some (.list ((parts (lad (sights (sgn b) L) (m + 1)) (line (sgn b) is)).map .int)), none, none, none]) (s_set (k := 6) rfl rfl rfl a6)
        (seq_nx (ρ' := [some (kd b), some (.list (L.map encS)), some (.list (is.map .int)), some (.int (sgn b)), some (.list ((sights (sgn b) L).map encS)), some (.list ((lad (sights (sgn b) L) (m + 1)).map .int)), some (.list ((parts (lad (sights (sgn b) L) (m + 1)) (line (sgn b) is)).map .int)), some (.int g), none, none]) (s_set (k := 7) rfl rfl rfl a7)
        (seq_nx (ρ' := [some (kd b), some (.list (L.map encS)), some (.list (is.map .int)), some (.int (sgn b)), some (.list ((sights (sgn b) L).map encS)), some (.list ((lad (sights (sgn b) L) (m + 1)).map .int)), some (.list ((parts (lad (sights (sgn b) L) (m + 1)) (line (sgn b) is)).map .int)), some (.int v), some (.int u), none]) (s_tgt rfl rfl a8 rfl)
        (seq_rt (s_ret rfl)))))))))))⟩
end K68

set_option Elab.async false
set_option linter.all false
set_option maxRecDepth 100000
set_option maxHeartbeats 2000000
namespace PY
open PySem PySem.Spec PyProof.Rows L2 DK DD
theorem phi_look {T : Tab} {n : Nat} {R : Phi} {f : Str} {ds : List PyData} {D : Df} (h : T.look f = some D) : phiAt T n R f ds = R f ds := by
  unfold phiAt
  rw [h]
theorem e_fn4 {c : Cn} {m : Nat} {sc : Scope} {ρ : En} {w : Bool} {f : Str} {p pos : Pos} {a b d e : Expr} {ds : List PyData} {r : Rs PyData} (hn : nmOf c.N sc f = .glob) (h1 : c.cst f = none) (h2 : c.cls f = none) (hi : ¬ f = "isinstance") (hs : (setArg f a [b, d, e]).isSome = false) (h3 : [a, b, d, e].all noStar = true) (h4 : c.isF f = true)
    (ha : evAll (fun e => evE c m sc w e ρ) [a, b, d, e] = .ok ds) (hp : c.phi f ds = r) : evE c (m + 1) sc w (.Call (.Name f p) [a, b, d, e] [] pos) ρ = r := by
  rw [evE, hn]
  · simp only [h1, h2]
    rw [if_neg hi, if_neg (by rw [hs]; simp), if_pos h3, if_pos h4, ha]
    exact hp
  all_goals (intros; simp_all)
theorem e_fn3 {c : Cn} {m : Nat} {sc : Scope} {ρ : En} {w : Bool} {f : Str} {p pos : Pos} {a b d : Expr} {ds : List PyData} {r : Rs PyData} (hn : nmOf c.N sc f = .glob) (h1 : c.cst f = none) (h2 : c.cls f = none) (hi : ¬ f = "isinstance") (hs : (setArg f a [b, d]).isSome = false) (h3 : [a, b, d].all noStar = true) (h4 : c.isF f = true)
    (ha : evAll (fun e => evE c m sc w e ρ) [a, b, d] = .ok ds) (hp : c.phi f ds = r) : evE c (m + 1) sc w (.Call (.Name f p) [a, b, d] [] pos) ρ = r := by
  rw [evE, hn]
  · simp only [h1, h2]
    rw [if_neg hi, if_neg (by rw [hs]; simp), if_pos h3, if_pos h4, ha]
    exact hp
  all_goals (intros; simp_all)
end PY
namespace K68
open PySem PySem.Spec PyProof.Rows L2 DK DD TM PY
/-! _law_fits -/
def wrds : List Str := ["good", "kind", "seen", "prices"]
theorem eq_words : ∀ a ∈ wrds, ∀ b ∈ wrds, cmp .Eq (.list [.str a, .str b]) (.list [.str a, .str b]) = .ok true := by decide +kernel
abbrev c_fit (n : Nat) : Cn := cnAt T1 n (run T1 n) ⟨"_law_fits", ["kind", "seen", "prices"], ["kind", "seen", "prices", "words", "way"], [], topS 35⟩
theorem fits_of (n : Nat) {k s p : PyData} {a b : Str} (h0 : F_word [.int 0, k, s, p] = .ok (.str a)) (h1 : F_word [.int 1, k, s, p] = .ok (.str b)) (d0 : run T1 (n + 6) "_law_due" [.int 0, k, s, p] = .ok (.str a)) (d1 : run T1 (n + 6) "_law_due" [.int 1, k, s, p] = .ok (.str b)) (ha : a ∈ wrds) (hb : b ∈ wrds) : run T1 (n + 7) "_law_fits" [k, s, p] = .ok (.bool true) := by
  have hw : ∀ i ∈ [(0 : Int), 1], F_word [.int i, k, s, p] = .ok (.str (if i = 0 then a else b)) := by
    intro i hi
    simp only [List.mem_cons, List.not_mem_nil, or_false] at hi
    rcases hi with rfl | rfl
    · exact h0
    · exact h1
  have hd : ∀ i ∈ [(0 : Int), 1], run T1 (n + 6) "_law_due" [.int i, k, s, p] = .ok (.str (if i = 0 then a else b)) := by
    intro i hi
    simp only [List.mem_cons, List.not_mem_nil, or_false] at hi
    rcases hi with rfl | rfl
    · exact d0
    · exact d1
  have hph : ∀ ds, phiAt T1 (n + 6) (run T1 (n + 6)) "_law_word" ds = F_word ds := fun ds => by
    show (if 6 ≤ n + 6 then F_word ds else .no) = _
    rw [if_pos (by omega)]
  have hF : isFAt T1 (n + 6) "_law_word" = true := by
    show ((T1.look "_law_word").isSome || decide (6 ≤ n + 6)) = true
    rw [decide_eq_true (by omega), Bool.or_true]
  have e1 : evE (c_fit (n + 6)) 40 (defScope (topS 35)) false (asE (bodyAt (topS 35) 0)) [some k, some s, some p, none, none] = .ok (.list [.str a, .str b]) := by
    refine e_lc (n_comp (ds := [(0 : Int), 1].map .int) rfl ?_ (by decide) (mapD_map (l := [(0 : Int), 1]) (enc := PyData.int) (g := fun i => .str (if i = 0 then a else b)) fun i hi => turn_ok rfl ?_))
    · exact it_range (i := 2) rfl rfl rfl rfl (by omega) (by omega)
    · exact e_fn4 (ds := [.int i, k, s, p]) rfl rfl rfl (by decide) rfl rfl hF rfl ((hph _).trans (hw i hi))
  have e2 : evE (c_fit (n + 6)) 39 (defScope (topS 35)) true (match bodyAt (topS 35) 1 with | .Return (some (.Compare _ _ (e :: _) _)) _ => e | _ => .Name Str.empty ⟨0, 0, 0, 0⟩) [some k, some s, some p, some (.list [.str a, .str b]), none] = .ok (.list [.str a, .str b]) := by
    refine e_lc (n_comp (ds := [(0 : Int), 1].map .int) rfl ?_ (by decide) (mapD_map (l := [(0 : Int), 1]) (enc := PyData.int) (g := fun i => .str (if i = 0 then a else b)) fun i hi => turn_ok rfl ?_))
    · exact it_range (i := 2) rfl rfl rfl rfl (by omega) (by omega)
    · refine e_run (R := run T1 (n + 6) "_law_due") ?_ (ds := [.int i, k, s, p]) ?_ (hd i hi)
      · rfl
      · rfl
  exact run_rt rfl rfl (seq_nx (ρ' := [some k, some s, some p, some (.list [.str a, .str b]), none]) (s_set (k := 3) rfl rfl rfl e1) (seq_rt (s_ret (e_cmp1 rfl rfl e2 (eq_words a ha b hb)))))
theorem fit_bad (n : Nat) {k s : PyData} {i : Nat} (h : run T0 (n + 4) "_check_seen" [k, s] = .er i) : run T0 (n + 5) "fit_rule" [k, s] = .er i := by
  refine run_er rfl rfl (seq_er (s_dropE ?_))
  refine e_run (R := run T0 (n + 4) "_check_seen") ?_ (ds := [k, s]) ?_ h
  · rfl
  · rfl
theorem fore_bad (n : Nat) {k s p : PyData} {i : Nat} (h : run T0 (n + 4) "_check_seen" [k, s] = .er i) : run T0 (n + 5) "foretell" [k, s, p] = .er i := by
  refine run_er rfl rfl (seq_er (s_dropE ?_))
  refine e_run (R := run T0 (n + 4) "_check_seen") ?_ (ds := [k, s]) ?_ h
  · rfl
  · rfl
theorem word_0 {k s p : PyData} : F_word [.int 0, k, s, p] = wordOf (run T0 5 "fit_rule" [k, s]) := rfl
theorem word_1 {k s p : PyData} : F_word [.int 1, k, s, p] = wordOf (run T0 5 "foretell" [k, s, p]) := rfl
/-- a kind, and any datum as what was seen and as prices -/
theorem fits_kd (n : Nat) (b : Bool) {s p : PyData} (hs : smSeen s) (hp : sm p) : run T1 (n + 7) "_law_fits" [kd b, s, p] = .ok (.bool true) := by
  by_cases hg : ∃ L m, s = .list (L.map encS) ∧ Good L m
  · obtain ⟨L, m, rfl, hg⟩ := hg
    obtain ⟨d, hd⟩ := r_fit (F := fun _ => .no) 0 b hg
    have hf := r_fore (F := fun _ => .no) 0 b hg p hp
    have d0 := due_good (F := F_word) (n + 2) 0 b p hg hp
    have d1 := due_good (F := F_word) (n + 2) 1 b p hg hp
    have w0 : F_word [.int 0, kd b, .list (L.map encS), p] = .ok (.str "good") := by
      rw [word_0]
      show wordOf (run (Tw fun _ => .no) (0 + 5) "fit_rule" [kd b, .list (L.map encS)]) = _
      rw [hd]
      rfl
    cases hr : isRow p m with
    | true =>
      rw [hr, if_pos rfl] at hf
      obtain ⟨d', hd'⟩ := hf
      rw [hr] at d1
      refine fits_of n w0 ?_ d0 d1 (by decide) (by decide)
      rw [word_1]
      show wordOf (run (Tw fun _ => .no) (0 + 5) "foretell" [kd b, .list (L.map encS), p]) = _
      rw [hd']
      rfl
    | false =>
      rw [hr, if_neg Bool.false_ne_true] at hf
      rw [hr] at d1
      refine fits_of n w0 ?_ d0 d1 (by decide) (by decide)
      rw [word_1]
      show wordOf (run (Tw fun _ => .no) (0 + 5) "foretell" [kd b, .list (L.map encS), p]) = _
      rw [hf]
      rfl
  · have hc := check_bad (F := fun _ => .no) 0 b hs hg
    refine fits_of n (a := "seen") (b := "seen") ?_ ?_ (due_bad (F := F_word) (n + 2) 0 b p hs hg hp) (due_bad (F := F_word) (n + 2) 1 b p hs hg hp) (by decide) (by decide)
    · rw [word_0]
      show wordOf (run (Tw fun _ => .no) (0 + 5) "fit_rule" [kd b, s]) = _
      rw [fit_bad 0 hc]
      rfl
    · rw [word_1]
      show wordOf (run (Tw fun _ => .no) (0 + 5) "foretell" [kd b, s, p]) = _
      rw [fore_bad 0 hc]
      rfl
/-! what is no kind -/
def kinds : List PyData := [.none, .str "", .str "Least", .str "mean", .int 0, .bool true, .list [], .tuple [.str "least"], .dict [], .list [.str "most"], .str "least ", .str "rank", .str "price", .str "plain", .str "max", .str "LEAST", .str " most", .str "leastmost", .str "rank 2"]
theorem odd_1 : ∀ k ∈ kinds, cmp .NotEq k (.str "least") = .ok true := by decide +kernel
theorem odd_2 : ∀ k ∈ kinds, cmp .NotEq k (.str "most") = .ok true := by decide +kernel
theorem odd_3 : ∀ k ∈ kinds, cmp .NotIn k (.list [.str "least", .str "most"]) = .ok true := by decide +kernel
theorem check_odd {F : List PyData → Rs PyData} (n : Nat) {k s : PyData} (h : k ∈ kinds) : run (Tw F) (n + 1) "_check_seen" [k, s] = .er 0 := by
  have ht : evT (cnAt (Tw F) n (run (Tw F) n) D_cs) 40 (defScope (topS 16)) (whT (bodyAt (topS 16) 0)) [some k, some s, none, none, none] = .ok true := by
    refine (t_and (x := true) (y := true) (t_cmp1 rfl rfl rfl (odd_1 k h)) fun _ => ?_).trans rfl
    rw [andT_1]
    exact t_cmp1 rfl rfl rfl (odd_2 k h)
  exact run_er rfl rfl (seq_er (s_if ht rfl))
theorem due_odd {F : List PyData → Rs PyData} (n : Nat) {i : Int} {k s p : PyData} (h : k ∈ kinds) : run (Tw F) (n + 1) "_law_due" [.int i, k, s, p] = .ok (.str "kind") := by
  have ht : evT (c_due F n) 40 (defScope (topS 34)) (whT (bodyAt (topS 34) 0)) [some (.int i), some k, some s, some p, none, none] = .ok true := t_cmp1 rfl rfl rfl (odd_3 k h)
  exact run_rt rfl rfl (seq_rt (s_if ht rfl))
theorem fits_odd (n : Nat) {k s p : PyData} (h : k ∈ kinds) : run T1 (n + 7) "_law_fits" [k, s, p] = .ok (.bool true) := by
  have hc := check_odd (F := fun _ => .no) 3 (s := s) h
  refine fits_of n (a := "kind") (b := "kind") ?_ ?_ (due_odd (F := F_word) (n + 5) h) (due_odd (F := F_word) (n + 5) h) (by decide) (by decide)
  · rw [word_0]
    show wordOf (run (Tw fun _ => .no) (0 + 5) "fit_rule" [k, s]) = _
    rw [fit_bad 0 hc]
    rfl
  · rw [word_1]
    show wordOf (run (Tw fun _ => .no) (0 + 5) "foretell" [k, s, p]) = _
    rw [fore_bad 0 hc]
    rfl
end K68

set_option Elab.async false
set_option linter.all false
set_option maxRecDepth 100000
set_option maxHeartbeats 8000000
namespace K68
open PySem PySem.Spec PyProof.Rows L2 DK DD TM PY XC2
section
variable {P : Program} {w : World} {K : PySem.W.Frag} {mg : Str → Option Value} {base : Heap} {cl : Nat → Addr}
def D_word : Df := ⟨"_law_word", ["way", "kind", "seen", "prices"], ["way", "kind", "seen", "prices", "caught", "e", "hits"], [], topS 30⟩
/-- what the word asks of the kinds of errors -/
structure Kinds (K : PySem.W.Frag) (mg : Str → Option Value) (cl : Nat → Addr) where
  S : Addr
  gS : mg "SpinError" = some (.ref S)
  kit : Kit K [cl 0, cl 1, cl 2, cl 3] S
  n_ValueError : mg "ValueError" = none
theorem word_args {ds : List PyData} (h : F_word ds ≠ .no) : ∃ i k s p, ds = [.int i, k, s, p] ∧ F_word ds = wordOf (wordR i k s p) := by
  match ds with
  | [d, k, s, p] =>
    cases d with
    | int i => exact ⟨i, k, s, p, rfl, rfl⟩
    | _ => exact absurd rfl h
  | [] => exact absurd rfl h
  | [_] => exact absurd rfl h
  | [_, _] => exact absurd rfl h
  | [_, _, _] => exact absurd rfl h
  | _ :: _ :: _ :: _ :: _ :: _ => exact absurd rfl h
/-- the body of the try -/
def tryB : Stmt := match bodyAt (topS 30) 1 with | .Try b _ _ _ _ => b.getD 0 (.Pass ⟨0, 0, 0, 0⟩) | s => s
def ifT : Stmt → Expr
  | .If t _ _ _ => t
  | _ => .Name Str.empty ⟨0, 0, 0, 0⟩
def callOf : List Stmt → Expr
  | [.Expr e _] => e
  | _ => .Name Str.empty ⟨0, 0, 0, 0⟩
def elsB : Stmt → List Stmt
  | .If _ _ b _ => b
  | _ => []
theorem sc_word : FnScope D_word.N D_word.ps (defScope (topS 30)) := ⟨rfl, rfl, rfl, by decide +kernel, rfl, by decide +kernel, by decide +kernel⟩
def c_word : Cn := cnAt T0 5 (run T0 5) D_word
theorem body_ok (mm : Mdl P w K mg base 5 cl c_word) {W : WX} {i : Int} {k s p : PyData} {σ : L2.St} {H : Hp} {M : List Addr} (C : Cxt c_word K (lv M M) σ H [some (.int i), some k, some s, some p, some .none, none, none]) {D : Ends}
    (q : Out cl W σ H (wordR i k s p) fun _ => ∀ H2, Evl.Ex H H2 → D.nx σ H2) :
    tIfS (tBT P w K mg base 5 D_word.N (defScope (topS 30)) W (ifT tryB)) (tDrop (tB P w K mg base 5 D_word.N (defScope (topS 30)) W (callOf (whB tryB)))) (tDrop (tB P w K mg base 5 D_word.N (defScope (topS 30)) W (callOf (elsB tryB)))) D σ H := by
  have ht := (ev_ok (cl := cl) mm 40).2.2 (defScope (topS 30)) W (lv M M) σ H _ C (ifT tryB) H (Evl.Ex.refl _) (fun b H1 => if b = true then tDrop (tB P w K mg base 5 D_word.N (defScope (topS 30)) W (callOf (whB tryB))) D σ H1 else tDrop (tB P w K mg base 5 D_word.N (defScope (topS 30)) W (callOf (elsB tryB))) D σ H1)
  have e : evT c_word 40 (defScope (topS 30)) (ifT tryB) [some (.int i), some k, some s, some p, some .none, none, none] = .ok (decide (i = 0)) := rfl
  rw [e] at ht
  refine ht fun H2 x2 => ?_
  have C2 := C.ex x2
  by_cases h0 : i = 0
  · subst h0
    refine (ev_ok (cl := cl) mm 40).1 (defScope (topS 30)) W (lv M M) σ H2 _ C2 true (callOf (whB tryB)) H2 (Evl.Ex.refl _) _ ?_
    exact Out.mono (r := wordR 0 k s p) q x2 fun a _ s v H3 x3 _ => s H3 (x2.trans x3)
  rw [decide_eq_false h0, if_neg Bool.false_ne_true]
  have hr : wordR i k s p = run T0 5 "foretell" [k, s, p] := by
    unfold wordR
    rw [if_neg h0]
  rw [hr] at q
  refine (ev_ok (cl := cl) mm 40).1 (defScope (topS 30)) W (lv M M) σ H2 _ C2 true (callOf (elsB tryB)) H2 (Evl.Ex.refl _) _ ?_
  exact Out.mono (r := run T0 5 "foretell" [k, s, p]) q x2 fun a _ s v H3 x3 _ => s H3 (x2.trans x3)
def bl4 (i : Nat) : List Bool := [decide (i = 0), decide (i = 1), decide (i = 2), decide (i = 3)]
theorem atI_nat' {xs : List V} {t : Nat} (h : t < xs.length) : atI xs (t : Int) = xs[t]? := by
  show (ixN _ _).bind _ = _
  rw [Evl.ixN_nat h]
  rfl
theorem ok_word (S : Stands P w K mg base cl T0) (Z : Kinds K mg cl) (A : AtN K mg "_law_word" D_word.nm D_word.st D_word.ps) : FnOk P w K mg base (CX P w) 6 A.f A.fd D_word.ps (spP K cl F_word) := by
  have mm : Mdl P w K mg base 5 cl c_word := mdl_at S 5 _ rfl rfl rfl rfl
  refine A.F.okX sc_word (fun vs H Q E h => ?_) (fun cdv Ar outer s H vs Q E hr h => ?_)
  · obtain ⟨M, ds, _, hv, q⟩ := h
    obtain ⟨d, k, s, p, rfl, _⟩ := word_args (ds := ds) (fun z => by rw [z] at q; exact q)
    rw [ra_len hv]
    rfl
  obtain ⟨M, ds, hM, hv, q⟩ := h
  obtain ⟨i, r, p, l, rfl, hq⟩ := word_args (ds := ds) (fun z => by rw [z] at q; exact q)
  rw [hq] at q
  have RS : Rel c_word K H M M (L2.start D_word.N vs) H [some (.int i), some r, some p, some l, none, none, none] := rel_start (c := c_word) sc_word rfl hM hv (fun x hx => rfl) rfl
  have hvl := ra_len hv
  have hC : ∀ (x : Str) (j : Nat), cls x = some j → XCl K mg x (cl j) := fun x j h => S.cls x j h
  have n_isi : mg "isinstance" = none := S.blt _ (by decide +kernel)
  let W : WX := fun cls d _ H => E cls d H
  have g : PY.Good P w K mg base 5 D_word.N (defScope (topS 30)) W (cxOf (CX P w) P w K mg base D_word.N D_word.nm (defScope (topS 30)) A.f cdv Ar outer s H E) :=
    ⟨rfl, rfl, rfl, rfl, rfl, rfl, sc_word.nd, rfl, hr, fun x v h => .inl h, takes_of rfl rfl rfl rfl, fun _ _ => rfl, sc_word.kind⟩
  refine ⟨_, (pss_cons (ps_set (i := 4) sc_word.nd rfl (Or.inl rfl) pe_non)
      (pss_cons (ps_kept (i := 5) rfl rfl sc_word.nd rfl rfl rfl (by decide) Z.gS rfl (fun W' pn xe tk po => (pss_one (ps_if (bt (good_tr g tk) _) (pss_one (ps_expr (be (good_tr g tk) _) rfl)) (pss_one (ps_expr (be (good_tr g tk) _) rfl))))) (fun a oe cls d pn _ _ => (pss_one (ps_set (i := 4) sc_word.nd rfl (Or.inl rfl) (pv 5)))))
      (pss_cons (ps_if (pt_cmpR op_isN (pv 4) pe_non (nomark _)) (pss_one (ps_ret pe_str)) pss_nil)
      (pss_cons (ps_set (i := 6) sc_word.nd rfl (Or.inl rfl) (pe_lst (pa_cons (pe_callB call_isC (by rfl) n_isi (by decide +kernel) (pa_cons (pv 4) (pa_cons (pe_glob (v := .ref (cl 0)) rfl (hC "InvalidKind" 0 rfl).g rfl) pa_nil)))
        (pa_cons (pe_callB call_isC (by rfl) n_isi (by decide +kernel) (pa_cons (pv 4) (pa_cons (pe_glob (v := .ref (cl 1)) rfl (hC "InvalidSeen" 1 rfl).g rfl) pa_nil)))
        (pa_cons (pe_callB call_isC (by rfl) n_isi (by decide +kernel) (pa_cons (pv 4) (pa_cons (pe_glob (v := .ref (cl 2)) rfl (hC "InvalidPrices" 2 rfl).g rfl) pa_nil))) pa_nil)))))
      (pss_cons (ps_expr (pe_bm PySem.F.plainAttrs_list PySem.F.slot_list_append PySem.F.type_list_append mt_append (pv 6) (pa_cons (pe_callB call_isC (by rfl) n_isi (by decide +kernel) (pa_cons (pv 4) (pa_cons (pe_glob (v := .ref (cl 3)) rfl (hC "InvalidPrice" 3 rfl).g rfl) pa_nil))) pa_nil)))
      (pss_cons (ps_if (PW.pt (pw_or (pt_cmpR op_ne (pe_bm PySem.F.plainAttrs_list PySem.F.slot_list_count PySem.F.type_list_count (mt_countD (by
        have h1 := hr.un
        show (Ar.deeper (envOfC D_word.nm (defScope D_word.st) s.heap.objs.size A.f cdv)).units + 65 < cLine
        omega)) (pv 6) (pa_cons pe_bl pa_nil)) pe_int (nomark _)) (pw_or1 (pt_not (pt_val (pe_callB call_isC (by rfl) n_isi (by decide +kernel) (pa_cons (pv 4) (pa_cons (pe_bltn (v := .ty "ValueError") rfl Z.n_ValueError (by decide +kernel) rfl) pa_nil)))))))) (pss_one (ps_ret pe_str)) pss_nil)
      (pss_one (ps_ret (pe_ix ix_list (pe_lst (pa_cons pe_str (pa_cons pe_str (pa_cons pe_str (pa_cons pe_str pa_nil))))) (pe_bm PySem.F.plainAttrs_list PySem.F.slot_list_index PySem.F.type_list_index mt_index (pv 6) (pa_cons pe_bl pa_nil)) (fun _ _ => rfl)))))))))), ?_⟩
  obtain ⟨v1, v2, v3, v4, rfl⟩ : ∃ v1 v2 v3 v4, vs = [v1, v2, v3, v4] := by
    match vs, hvl with
    | [v1, v2, v3, v4], _ => exact ⟨v1, v2, v3, v4, rfl⟩
  refine Evl.q_asg Evl.ev_c fun H1 e1 => ?_
  have R1 := (RS.ex e1).set (i := 4) (x := "caught") (v := .non) (d := .none) rfl rfl .non
  have C1 : Cxt c_word K (lv M M) [some v1, some v2, some v3, some v4, some .non, none, none] H1 [some (.int i), some r, some p, some l, some .none, none, none] := R1.cxt
  have six : ∀ j, wordR i r p l = .er j → j < 3 := fun j hj => Classical.byContradiction fun z => by
    rw [hj] at q
    match j, z with
    | 0, z => omega
    | 1, z => omega
    | 2, z => omega
    | n + 3, _ => exact q
  have nth : ∀ j, j < 4 → [cl 0, cl 1, cl 2, cl 3][j]? = some (cl j) := fun j hj => by
    match j, hj with
    | 0, _ => rfl
    | 1, _ => rfl
    | 2, _ => rfl
    | 3, _ => rfl
  refine LS.q_word (fun σ' H' => Evl.Ex H H' ∧ ((∃ d0, wordR i r p l = .ok d0 ∧ σ' = [some v1, some v2, some v3, some v4, some .non, none, none]) ∨ (∃ (a : Addr) (j : Nat), wordR i r p l = .er j ∧ CxV H' a (cl j) [] ∧ σ' = [some v1, some v2, some v3, some v4, some (.ref a), none, none])))
    (fun N hN => ?_) (fun σ' H' hW => ?_)
  · refine body_ok mm C1 ?_
    cases hw : wordR i r p l with
    | ok d0 => exact fun H2 e2 => hN _ _ ⟨e1.trans e2, .inl ⟨d0, hw, rfl⟩⟩
    | er j =>
      intro H2 e2
      have hj := six j hw
      exact ⟨Z.kit.em j (cl j) (nth j (by omega)), fun a na => ⟨_, rfl, hN _ _ ⟨(e1.trans e2).trans (Evl.Ex.new na), .inr ⟨a, j, hw, .inl ⟨rfl, upd_same⟩, rfl⟩⟩⟩⟩
    | no =>
      rw [hw] at q
      exact q
  obtain ⟨eH, hW⟩ := hW
  rcases hW with ⟨d0, hw, rfl⟩ | ⟨a, j, hw, hc, rfl⟩
  · rw [hw] at q
    refine Evl.q_when (b := true) (Evl.et_test (Evl.ev_is (Evl.ev_op (Evl.ev_var rfl) Evl.ev_c (fun H1 _ Q q => ⟨rfl, q H1 (Evl.Ex.refl _)⟩)) rfl)) (fun _ H3 e3 => ?_) (fun hb => nomatch hb)
    exact Evl.s_ret Evl.ev_c fun H5 e5 => q _ H5 (eH.trans (e3.trans e5)) (.str _)
  have hj := six j hw
  rw [hw] at q
  refine Evl.q_when (b := false) (Evl.et_test (Evl.ev_is (Evl.ev_op (Evl.ev_var rfl) Evl.ev_c (fun H1 _ Q q => ⟨rfl, q H1 (Evl.Ex.refl _)⟩)) rfl)) (fun hb => nomatch hb) (fun _ H3 e3 => ?_)
  have kI : ∀ (t : Nat), t < 4 → ∀ (x : Option V) {H4 : Hp}, Evl.Ex H' H4 → Evl.Ev (tCB (rIsC K) (tCons (tVar 4) (tCons (tC (.ref (cl t))) tNil))) [some v1, some v2, some v3, some v4, some (.ref a), none, x] H4 (.bl (decide (j = t))) := fun t ht x H4 e => ev_isC (Evl.ev_var rfl) (hc.ex e) (Z.kit.xc j (cl j) (nth j (by omega))) (.own _) (Z.kit.ll j t _ _ (nth j (by omega)) (nth t ht))
  refine Evl.q_asgL (Evl.el_lst (Evl.ea_cons (kI 0 (by decide) none e3) (Evl.ea_cons (kI 1 (by decide) none e3) (Evl.ea_cons (kI 2 (by decide) none e3) Evl.ea_nil))) (by simp)) fun p3 H4 hp1 e4 hl1 => ?_
  refine Evl.s_app hl1 (Evl.ev_var rfl) (kI 3 (by decide) (some (.ref p3)) (e3.trans e4)) (by simp) fun H4' e4' => ?_
  have n3 : H' p3 = none := Evl.fresh_back e3 hp1
  have e35 : Evl.Ex H' (upd H4' p3 (.lst ([V.bl (decide (j = 0)), .bl (decide (j = 1)), .bl (decide (j = 2))] ++ [.bl (decide (j = 3))]))) := ((e3.trans e4).trans e4').mut n3
  have hl3 : upd H4' p3 (.lst ([V.bl (decide (j = 0)), .bl (decide (j = 1)), .bl (decide (j = 2))] ++ [.bl (decide (j = 3))])) p3 = some (.lst ((bl4 j).map V.bl)) := upd_same
  generalize upd H4' p3 (.lst ([V.bl (decide (j = 0)), .bl (decide (j = 1)), .bl (decide (j = 2))] ++ [.bl (decide (j = 3))])) = H5 at e35 hl3
  have kV : ∀ {H6 : Hp}, Evl.Ex H5 H6 → Evl.EvT (tB (tCB (rIsC K) (tCons (tVar 4) (tCons (tC (.ty "ValueError")) tNil)))) [some v1, some v2, some v3, some v4, some (.ref a), none, some (.ref p3)] H6 true := fun e => Evl.et_B (ev_isC (Evl.ev_var rfl) (hc.ex (e35.trans e)) (Z.kit.xc j (cl j) (nth j (by omega))) (.ty _) (Z.kit.lv j (cl j) (nth j (by omega))))
  have kC : Evl.Ev (tBM K "list" (rCntD K) (tVar 6) (tCons (tC (.bl true)) tNil)) [some v1, some v2, some v3, some v4, some (.ref a), none, some (.ref p3)] H5 (.int ((((bl4 j).map PyData.bool).countP fun z => PyData.eqv z (.bool true) : Nat) : Int)) := fun H6 e6 Q6 q6 => by
    refine ⟨_, rfl, .inl ⟨rfl, _, Evl.sq_of (e6 _ _ hl3)⟩, ?_⟩
    exact ⟨p3, .bl true, .bool true, (bl4 j).map PyData.bool, rfl, rfl, .lst (Evl.sq_of (e6 _ _ hl3)) (dp_bools _), .bl true, shaped_bools _, by decide +kernel, q6 _ (Evl.Ex.refl _)⟩
  have eH5 := eH.trans e35
  obtain ⟨t, wd, h1, h2, hfl, hc1, h3, ht, q⟩ : ∃ (t : Nat) (wd : Str), ((bl4 j).map V.bl)[t]? = some (.bl true) ∧ (∀ m z, m < t → ((bl4 j).map V.bl)[m]? = some z → eqV z (.bl true) = false) ∧ ((bl4 j).map V.bl).all flatV = true ∧ (((bl4 j).map PyData.bool).countP fun z => PyData.eqv z (.bool true)) = 1 ∧ ([V.str "kind", .str "seen", .str "prices", .str "price"][t]? = some (.str wd)) ∧ t < 4 ∧ (∀ (v : V) (H' : Hp), Evl.Ex H H' → Rv K (mi H' M) v (.str wd) → Q v H') := by
    clear kC kV kI hc hw six nth
    match j, hj with
    | 0, _ => exact ⟨0, "kind", rfl, fun m z hm => by omega, rfl, by decide +kernel, rfl, by decide, q⟩
    | 1, _ => exact ⟨1, "seen", rfl, fun m z hm hz => by
        match m, hm with
        | 0, _ => cases hz; rfl, rfl, by decide +kernel, rfl, by decide, q⟩
    | 2, _ => exact ⟨2, "prices", rfl, fun m z hm hz => by
        match m, hm with
        | 0, _ => cases hz; rfl
        | 1, _ => cases hz; rfl, rfl, by decide +kernel, rfl, by decide, q⟩
  refine Evl.q_when (b := false) (Evl.et_is (Evl.et_or (Evl.et_test (Evl.ev_op kC Evl.ev_c (Evl.rv_ne rfl))) (fun _ => Evl.et_not (kV (Evl.Ex.refl _)))) (by rw [hc1] <;> rfl)) (fun hb => nomatch hb) (fun _ H6 e6 => ?_)
  unfold tRet tOp
  refine Evl.el_lst (Evl.ea_cons Evl.ev_c (Evl.ea_cons Evl.ev_c (Evl.ea_cons Evl.ev_c (Evl.ea_cons Evl.ev_c Evl.ea_nil)))) (by simp) H6 (Evl.Ex.refl _) _ fun p5 H7 hp5 e7 hl5 => ?_
  refine ⟨_, rfl, .inl ⟨rfl, _, Evl.sq_of ((e6.trans e7) _ _ hl3)⟩, ?_⟩
  refine ⟨p3, _, .bl true, t, .bl true, rfl, rfl, Evl.sq_of ((e6.trans e7) _ _ hl3), rfl, hfl, h1, rfl, fun m z' hm hz => h2 m z' hm hz, ?_⟩
  exact ⟨p5, _, (t : Int), .str wd, rfl, rfl, Evl.sq_of hl5, by rw [← h3]; exact atI_nat' ht, q _ _ (eH5.trans (e6.trans e7)) (.str _)⟩
end
end K68

set_option Elab.async false
set_option linter.all false
set_option maxRecDepth 100000
set_option maxHeartbeats 8000000
namespace PY
open PySem PySem.Spec PyProof.Rows L2 DK DD TM
/-- two operands' outcome, as it is reckoned -/
abbrev opR (op : Operator) (d1 d2 : PyData) : Rs PyData := match lop op d1 d2 with
      | .ok ds => Rs.ok (PyData.list ds)
      | _ => bop op d1 d2
theorem o_mulR {i j : Int} (h1 : -(2 ^ 64) < j) (h2 : j < 2 ^ 64) : opR .Mult (.int i) (.int j) = .ok (.int (i * j)) := by
  show (if (-(2 ^ 64) < i ∧ i < 2 ^ 64) ∨ (-(2 ^ 64) < j ∧ j < 2 ^ 64) then Rs.ok (PyData.int (i * j)) else if i.natAbs.log2 + j.natAbs.log2 < 1000000 then Rs.ok (PyData.int (i * j)) else .no) = _
  rw [if_pos (.inr ⟨h1, h2⟩)]
theorem o_mulL {i j : Int} (h1 : -(2 ^ 64) < i) (h2 : i < 2 ^ 64) : opR .Mult (.int i) (.int j) = .ok (.int (i * j)) := by
  show (if (-(2 ^ 64) < i ∧ i < 2 ^ 64) ∨ (-(2 ^ 64) < j ∧ j < 2 ^ 64) then Rs.ok (PyData.int (i * j)) else if i.natAbs.log2 + j.natAbs.log2 < 1000000 then Rs.ok (PyData.int (i * j)) else .no) = _
  rw [if_pos (.inl ⟨h1, h2⟩)]
theorem o_mod {i j : Int} (h : 0 < j) : opR .Mod (.int i) (.int j) = .ok (.int (i % j)) := by
  show (if 0 < j then Rs.ok (PyData.int (i % j)) else .no) = _
  rw [if_pos h]
theorem o_add {i j : Int} : opR .Add (.int i) (.int j) = .ok (.int (i + j)) := rfl
theorem o_sub {i j : Int} : opR .Sub (.int i) (.int j) = .ok (.int (i - j)) := rfl
theorem fx1 {c : Cn} {s : V} {ρ : En} {i : Nat} (h : c.fx = some (i, s)) (hr : ρ[i]? = some none) : FxN c ρ := fun j v h' => by
  rw [h] at h'
  cases h'
  exact hr
theorem rngD_at {m i : Nat} {d : PyData} (h : (rngD m)[i]? = some d) : d = .int (i : Nat) ∧ i < m := by
  have hi := (List.getElem?_eq_some_iff.mp h).1
  have hm : i < m := by simpa [rngD] using hi
  unfold rngD at h
  rw [List.getElem?_map, List.getElem?_range hm] at h
  cases h
  exact ⟨rfl, hm⟩
theorem rngD_len (m : Nat) : (rngD m).length = m := by simp [rngD]
/-- for x in e, e a list that is reckoned with draws -/
theorem xi_e {P : Program} {w : World} {K : PySem.W.Frag} {mg : Str → Option Value} {base : Heap} {k : Nat} {c : Cn} {sc : Scope} {W : WX} {s cc : Addr} {b : Bool} {tg e : Expr} {ρ : En} {n : Nat} {SL : List PyData → Nat → Prop}
    (h : XE P w K mg base k c sc W s cc b e ρ n fun d n1 => ∃ ds, d = .list ds ∧ SL ds n1) : XI P w K mg base k c sc W s cc b tg e ρ n SL := fun Hs M0 M σ H R Q q => by
  refine ⟨iList K (tB P w K mg base k c.N sc W e), fun X g => by rw [← g.eK]; exact pi_list (by rw [g.eK]; exact be g e), ?_⟩
  refine h Hs M0 M σ H R _ fun d n1 v H1 h1 x1 S1 hv => ?_
  obtain ⟨ds, rfl, hS⟩ := h1
  cases hv with
  | lst h1 h2 => exact ⟨_, rfl, ⟨_, Evl.sq_of (mi_some h1).2⟩, q _ n1 _ H1 hS x1 S1 (walk_lst h1 h2)⟩
end PY
namespace PY
open PySem PySem.Spec PyProof.Rows L2 DK DD
theorem at_map {α : Type} {l : List α} {enc : α → PyData} {n : Nat} (d : α) (h : n < l.length) : atI (l.map enc) (n : Int) = some (enc (l.getD n d)) := by
  have e : ixN (l.map enc).length (n : Int) = some n := Evl.ixN_nat (by rw [List.length_map]; exact h)
  show (ixN _ _).bind _ = _
  rw [e, Option.bind_some, List.getElem?_map, List.getElem?_eq_getElem h, List.getD_eq_getElem?_getD, List.getElem?_eq_getElem h]
  rfl
theorem ix_map {α : Type} {l : List α} {enc : α → PyData} {n : Nat} (d : α) (h : n < l.length) : ix (.list (l.map enc)) (.int (n : Int)) = .ok (enc (l.getD n d)) := by
  show (match atI (l.map enc) (n : Int) with | some d => Rs.ok d | none => .no) = _
  rw [at_map d h]
/-- _law_pick(source, values) -/
def prPick : List PyData → Nat → Prop := fun ds n => ∃ xs : List PyData, ds = [.list xs] ∧ n + 1 < 2 ^ 60 ∧ 1 ≤ xs.length ∧ xs.length ≤ 1000
def poPick : List PyData → Nat → PyData → Nat → Prop := fun ds n d n1 => ∃ xs : List PyData, ds = [.list xs] ∧ d ∈ xs ∧ n1 = n + 1
end PY
namespace PY
open PySem PySem.Spec PyProof.Rows L2 DK DD
/-- _law_draw(source, limit), over data -/
def prDraw : List PyData → Nat → Prop := fun ds n => ∃ l : Int, ds = [.int l] ∧ n < 2 ^ 60 ∧ 0 < l ∧ l < 2 ^ 30
def poDraw : List PyData → Nat → PyData → Nat → Prop := fun ds n d n1 => ∃ l i : Int, ds = [.int l] ∧ d = .int i ∧ 0 ≤ i ∧ i < l ∧ n1 = n + 1
theorem draw_imp {K : PySem.W.Frag} {vs : List V} {H : Hp} {Q : VK} {E : XK} (h : spD K prDraw poDraw vs H Q E) : spDraw vs H Q E := by
  obtain ⟨s, cc, M, us, ds, n, rfl, hS, sM, cM, hM, hv, ⟨l, rfl, h1, h2, h3⟩, q⟩ := h
  cases hv with
  | cons r1 r2 =>
    cases r2
    obtain rfl := rInt r1
    exact ⟨s, cc, n, l, rfl, hS, h1, h2, h3, fun d H' d0 d1 e S' => q (.int d) (n + 1) _ H' ⟨l, d, rfl, rfl, d0, d1, rfl⟩ e S' (.int d)⟩
end PY
namespace K68
open PySem PySem.Spec PyProof.Rows L2 DK DD TM PY
abbrev s__law_source : Stmt := topS 26
theorem sc__law_source : FnScope ["script", "cells", "k"] ["script"] (defScope s__law_source) := ⟨rfl, rfl, rfl, by decide +kernel, rfl, by decide +kernel, by decide +kernel⟩
abbrev s__law_draw : Stmt := topS 27
theorem sc__law_draw : FnScope ["source", "limit", "cells", "turn", "place", "cell", "number"] ["source", "limit"] (defScope s__law_draw) := ⟨rfl, rfl, rfl, by decide +kernel, rfl, by decide +kernel, by decide +kernel⟩
/-- the two defs that are read by hand -/
structure TopD (K : PySem.W.Frag) (mg : Str → Option Value) where
  _law_source : At K mg "_law_source" s__law_source ["script"]
  _law_draw : At K mg "_law_draw" s__law_draw ["source", "limit"]
  n_len : mg "len" = none
  n_abs : mg "abs" = none
  n_range : mg "range" = none
  n_int : mg "int" = none
section
variable {P : Program} {w : World} {K : PySem.W.Frag} {mg : Str → Option Value} {base : Heap} {cl : Nat → Addr}
theorem ok__law_draw (T : TopD K mg) : FnOk P w K mg base CX0 1 T._law_draw.f T._law_draw.fd ["source", "limit"] spDraw := by
  refine T._law_draw.F.ok sc__law_draw (fun vs H Q E h => ?_) (fun cdv A outer s H vs Q E hr h => ?_)
  · obtain ⟨_, _, _, _, rfl, _⟩ := h
    rfl
  obtain ⟨s, c, n, l, rfl, ⟨ne, ks, t, e1, e2, k1, k63, tn⟩, n60, l0, l30, q⟩ := h
  refine ⟨_, (pss_cons (ps_asg (pv 0) (pg_unl rfl (pgs_cons (pg_name (i := 2) sc__law_draw.nd rfl (Or.inl rfl)) (pgs_cons (pg_name (i := 3) sc__law_draw.nd rfl (Or.inl rfl)) pgs_nil))))
      (pss_cons (ps_set (i := 4) sc__law_draw.nd rfl (Or.inl rfl) (pe_op op_mod (pe_callTy call_int1 (by rfl) T.n_int (by decide +kernel) (pa_cons (pv 3) pa_nil)) (pe_callB (r := Evl.rLenS K) call_len_seq (by rfl) T.n_len PySem.boot_len (pa_cons (pv 2) pa_nil))))
      (pss_cons (ps_set (i := 5) sc__law_draw.nd rfl (Or.inl rfl) (pe_ix ix_list (pv 2) (pv 4) (fun _ _ => rfl)))
      (pss_cons (ps_asg (pe_op op_add (pv 3) pe_int) (pg_sub (pv 0) pe_int set_list))
      (pss_cons (ps_if (pt_cmpR op_ge (pv 5) (pe_op op_powW pe_int pe_int) (nomark _)) (pss_cons (ps_asg (pe_op op_fdiv (pv 5) (pv 1)) (pg_sub (pv 2) (pv 4) set_list))
      (pss_one (ps_ret (pe_op op_mod (pe_callTy call_int1 (by rfl) T.n_int (by decide +kernel) (pa_cons (pv 5) pa_nil)) (pv 1))))) pss_nil)
      (pss_cons (ps_set (i := 6) sc__law_draw.nd rfl (Or.inl rfl) (pe_op op_mod (pe_callTy call_int1 (by rfl) T.n_int (by decide +kernel) (pa_cons (pe_op op_add (pe_op op_add (pe_op op_mul (pe_op op_mod (pe_callTy call_int1 (by rfl) T.n_int (by decide +kernel) (pa_cons (pv 5) pa_nil)) pe_int) pe_int) (pe_op op_mul (pe_op op_mul (pv 3) (pv 3)) pe_int)) pe_int) pa_nil)) pe_int))
      (pss_cons (ps_set (i := 6) sc__law_draw.nd rfl (Or.inl rfl) (pe_op op_mod (pe_callTy call_int1 (by rfl) T.n_int (by decide +kernel) (pa_cons (pe_op op_mul (pv 6) (pv 6)) pa_nil)) pe_int))
      (pss_cons (ps_set (i := 6) sc__law_draw.nd rfl (Or.inl rfl) (pe_op op_mod (pe_callTy call_int1 (by rfl) T.n_int (by decide +kernel) (pa_cons (pe_op op_mul (pv 6) (pv 6)) pa_nil)) pe_int))
      (pss_one (ps_ret (pe_op op_mod (pe_callTy call_int1 (by rfl) T.n_int (by decide +kernel) (pa_cons (pv 6) pa_nil)) (pv 1)))))))))))), ?_⟩
  have hk : 0 < ((ks.map V.int).length : Int) := by
    rw [List.length_map]
    omega
  -- cells, turn = source
  refine ⟨_, rfl, s, _, rfl, .inl (.inl e1), rfl, _, _, rfl, _, _, rfl, rfl, ?_⟩
  -- place = int(turn) % len(cells)
  refine ⟨_, rfl, .inl ⟨_, rfl, _, rfl, c, _, rfl, .inl (.inl (.inl e2)), _, _, rfl, rfl, hk, ?_⟩⟩
  have hp1 : 0 ≤ (t : Int) % ((ks.map V.int).length : Int) := Int.emod_nonneg _ (by omega)
  have hp2 : (t : Int) % ((ks.map V.int).length : Int) < ((ks.map V.int).length : Int) := Int.emod_lt_of_pos _ hk
  obtain ⟨j, hj⟩ : ∃ j : Nat, (t : Int) % ((ks.map V.int).length : Int) = (j : Int) := ⟨_, (Int.toNat_of_nonneg hp1).symm⟩
  have hj2 : j < ks.length := by
    rw [hj, List.length_map] at hp2
    omega
  have hat : atI (ks.map V.int) ((t : Int) % ((ks.map V.int).length : Int)) = some (.int ks[j]) := by
    rw [hj]
    exact atI_nat (by rw [List.getElem?_map, List.getElem?_eq_getElem hj2] <;> rfl)
  have hix : ixN (ks.map V.int).length ((t : Int) % ((ks.map V.int).length : Int)) = some j := by
    rw [hj]
    exact Evl.ixN_nat (by rw [List.length_map]; exact hj2)
  -- cell = cells[place]
  refine ⟨_, rfl, _, rfl, c, _, _, _, rfl, rfl, .inl (.inl e2), hat, ?_⟩
  -- source[1] = turn + 1
  refine ⟨_, rfl, _, _, rfl, rfl, _, rfl, s, _, 1, 1, rfl, rfl, e1, rfl, ?_⟩
  have f1 : upd H s (.lst ([V.ref c, .int (t : Int)].set 1 (.int ((t : Int) + 1)))) s = some (.lst [.ref c, .int (((t + 1 : Nat) : Int))]) := by
    rw [upd_same]
    rfl
  have f2 : upd H s (.lst ([V.ref c, .int (t : Int)].set 1 (.int ((t : Int) + 1)))) c = some (.lst (ks.map V.int)) := by
    rw [upd_ne ne]
    exact e2
  have fM : ExM [s, c] H (upd H s (.lst ([V.ref c, .int (t : Int)].set 1 (.int ((t : Int) + 1))))) := ExM.mut (by simp)
  generalize upd H s (.lst ([V.ref c, .int (t : Int)].set 1 (.int ((t : Int) + 1)))) = H1 at f1 f2 fM ⊢
  -- if cell >= 10 ** 18
  refine ⟨_, rfl, 10, 18, rfl, rfl, ⟨by decide, by decide +kernel⟩, _, _, rfl, rfl, _, rfl, ite2 (fun b => ?_) (fun b => ?_)⟩
  · -- cells[place] = cell // limit
    refine ⟨_, rfl, _, rfl, _, _, rfl, rfl, ⟨l0, l30⟩, _, rfl, _, rfl, c, _, _, j, rfl, rfl, f2, hix, ?_⟩
    refine ⟨_, rfl, .inl ⟨_, rfl, _, rfl, _, _, rfl, rfl, l0, ?_⟩⟩
    refine q _ _ (Int.emod_nonneg _ (by omega)) (Int.emod_lt_of_pos _ l0) (fM.trans (ExM.mut (by simp))) ⟨ne, ks.set j (ks[j] / l), t + 1, ?_, ?_, ?_, ?_, by omega⟩
    · rw [upd_ne (Ne.symm ne)]
      exact f1
    · rw [upd_same, List.map_set]
    · rw [List.length_set]
      exact k1
    · rw [List.length_set]
      exact k63
  · have m1 : ∀ (a b : Int), 0 < b → b < 2 ^ 33 → -(2 ^ 64) < a % b ∧ a % b < 2 ^ 64 := fun a b h1 h2 => by
      have := Int.emod_nonneg a (show b ≠ 0 by omega)
      have := Int.emod_lt_of_pos a h1
      omega
    refine ⟨_, rfl, .inl ⟨_, rfl, _, _, rfl, rfl, (show (0 : Int) < 2147483629 by decide), _, _, rfl, rfl, .inr ⟨by decide, by decide⟩, ?_⟩⟩
    refine ⟨_, rfl, _, rfl, _, _, rfl, rfl, .inl ⟨by omega, by omega⟩, _, _, rfl, rfl, .inr ⟨by decide, by decide⟩, _, _, rfl, rfl, _, _, rfl, rfl, .inl ⟨_, rfl, _, _, rfl, rfl, (show (0 : Int) < 2147483647 by decide), ?_⟩⟩
    refine ⟨_, rfl, _, rfl, _, _, rfl, rfl, .inl (m1 _ _ (by decide) (by decide)), .inl ⟨_, rfl, _, _, rfl, rfl, (show (0 : Int) < 2147483629 by decide), ?_⟩⟩
    refine ⟨_, rfl, _, rfl, _, _, rfl, rfl, .inl (m1 _ _ (by decide) (by decide)), .inl ⟨_, rfl, _, _, rfl, rfl, (show (0 : Int) < 2147483587 by decide), ?_⟩⟩
    refine ⟨_, rfl, .inl ⟨_, rfl, _, rfl, _, _, rfl, rfl, l0, ?_⟩⟩
    exact q _ _ (Int.emod_nonneg _ (by omega)) (Int.emod_lt_of_pos _ l0) fM ⟨ne, ks, t + 1, f1, f2, k1, k63, by omega⟩
theorem ok__law_source (T : TopD K mg) : FnOk P w K mg base CX0 1 T._law_source.f T._law_source.fd ["script"] (spSource K) := by
  refine T._law_source.F.ok sc__law_source (fun vs H Q E h => ?_) (fun cdv A outer s H vs Q E hr h => ?_)
  · obtain ⟨_, _, rfl, _⟩ := h
    rfl
  obtain ⟨a, ns, rfl, hS, h63, q⟩ := h
  refine ⟨_, (pss_cons (ps_set (i := 1) sc__law_source.nd rfl (Or.inl rfl) (pe_slice sl_list (pv 0) po_none (po_some pe_int)))
      (pss_cons (ps_for PassesOwn.never rfl (pi_range1 (by rfl) T.n_range (pa_cons (pe_callB (r := Evl.rLenS K) call_len_seq (by rfl) T.n_len PySem.boot_len (pa_cons (pv 1) pa_nil)) pa_nil)) (pg_name (i := 2) sc__law_source.nd rfl (Or.inl rfl)) (pss_one (ps_if (pt_cmpR op_ge (pe_callB call_abs (by rfl) T.n_abs (by decide +kernel) (pa_cons (pe_ix ix_list (pv 1) (pv 2) (fun _ _ => rfl)) pa_nil)) (pe_op op_powW pe_int pe_int) (nomark _)) (pss_one (ps_asg (pe_op op_mod (pe_callTy call_int1 (by rfl) T.n_int (by decide +kernel) (pa_cons (pe_ix ix_list (pv 1) (pv 2) (fun _ _ => rfl)) pa_nil)) (pe_op op_powW (pe_op op_powW pe_int pe_int) pe_int)) (pg_sub (pv 1) (pv 2) set_list))) pss_nil)))
      (pss_cons (ps_if (pt_cmpR (op_eqD (hu64 hr)) (pv 1) (pe_lst pa_nil) (nomark _)) (pss_one (ps_set (i := 1) sc__law_source.nd rfl (Or.inl rfl) (pe_lst (pa_cons pe_int pa_nil)))) pss_nil)
      (pss_one (ps_ret (pe_lst (pa_cons (pv 1) (pa_cons pe_int pa_nil)))))))), ?_⟩
  -- cells = script[:63]
  refine ⟨_, rfl, 63, rfl, a, _, rfl, hS, fun p hp => ?_⟩
  have hcut : cutV (ns.map V.int) none (some 63) = (ns.take 63).map V.int := by
    unfold cutV
    rw [HT.sIx_none, show HT.sIx (ns.map V.int).length (ns.map V.int).length (some 63) = min 63 (ns.map V.int).length from HT.sIx_nat _ _ 63, List.length_map, Nat.min_eq_right h63, List.drop_zero, Nat.sub_zero, List.take_of_length_le (by rw [List.length_map]; omega), List.take_of_length_le h63]
  rw [hcut]
  have e0 : Evl.Ex H (upd H p (.lst ((ns.take 63).map V.int))) := Evl.Ex.new hp
  have hl0 : (ns.take 63).length ≤ 63 := List.length_take_le _ _
  have at0 : upd H p (.lst ((ns.take 63).map V.int)) p = some (.lst ((ns.take 63).map V.int)) := upd_same
  generalize upd H p (.lst ((ns.take 63).map V.int)) = H0 at e0 at0
  generalize ns.take 63 = ms at hl0 at0
  -- for k in range(len(cells))
  refine ⟨.ref p, rfl, p, _, rfl, .inl (.inl (.inl at0)), _, rfl, by rw [List.length_map]; omega, by rw [List.length_map]; omega, for_range (lo := 0) (n := ((((ms.map V.int).length : Nat) : Int)).toNat) (fun _ σ H' => ∃ (y2 : Option V) (ks : List Int), σ = [some (.ref a), some (.ref p), y2] ∧ ks.length = ms.length ∧ Evl.Ex H H' ∧ H' p = some (.lst (ks.map V.int))) ⟨none, ms, rfl, rfl, e0, at0⟩ (fun i σ H' hi hW => ?_) (fun σ H' hW => ?_)⟩
  · obtain ⟨y2, ks, rfl, hk, hE, hP⟩ := hW
    rw [Int.toNat_natCast, List.length_map, ← hk] at hi
    have hat : atI (ks.map V.int) ((0 : Int) + (i : Int)) = some (.int ks[i]) := by
      rw [Int.zero_add]
      exact atI_nat (by rw [List.getElem?_map, List.getElem?_eq_getElem hi] <;> rfl)
    have hix : ixN (ks.map V.int).length ((0 : Int) + (i : Int)) = some i := by
      rw [Int.zero_add]
      exact Evl.ixN_nat (by rw [List.length_map]; exact hi)
    refine ⟨.ref p, rfl, _, rfl, p, _, _, _, rfl, rfl, .inl (.inl hP), hat, _, rfl, 10, 18, rfl, rfl, ⟨by decide, by decide +kernel⟩, _, _, rfl, rfl, _, rfl, ite2 (fun _ => ?_) (fun _ => ?_)⟩
    · refine ⟨.ref p, rfl, _, rfl, p, _, _, _, rfl, rfl, .inl (.inl hP), hat, .inl ⟨_, rfl, 10, 60, rfl, rfl, ⟨by decide, by decide +kernel⟩, _, 20, rfl, rfl, ⟨by decide, by decide +kernel⟩, _, _, rfl, rfl, (show (0 : Int) < (10 ^ (60 : Int).toNat) ^ (20 : Int).toNat by decide +kernel), .ref p, rfl, _, rfl, p, _, _, i, rfl, rfl, hP, hix, ?_⟩⟩
      refine ⟨_, ks.set i (ks[i] % ((10 ^ (60 : Int).toNat) ^ (20 : Int).toNat)), rfl, by rw [List.length_set]; exact hk, hE.mut hp, ?_⟩
      rw [upd_same, List.map_set]
    · exact ⟨_, ks, rfl, hk, hE, hP⟩
  · obtain ⟨y2, ks, rfl, hk, hE, hP⟩ := hW
    -- if cells == []
    refine ⟨.ref p, rfl, by decide, fun r hr0 => ?_⟩
    have hP1 : upd H' r (.lst []) p = some (.lst (ks.map V.int)) := by
      rw [upd_ne (ne_of_none hP hr0)]
      exact hP
    have hE1 : Evl.Ex H (upd H' r (.lst [])) := hE.trans (Evl.Ex.new hr0)
    have hlen : ks.length ≤ 63 := by omega
    generalize hH1 : upd H' r (.lst []) = H1 at hP1 hE1
    have hR1 : H1 r = some (.lst []) := by
      rw [← hH1]
      exact upd_same
    have dpI : ∀ l : List Int, DpAll K H1 (l.map V.int) (l.map PyData.int) := fun l => by
      induction l with
      | nil => exact .nil
      | cons x l ih => exact .cons (.int x) ih
    refine ⟨_, _, .lst (.inl (.inl hP1)) (dpI ks), .lst (.inl (.inl hR1)) .nil, ?_, by decide, _, rfl, ite2 (fun b => ?_) (fun b => ?_)⟩
    · exact PySem.W.ke_shaped_ints ks
    · -- cells = [0]
      refine ⟨by decide, fun p2 hp2 => ?_⟩
      refine ⟨_, rfl, (show 2 ≤ sizeLine by decide), fun s hs => ?_⟩
      have n1 : p2 ≠ s := ne_of_none upd_same hs
      refine q s p2 _ ((hE1.trans (Evl.Ex.new hp2)).trans (Evl.Ex.new hs)) (Evl.fresh_back (hE1.trans (Evl.Ex.new hp2)) hs) (Evl.fresh_back hE1 hp2) ⟨n1, [0], 0, upd_same, ?_, by decide, by decide, Nat.le_refl _⟩
      rw [upd_ne n1, upd_same]
      rfl
    · refine ⟨_, rfl, (show 2 ≤ sizeLine by decide), fun s hs => ?_⟩
      have n1 : p ≠ s := ne_of_none hP1 hs
      have hks : 1 ≤ ks.length := by
        cases ks with
        | nil => exact absurd rfl b
        | cons x l => exact Nat.succ_le_succ (Nat.zero_le _)
      refine q s p _ (hE1.trans (Evl.Ex.new hs)) (Evl.fresh_back hE1 hs) hp ⟨n1, ks, 0, upd_same, ?_, hks, hlen, Nat.le_refl _⟩
      rw [upd_ne n1]
      exact hP1
theorem dr_draw (T : TopD K mg) {k : Nat} (hk : 1 ≤ k) : Dr P w K mg base k "_law_draw" prDraw poDraw :=
  ⟨1, T._law_draw.f, T._law_draw.fd, _, hk, T._law_draw.g, T._law_draw.F.kp, T._law_draw.b, .inl ((ok__law_draw T).imp fun _ _ _ _ h => draw_imp h)⟩

/-! _law_great(source, digits) -/
def D_great : Df := ⟨"_law_great", ["source", "digits"], ["source", "digits", "number", "k"], ["source"], topS 29⟩
def prGreat : List PyData → Nat → Prop := fun ds n => ds = [.int 30] ∧ n + 30 < 2 ^ 60
def poGreat : List PyData → Nat → PyData → Nat → Prop := fun ds n d n1 => ∃ i : Int, d = .int i ∧ n1 = n + 30
theorem ok_great (S : Stands P w K mg base cl T0) (T : TopD K mg) (A : AtN K mg "_law_great" D_great.nm D_great.st D_great.ps) : FnOk P w K mg base (CX P w) 2 A.f A.fd D_great.ps (spD K prGreat poGreat) := by
  refine x_def S (D := D_great) A ⟨rfl, rfl, rfl, by decide +kernel, rfl, by decide +kernel, by decide +kernel⟩ rfl (by decide +kernel) (by decide +kernel) (fun ds m h => by obtain ⟨rfl, _⟩ := h; rfl) fun W s cc ds m hp => ?_
  obtain ⟨rfl, hn⟩ := hp
  have mm : Mdl P w K mg base 1 cl (cnX T0 1 D_great 0 s) := mdl_x S 1 D_great 0 s
  refine xss_cons (xs_p mm (m := 12) (wf := 50) (fl := .nx [none, some (.int 30), some (.int 0), none]) rfl ?_ (fx1 rfl rfl))
  refine xss_cons (xs_for rfl (xi_p mm (m := 40) (ds := rngD 30) (it_range (i := 30) rfl rfl rfl rfl (by decide) (by decide)) ⟨fun i n2 ρ2 => ∃ (t : Int) (x : Option PyData), n2 = m + i ∧ ρ2 = [none, some (.int 30), some (.int t), x], ⟨0, none, rfl, rfl⟩, fun i n2 ρ2 d hd hI => ?_, fun n2 ρ2 hI => ?_⟩))
  · obtain ⟨t, x, rfl, rfl⟩ := hI
    obtain ⟨rfl, hi⟩ := rngD_at hd
    refine ⟨[none, some (.int 30), some (.int t), some (.int (i : Nat))], rfl, fx1 rfl rfl, ?_⟩
    refine xss_cons (xs_set (i := 2) rfl rfl rfl rfl rfl (xe_bin (xe_bin (xe_p mm (m := 38) (d := .int t) rfl (xe_p mm (m := 38) (d := .int 10) rfl ⟨_, o_mulR (by decide) (by decide), ?_⟩)))))
    refine xe_call (dr_draw T (by decide)) rfl rfl rfl rfl (xa_p mm (m := 38) (ds := [.int 10]) rfl rfl ⟨⟨_, rfl, by omega, by decide, by decide⟩, fun d n2 h => ?_⟩)
    obtain ⟨_, j, _, rfl, h0, h1, rfl⟩ := h
    refine ⟨_, o_add, xss_nil ⟨_, _, ?_, rfl⟩⟩
    omega
  · obtain ⟨t, x, rfl, rfl⟩ := hI
    refine xss_cons (xs_ret (xe_p mm (m := 38) (d := .int t) rfl ?_))
    exact ⟨t, rfl, by rw [rngD_len]⟩
def D_pick : Df := ⟨"_law_pick", ["source", "values"], ["source", "values"], ["source"], topS 28⟩
theorem ok_pick (S : Stands P w K mg base cl T0) (T : TopD K mg) (A : AtN K mg "_law_pick" D_pick.nm D_pick.st D_pick.ps) : FnOk P w K mg base (CX P w) 2 A.f A.fd D_pick.ps (spD K prPick poPick) := by
  refine x_def S (D := D_pick) A ⟨rfl, rfl, rfl, by decide +kernel, rfl, by decide +kernel, by decide +kernel⟩ rfl (by decide +kernel) (by decide +kernel) (fun ds m h => by obtain ⟨l, rfl, _⟩ := h; rfl) fun W s cc ds m hp => ?_
  obtain ⟨xs, rfl, hn, h1, h2⟩ := hp
  have mm : Mdl P w K mg base 1 cl (cnX T0 1 D_pick 0 s) := mdl_x S 1 D_pick 0 s
  refine xss_cons (xs_ret (xe_ix rfl (xe_p mm (m := 38) (d := .list xs) rfl (xe_call (dr_draw T (by decide)) rfl rfl rfl rfl (xa_p mm (m := 38) (ds := [.int (xs.length : Int)]) rfl rfl ⟨⟨_, rfl, by omega, by omega, by omega⟩, fun d n2 h => ?_⟩)))))
  obtain ⟨l, q, hl, rfl, q0, q1, rfl⟩ := h
  have hl' : l = (xs.length : Int) := by
    cases hl
    rfl
  obtain ⟨z, rfl⟩ : ∃ z : Nat, q = (z : Int) := ⟨_, (Int.toNat_of_nonneg q0).symm⟩
  have hz : z < xs.length := by omega
  have e := ix_map (l := xs) (enc := id) (d := PyData.none) hz
  rw [List.map_id] at e
  refine ⟨_, e, xs, rfl, ?_, rfl⟩
  show xs.getD z .none ∈ xs
  rw [List.getD_eq_getElem?_getD, List.getElem?_eq_getElem hz]
  exact List.getElem_mem hz
end
end K68

set_option Elab.async false
set_option linter.all false
set_option maxRecDepth 100000
set_option maxHeartbeats 8000000
namespace PY
open PySem PySem.Spec PyProof.Rows L2 DK DD
section
variable {c : Cn} {n m : Nat} {sc : Scope} {w : Bool} {a b e : Expr} {es : List Expr} {p p1 : Pos} {ρ : En} {x y d : PyData} {xs ys ds : List PyData}
theorem ea_nil {g : Expr → Rs PyData} : evAll g [] = .ok [] := rfl
theorem ea_c {g : Expr → Rs PyData} (h1 : noStar e = true) (h : g e = .ok d) (k : evAll g es = .ok ds) : evAll g (e :: es) = .ok (d :: ds) := by
  have q : evAll g (e :: es) = (g e).bind fun d => (evAll g es).bind fun ds => .ok (d :: ds) := by cases e <;> first | rfl | cases h1
  rw [q, h, bind_ok, k]
  rfl
theorem e_list (h : evAll (fun e => evE c m sc w e ρ) es = .ok ds) (hl : ds.length ≤ 1000) : evE c (m + 2) sc w (.List es p) ρ = .ok (.list ds) := by
  show (((evAll (fun e => evE c m sc w e ρ) es).bind fun ds => if ds.length ≤ 1000 then Rs.ok ds else .no).bind fun ds => Rs.ok (PyData.list ds)) = _
  rw [h, bind_ok, if_pos hl]
  rfl
theorem e_tup {k : Nat} (h : evAll (fun e => evE c m sc w e ρ) es = .ok ds) (hl : ds.length ≤ 1000) : evE c (m + 1) sc w (.Tuple es k p) ρ = .ok (.tuple ds) := by
  show ((evAll (fun e => evE c m sc w e ρ) es).bind fun ds => if ds.length ≤ 1000 then Rs.ok (PyData.tuple ds) else .no) = _
  rw [h, bind_ok, if_pos hl]
theorem e_lop {op : Operator} (ha : evE c n sc w a ρ = .ok x) (hb : evE c n sc w b ρ = .ok y) (h : lop op x y = .ok ds) : evE c (n + 1) sc w (.BinOp a op b p) ρ = .ok (.list ds) := by
  show ((evE c n sc w a ρ).bind fun x => (evE c n sc w b ρ).bind fun y => match lop op x y with
    | .ok ds => Rs.ok (PyData.list ds)
    | _ => bop op x y) = _
  rw [ha, bind_ok, hb, bind_ok, h]
theorem l_add (h : xs.length + ys.length ≤ 100000) : lop .Add (.list xs) (.list ys) = .ok (xs ++ ys) := by
  show (if xs.length + ys.length ≤ 100000 then Rs.ok (xs ++ ys) else .no) = _
  rw [if_pos h]
theorem l_mul {k : Nat} (h : xs.length * k ≤ 100000) (hk : k < 1000) : lop .Mult (.list xs) (.int (k : Int)) = .ok (List.replicate k xs).flatten := by
  unfold lop
  dsimp only
  rw [Int.toNat_natCast, if_pos ⟨by omega, by omega, h⟩]
theorem e_cut {lo hi : Option Expr} {p2 : Pos} {i j : Option Int} (ha : evE c n sc w a ρ = .ok (.list xs)) (hi1 : optI (fun e => evE c n sc true e ρ) lo = .ok i) (hj : optI (fun e => evE c n sc true e ρ) hi = .ok j) : evE c (n + 1) sc w (.Subscript a (.Slice lo hi none p2) p) ρ = .ok (.list (cutD xs i j)) := by
  show ((evE c n sc w a ρ).bind fun x => (optI (fun e => evE c n sc true e ρ) lo).bind fun i => (optI (fun e => evE c n sc true e ρ) hi).bind fun j => match x with
      | .list ds => Rs.ok (PyData.list (cutD ds i j))
      | _ => slc x i j) = _
  rw [ha, bind_ok, hi1, bind_ok, hj]
  rfl
end
end PY
namespace K68
open PySem PySem.Spec PyProof.Rows L2 DK DD TM PY
/-! what is small -/
/-- lists of at most B sights, or of what is none, each small -/
def SmL (B : Nat) (xs : List PyData) : Prop := xs.length ≤ B ∧ ∀ x ∈ xs, smS x
theorem SmL.mono {B B' : Nat} {xs : List PyData} (h : SmL B xs) (l : B ≤ B') : SmL B' xs := ⟨Nat.le_trans h.1 l, h.2⟩
theorem SmL.seen {B : Nat} {xs : List PyData} (h : SmL B xs) (l : B ≤ 1000) : smSeen (.list xs) := fun ys e => by
  cases e
  exact ⟨Nat.le_trans h.1 l, h.2⟩
theorem cut_len (xs : List PyData) (i j : Option Int) : (cutD xs i j).length ≤ xs.length := by
  unfold PY.cutD
  rw [List.length_take, List.length_drop]
  omega
theorem cut_mem {xs : List PyData} {i j : Option Int} {x : PyData} (h : x ∈ cutD xs i j) : x ∈ xs := List.mem_of_mem_drop (List.mem_of_mem_take h)
theorem SmL.cut {B : Nat} {xs : List PyData} (h : SmL B xs) (i j : Option Int) : SmL B (cutD xs i j) := ⟨Nat.le_trans (cut_len xs i j) h.1, fun x hx => h.2 x (cut_mem hx)⟩
theorem SmL.app {A B : Nat} {xs ys : List PyData} (h : SmL A xs) (k : SmL B ys) : SmL (A + B) (xs ++ ys) := ⟨by rw [List.length_append]; exact Nat.add_le_add h.1 k.1, fun x hx => by
  rcases List.mem_append.mp hx with hx | hx
  · exact h.2 x hx
  · exact k.2 x hx⟩
theorem rep_len (k : Nat) (xs : List PyData) : (List.replicate k xs).flatten.length = k * xs.length := by
  induction k with
  | zero => simp
  | succ k ih => rw [List.replicate_succ, List.flatten_cons, List.length_append, ih, Nat.succ_mul, Nat.add_comm]
theorem rep_mem {k : Nat} {xs : List PyData} {x : PyData} (h : x ∈ (List.replicate k xs).flatten) : x ∈ xs := by
  obtain ⟨l, h1, h2⟩ := List.mem_flatten.mp h
  rw [List.eq_of_mem_replicate h1] at h2
  exact h2
theorem SmL.rep {B : Nat} {xs : List PyData} (h : SmL B xs) (k : Nat) : SmL (k * B) (List.replicate k xs).flatten := ⟨by rw [rep_len]; exact Nat.mul_le_mul_left k h.1, fun x hx => h.2 x (rep_mem hx)⟩
theorem SmL.one {x : PyData} (h : smS x) : SmL 1 [x] := ⟨by simp, fun y hy => by rw [List.mem_singleton.mp hy]; exact h⟩
theorem sm_list {xs : List PyData} (h : xs.length ≤ 1000) : sm (.list xs) := fun ys e => by cases e; exact h
theorem smS_list (xs : List PyData) : smS (.list xs) := fun p l e => nomatch e
theorem smS_tup {p : PyData} {l : List PyData} (h : sm p) : smS (.tuple (p :: l)) := fun q l e => by
  cases e
  exact h
theorem all_cons {α : Type} {Pp : α → Prop} {x : α} {l : List α} (h : Pp x) (k : ∀ y ∈ l, Pp y) : ∀ y ∈ x :: l, Pp y := fun y hy => by
  rcases List.mem_cons.mp hy with rfl | hy
  · exact h
  · exact k y hy
theorem all_nil {α : Type} {Pp : α → Prop} : ∀ y ∈ ([] : List α), Pp y := fun y hy => nomatch hy
section
variable {P : Program} {w : World} {K : PySem.W.Frag} {mg : Str → Option Value} {base : Heap} {cl : Nat → Addr}
/-! _law_bent(source, seen, prices) -/
def D_bent : Df := ⟨"_law_bent", ["source", "seen", "prices"], ["source", "seen", "prices", "at", "one", "odd", "bent", "some"], ["source"], topS 36⟩
def prBent : List PyData → Nat → Prop := fun ds n => ∃ ss ps : List PyData, ds = [.list ss, .list ps] ∧ n + 3 < 2 ^ 60 ∧ 1 ≤ ss.length ∧ SmL 4 ss ∧ (∀ x ∈ ss, ∀ xs, x ≠ .list xs) ∧ ps.length ≤ 6
def poBent : List PyData → Nat → PyData → Nat → Prop := fun _ n d n1 => smSeen d ∧ n1 = n + 3
abbrev c_bent (s : Addr) : Cn := cnX T0 2 D_bent 0 s
abbrev lb (i : Nat) : Stmt := bodyAt (topS 36) i
def odd1 (p : PyData) : List PyData := [.none, .tuple [], .list [], .dict [], .int 5, .str "5", .tuple [p], .tuple [p, .none], .tuple [p, .bool true], .tuple [p, .str "5"], .tuple [p, .int 5, .int 5]]
def odd2 (ps : List PyData) : List PyData := [.list [.list ps, .int 5], .tuple [.tuple ps, .int 5], .tuple [.list (ps ++ [.int 0]), .int 5], .tuple [.list (cutD ps (some 1) none), .int 5], .tuple [.list (cutD ps (some 1) none ++ [.none]), .int 5]]
def odd3 (ps : List PyData) (one : PyData) : List PyData := [.tuple [.list (cutD ps (some 1) none ++ [.bool true]), .int 5], .tuple [.none, .int 5], .tuple [.int 5, .list ps], .tuple [.list [], .int 5], one, .tuple [.list (List.replicate 7 ps).flatten, .int 5]]
theorem b_2 (s : Addr) (ps : List PyData) (o1 o2 o3 o4 o5 : Option PyData) : evE (c_bent s) 40 (defScope (topS 36)) false (asE (lb 2)) [none, o1, some (.list ps), o2, o3, o4, o5, none] = .ok (.list (odd1 (.list ps))) := rfl
theorem b_3 (s : Addr) (ps : List PyData) (hp : ps.length ≤ 6) (o1 o2 o3 o5 : Option PyData) : evE (c_bent s) 40 (defScope (topS 36)) false (asE (lb 3)) [none, o1, some (.list ps), o2, o3, some (.list (odd1 (.list ps))), o5, none] = .ok (.list (odd1 (.list ps) ++ odd2 ps)) := by
  have hc := cut_len ps (some 1) none
  refine e_lop rfl (e_list (ea_c rfl rfl (ea_c rfl rfl (ea_c rfl (e_tup (ea_c rfl (e_lop rfl rfl (l_add ?_)) (ea_c rfl rfl ea_nil)) (by simp)) (ea_c rfl rfl (ea_c rfl (e_tup (ea_c rfl (e_lop rfl rfl (l_add ?_)) (ea_c rfl rfl ea_nil)) (by simp)) ea_nil))))) (by simp)) (l_add ?_)
  · simp only [List.length_cons, List.length_nil]
    omega
  · simp only [List.length_cons, List.length_nil]
    omega
  · simp [odd1]
theorem b_4 (s : Addr) (ps : List PyData) (hp : ps.length ≤ 6) (one : PyData) (o1 o2 o5 : Option PyData) : evE (c_bent s) 40 (defScope (topS 36)) false (asE (lb 4)) [none, o1, some (.list ps), o2, some one, some (.list (odd1 (.list ps) ++ odd2 ps)), o5, none] = .ok (.list (odd1 (.list ps) ++ odd2 ps ++ odd3 ps one)) := by
  have hc := cut_len ps (some 1) none
  refine e_lop rfl (e_list (ea_c rfl (e_tup (ea_c rfl (e_lop rfl rfl (l_add ?_)) (ea_c rfl rfl ea_nil)) (by simp)) (ea_c rfl rfl (ea_c rfl rfl (ea_c rfl rfl (ea_c rfl rfl (ea_c rfl (e_tup (ea_c rfl (e_lop (y := .int ((7 : Nat) : Int)) rfl rfl (l_mul ?_ (by decide))) (ea_c rfl rfl ea_nil)) (by simp)) ea_nil)))))) (by simp)) (l_add ?_)
  · simp only [List.length_cons, List.length_nil]
    omega
  · omega
  · simp [odd1, odd2]
def some1 (ss : List PyData) (at_ : Int) (bent : PyData) : List PyData := cutD ss none (some at_) ++ [bent] ++ cutD ss (some (at_ + 1)) none
def some2 (ss : List PyData) (one bent : PyData) : List PyData := [.none, .tuple [], .list [], .dict [], .str "seen", .tuple ss, one, .list [bent], .list [.list ss]]
def some3 (ss : List PyData) : List PyData := [.list (List.replicate 51 ss).flatten, .list (cutD (List.replicate 50 ss).flatten none (some 50)), .list (cutD (List.replicate 51 ss).flatten none (some 51))]
theorem b_6 (s : Addr) (ss : List PyData) (hs : ss.length ≤ 4) (at_ : Int) (one bent : PyData) (h0 : ix (.list ss) (.int 0) = .ok one) (o1 o2 o3 : Option PyData) : evE (c_bent s) 40 (defScope (topS 36)) false (asE (lb 6)) [none, some (.list ss), o1, some (.int at_), o2, o3, some bent, none] = .ok (.list ((List.replicate 6 [.list (some1 ss at_ bent)]).flatten ++ some2 ss one bent)) := by
  have h1 := cut_len ss none (some at_)
  have h2 := cut_len ss (some (at_ + 1)) none
  refine e_lop (e_lop (y := .int ((6 : Nat) : Int)) (e_list (ea_c rfl (e_lop (e_lop (x := .list (cutD ss none (some at_))) rfl rfl (l_add ?_)) (y := .list (cutD ss (some (at_ + 1)) none)) rfl (l_add ?_)) ea_nil) (by simp)) rfl (l_mul (by simp) (by decide))) (e_list (ea_c rfl rfl (ea_c rfl rfl (ea_c rfl rfl (ea_c rfl rfl (ea_c rfl rfl (ea_c rfl rfl (ea_c rfl (e_sub rfl rfl rfl h0) (ea_c rfl rfl (ea_c rfl rfl ea_nil))))))))) (by simp)) (l_add ?_)
  · simp only [List.length_cons, List.length_nil]
    omega
  · simp only [List.length_append, List.length_cons, List.length_nil]
    omega
  · rw [rep_len]
    simp
theorem b_7 (s : Addr) (ss : List PyData) (hs : ss.length ≤ 4) (xs : List PyData) (hx : xs.length ≤ 1000) (o1 o2 o3 o4 o5 : Option PyData) : evE (c_bent s) 39 (defScope (topS 36)) true (match lb 7 with | .Return (some (.Call _ [_, e] _ _)) _ => e | _ => .Name Str.empty ⟨0, 0, 0, 0⟩) [none, some (.list ss), o1, o2, o3, o4, o5, some (.list xs)] = .ok (.list (xs ++ some3 ss)) := by
  refine e_lop rfl (e_list (ea_c rfl (e_lop (y := .int ((51 : Nat) : Int)) rfl rfl (l_mul ?_ (by decide))) (ea_c rfl (e_cut (e_lop (y := .int ((50 : Nat) : Int)) rfl rfl (l_mul ?_ (by decide))) rfl rfl) (ea_c rfl (e_cut (e_lop (y := .int ((51 : Nat) : Int)) rfl rfl (l_mul ?_ (by decide))) rfl rfl) ea_nil))) (by simp)) (l_add ?_)
  · omega
  · omega
  · omega
  · simp only [List.length_cons, List.length_nil, some3]
    omega
theorem sn {d : PyData} (h : ∀ p l, d ≠ .tuple (p :: l)) : smS d := fun p l e => absurd e (h p l)
theorem smn {d : PyData} (h : ∀ l, d ≠ .list l) : sm d := fun l e => absurd e (h l)
theorem all_app {α : Type} {Pp : α → Prop} {xs ys : List α} (h : ∀ x ∈ xs, Pp x) (k : ∀ x ∈ ys, Pp x) : ∀ x ∈ xs ++ ys, Pp x := fun x hx => by
  rcases List.mem_append.mp hx with hx | hx
  · exact h x hx
  · exact k x hx
theorem odd_sm (ps : List PyData) (hp : ps.length ≤ 6) (one : PyData) (h1 : smS one) : ∀ x ∈ odd1 (.list ps) ++ odd2 ps ++ odd3 ps one, smS x := by
  have hc := cut_len ps (some 1) none
  have hps : sm (.list ps) := sm_list (by omega)
  refine all_app (all_app ?_ ?_) ?_
  · exact all_cons (sn (by simp)) (all_cons (sn (by simp)) (all_cons (sn (by simp)) (all_cons (sn (by simp)) (all_cons (sn (by simp)) (all_cons (sn (by simp)) (all_cons (smS_tup hps) (all_cons (smS_tup hps) (all_cons (smS_tup hps) (all_cons (smS_tup hps) (all_cons (smS_tup hps) all_nil))))))))))
  · refine all_cons (smS_list _) (all_cons (smS_tup (smn (by simp))) (all_cons (smS_tup (sm_list ?_)) (all_cons (smS_tup (sm_list ?_)) (all_cons (smS_tup (sm_list ?_)) all_nil))))
    · simp only [List.length_append, List.length_cons, List.length_nil]
      omega
    · omega
    · simp only [List.length_append, List.length_cons, List.length_nil]
      omega
  · refine all_cons (smS_tup (sm_list ?_)) (all_cons (smS_tup (smn (by simp))) (all_cons (smS_tup (smn (by simp))) (all_cons (smS_tup (sm_list (by simp))) (all_cons h1 (all_cons (smS_tup (sm_list ?_)) all_nil)))))
    · simp only [List.length_append, List.length_cons, List.length_nil]
      omega
    · rw [rep_len]
      omega
theorem sn_seen {d : PyData} (h : ∀ l, d ≠ .list l) : smSeen d := fun l e => absurd e (h l)
theorem some_sm (ss : List PyData) (hs : SmL 4 ss) (at_ : Int) (one bent : PyData) (h1 : smS one) (ho : ∀ xs, one ≠ .list xs) (hb : smS bent) : ∀ x ∈ (List.replicate 6 [.list (some1 ss at_ bent)]).flatten ++ some2 ss one bent ++ some3 ss, smSeen x := by
  refine all_app (all_app ?_ ?_) ?_
  · intro x hx
    rw [List.mem_singleton.mp (rep_mem hx)]
    exact (((hs.cut none (some at_)).app (SmL.one hb)).app (hs.cut (some (at_ + 1)) none)).seen (by omega)
  · exact all_cons (sn_seen (by simp)) (all_cons (sn_seen (by simp)) (all_cons (SmL.seen (B := 0) ⟨by simp, all_nil⟩ (by omega)) (all_cons (sn_seen (by simp)) (all_cons (sn_seen (by simp)) (all_cons (sn_seen (by simp)) (all_cons (sn_seen ho) (all_cons ((SmL.one hb).seen (by omega)) (all_cons ((SmL.one (smS_list _)).seen (by omega)) all_nil))))))))
  · exact all_cons ((hs.rep 51).seen (by omega)) (all_cons (((hs.rep 50).cut none (some 50)).seen (by omega)) (all_cons (((hs.rep 51).cut none (some 51)).seen (by omega)) all_nil))
theorem ok_bent (S : Stands P w K mg base cl T0) (T : TopD K mg) (hP : Dr P w K mg base 2 "_law_pick" prPick poPick) (A : AtN K mg "_law_bent" D_bent.nm D_bent.st D_bent.ps) : FnOk P w K mg base (CX P w) 3 A.f A.fd D_bent.ps (spD K prBent poBent) := by
  refine x_def S (D := D_bent) A ⟨rfl, rfl, rfl, by decide +kernel, rfl, by decide +kernel, by decide +kernel⟩ rfl (by decide +kernel) (by decide +kernel) (fun ds m h => by obtain ⟨l, l2, rfl, _⟩ := h; rfl) fun W s cc ds m hp => ?_
  obtain ⟨ss, ps, rfl, hn, s1, hs, ht, hps⟩ := hp
  have hs4 := hs.1
  have mm : Mdl P w K mg base 2 cl (cnX T0 2 D_bent 0 s) := mdl_x S 2 D_bent 0 s
  refine xss_cons (xs_set (i := 3) rfl rfl rfl rfl rfl (xe_call (dr_draw T (by decide)) rfl rfl rfl rfl (xa_p mm (m := 38) (ds := [.int (ss.length : Int)]) rfl rfl ⟨⟨_, rfl, by omega, by omega, by omega⟩, fun d n2 h => ?_⟩)))
  obtain ⟨l, q, hl, rfl, q0, q1, rfl⟩ := h
  have hl' : l = (ss.length : Int) := by
    cases hl
    rfl
  subst hl'
  obtain ⟨z, rfl⟩ : ∃ z : Nat, q = (z : Int) := ⟨_, (Int.toNat_of_nonneg q0).symm⟩
  have hz : z < ss.length := by omega
  have ixz : ∀ {z : Nat}, z < ss.length → ∃ d, ix (.list ss) (.int (z : Int)) = .ok d ∧ d ∈ ss := fun {z} hz => by
    have e := ix_map (l := ss) (enc := id) (d := PyData.none) hz
    rw [List.map_id] at e
    refine ⟨_, e, ?_⟩
    show ss.getD z .none ∈ ss
    rw [List.getD_eq_getElem?_getD, List.getElem?_eq_getElem hz]
    exact List.getElem_mem hz
  obtain ⟨one, h1, m1⟩ := ixz hz
  obtain ⟨on0, h0, m0⟩ := ixz (z := 0) (by omega)
  refine xss_cons (xs_p mm (m := 12) (wf := 50) (fl := .nx [none, some (.list ss), some (.list ps), some (.int (z : Int)), some one, none, none, none]) (s_set (k := 4) rfl rfl rfl (e_sub rfl rfl rfl h1)) ?_ (fx1 rfl rfl))
  refine xss_cons (xs_p mm (m := 12) (wf := 50) (fl := .nx [none, some (.list ss), some (.list ps), some (.int (z : Int)), some one, some (.list (odd1 (.list ps))), none, none]) (s_set (k := 5) rfl rfl rfl (b_2 s ps _ _ _ _ _)) ?_ (fx1 rfl rfl))
  refine xss_cons (xs_p mm (m := 12) (wf := 50) (fl := .nx [none, some (.list ss), some (.list ps), some (.int (z : Int)), some one, some (.list (odd1 (.list ps) ++ odd2 ps)), none, none]) (s_set (k := 5) rfl rfl rfl (b_3 s ps hps _ _ _ _)) ?_ (fx1 rfl rfl))
  refine xss_cons (xs_p mm (m := 12) (wf := 50) (fl := .nx [none, some (.list ss), some (.list ps), some (.int (z : Int)), some one, some (.list (odd1 (.list ps) ++ odd2 ps ++ odd3 ps one)), none, none]) (s_set (k := 5) rfl rfl rfl (b_4 s ps hps one _ _ _)) ?_ (fx1 rfl rfl))
  refine xss_cons (xs_set (i := 6) rfl rfl rfl rfl rfl (xe_call hP rfl rfl rfl rfl (xa_p mm (m := 38) (ds := [.list (odd1 (.list ps) ++ odd2 ps ++ odd3 ps one)]) rfl rfl ⟨⟨_, rfl, by omega, by simp [odd1], by simp [odd1, odd2, odd3]⟩, fun d n2 h => ?_⟩)))
  obtain ⟨xs, hx, hd, rfl⟩ := h
  cases hx
  have hb := odd_sm ps hps one (hs.2 _ m1) d hd
  refine xss_cons (xs_p mm (m := 12) (wf := 50) (fl := .nx [none, some (.list ss), some (.list ps), some (.int (z : Int)), some one, some (.list (odd1 (.list ps) ++ odd2 ps ++ odd3 ps one)), some d, some (.list ((List.replicate 6 [PyData.list (some1 ss (z : Int) d)]).flatten ++ some2 ss on0 d))]) (s_set (k := 7) rfl rfl rfl (b_6 s ss hs4 z on0 d h0 _ _ _)) ?_ (fx1 rfl rfl))
  have hlen : ((List.replicate 6 [PyData.list (some1 ss z d)]).flatten ++ some2 ss on0 d).length = 15 := by
    rw [List.length_append, rep_len]
    rfl
  refine xss_cons (xs_ret (xe_call hP rfl rfl rfl rfl (xa_cons rfl (xe_p mm (m := 39) (b_7 s ss hs4 _ (by omega) _ _ _ _ _) (xa_nil ⟨⟨_, rfl, by omega, by rw [List.length_append]; omega, by rw [List.length_append, hlen]; simp [some3]⟩, fun d2 n2 h => ?_⟩)))))
  obtain ⟨xs, hx, hd2, rfl⟩ := h
  cases hx
  exact ⟨some_sm ss hs z on0 d (hs.2 _ m0) (ht on0 m0) hb d2 hd2, rfl⟩
end
end K68

set_option Elab.async false
set_option linter.all false
set_option maxRecDepth 100000
set_option maxHeartbeats 8000000
namespace PY
open PySem PySem.Spec PyProof.Rows L2 DK DD
theorem t_or2 {c : Cn} {m : Nat} {sc : Scope} {ρ : En} {a b : Expr} {p : Pos} (h1 : evT c m sc a ρ = .ok false) (h2 : evT c m sc b ρ = .ok false) : evT c (m + 1) sc (.BoolOp .Or [a, b] p) ρ = .ok false :=
  t_or (x := false) (y := false) h1 fun _ => h2
theorem t_no {c : Cn} {m : Nat} {sc : Scope} {ρ : En} {a : Expr} {p : Pos} (hv : valT a = true) (h : evE c m sc true a ρ = .ok (.bool true)) : evT c (m + 2) sc (.UnaryOp .Not a p) ρ = .ok false := t_not (x := true) (t_val hv h)
theorem n_list {c : Cn} {m : Nat} {sc : Scope} {w : Bool} {ρ : En} {es : List Expr} {p : Pos} {ds : List PyData} (h : evAll (fun e => evE c m sc w e ρ) es = .ok ds) (hl : ds.length ≤ 1000) : evN c (m + 1) sc w (.List es p) ρ = .ok ds := by
  show ((evAll (fun e => evE c m sc w e ρ) es).bind fun ds => if ds.length ≤ 1000 then Rs.ok ds else .no) = _
  rw [h, bind_ok, if_pos hl]
end PY
namespace K68
open PySem PySem.Spec PyProof.Rows L2 DK DD TM PY
def D_law : Df := ⟨"law", ["script"], ["script", "source", "turn", "shops", "seen", "k", "prices", "bent", "odd", "other", "kind", "shop"], ["source"], topS 37⟩
def c_law (s : Addr) : Cn := cnX T1 24 D_law 1 s
def D_fits : Df := ⟨"_law_fits", ["kind", "seen", "prices"], ["kind", "seen", "prices", "words", "way"], [], topS 35⟩
theorem c_law_phi (s : Addr) : (c_law s).phi = phiAt T1 24 (run T1 24) := rfl
theorem sc_law : FnScope D_law.N D_law.ps (defScope (topS 37)) := ⟨rfl, rfl, rfl, by decide +kernel, rfl, by decide +kernel, by decide +kernel⟩
/-- the rows of a turn -/
def tb : List Stmt := whB (bodyAt (topS 37) 1)
abbrev tr (i : Nat) : Stmt := tb.getD i (.Pass ⟨0, 0, 0, 0⟩)
/-- the rows of a turn within -/
def ub : List Stmt := whB (tr 5)
abbrev ur (i : Nat) : Stmt := ub.getD i (.Pass ⟨0, 0, 0, 0⟩)
/-- the row of the innermost -/
def vr : Stmt := (whB (ur 3)).getD 0 (.Pass ⟨0, 0, 0, 0⟩)
theorem fits_e {s : Addr} {k sn p : PyData} (h : run T1 (17 + 7) "_law_fits" [k, sn, p] = .ok (.bool true)) : (c_law s).phi "_law_fits" [k, sn, p] = .ok (.bool true) := by
  rw [c_law_phi, phi_look (D := D_fits) rfl]
  exact h
theorem t_4 (s : Addr) {sn p : PyData} (hs : smSeen sn) (hp : sm p) (y2 y3 y5 y7 y8 y9 y10 : Option PyData) : evT (c_law s) 40 (defScope (topS 37)) (whT (tr 4)) [none, none, y2, y3, some sn, y5, some p, y7, y8, y9, y10, none] = .ok false :=
  t_or2 (t_no rfl (e_fn3 (ds := [kd true, sn, p]) rfl rfl rfl (by decide) rfl rfl rfl rfl (fits_e (fits_kd 17 true hs hp)))) (t_no rfl (e_fn3 (ds := [kd false, sn, p]) rfl rfl rfl (by decide) rfl rfl rfl rfl (fits_e (fits_kd 17 false hs hp))))
theorem t_v (s : Addr) {sn bent o : PyData} (hs : smSeen sn) (hb : smSeen bent) (ho : sm o) (y2 y3 y5 y6 y8 y10 : Option PyData) : evT (c_law s) 40 (defScope (topS 37)) (whT vr) [none, none, y2, y3, some sn, y5, y6, some bent, y8, some o, y10, none] = .ok false :=
  t_or2 (t_no rfl (e_fn3 (ds := [kd true, bent, o]) rfl rfl rfl (by decide) rfl rfl rfl rfl (fits_e (fits_kd 17 true hb ho)))) (t_no rfl (e_fn3 (ds := [kd false, sn, o]) rfl rfl rfl (by decide) rfl rfl rfl rfl (fits_e (fits_kd 17 false hs ho))))
theorem t_6 (s : Addr) {sn bent p k : PyData} (hk : k ∈ kinds) (y2 y3 y5 y8 y9 : Option PyData) : evT (c_law s) 40 (defScope (topS 37)) (whT (ur 6)) [none, none, y2, y3, some sn, y5, some p, some bent, y8, y9, some k, none] = .ok false :=
  t_or2 (t_no rfl (e_fn3 (ds := [k, bent, .none]) rfl rfl rfl (by decide) rfl rfl rfl rfl (fits_e (fits_odd 17 hk)))) (t_no rfl (e_fn3 (ds := [k, sn, p]) rfl rfl rfl (by decide) rfl rfl rfl rfl (fits_e (fits_odd 17 hk))))
/-- what stands in the place of prices -/
def oddP (ps : List PyData) : List PyData := [.none, .tuple [], .list [], .dict [], .int 5, .list (ps ++ [.int 0]), .list (PY.cutD ps (some 1) none), .tuple ps, .list (PY.cutD ps (some 1) none ++ [.none])]
def oddQ (ps : List PyData) : PyData := .list (PY.cutD ps (some 1) none ++ [.bool true])
theorem oddP_sm (ps : List PyData) (hp : ps.length ≤ 6) : ∀ x ∈ oddP ps ++ [oddQ ps], sm x := by
  have hc := cut_len ps (some 1) none
  refine all_app (all_cons (smn (fun l h => by cases h)) (all_cons (smn (fun l h => by cases h)) (all_cons (sm_list (Nat.zero_le _)) (all_cons (smn (fun l h => by cases h)) (all_cons (smn (fun l h => by cases h)) (all_cons (sm_list ?_) (all_cons (sm_list ?_) (all_cons (smn (fun l h => by cases h)) (all_cons (sm_list ?_) all_nil))))))))) (all_cons (sm_list ?_) all_nil)
  · simp only [List.length_append, List.length_cons, List.length_nil]
    omega
  · omega
  · simp only [List.length_append, List.length_cons, List.length_nil]
    omega
  · simp only [List.length_append, List.length_cons, List.length_nil]
    omega
abbrev c_odd (s : Addr) : Cn := (c_law s).plus "odd"
theorem n_odd (s : Addr) (ps : List PyData) (hp : ps.length ≤ 6) (y2 y3 y4 y5 y7 y9 y10 : Option PyData) : evN (c_odd s) 40 (defScope (topS 37)) false (asE (ur 1)) [none, none, y2, y3, y4, y5, some (.list ps), y7, none, y9, y10, none] = .ok (oddP ps) := by
  have hc := cut_len ps (some 1) none
  refine n_list (ea_c rfl rfl (ea_c rfl rfl (ea_c rfl rfl (ea_c rfl rfl (ea_c rfl rfl (ea_c rfl (e_lop rfl rfl (l_add ?_)) (ea_c rfl rfl (ea_c rfl rfl (ea_c rfl (e_lop rfl rfl (l_add ?_)) ea_nil))))))))) (by simp [oddP])
  · simp only [List.length_cons, List.length_nil]
    omega
  · simp only [List.length_cons, List.length_nil]
    omega
theorem e_oddQ (s : Addr) (ps : List PyData) (hp : ps.length ≤ 6) (y2 y3 y4 y5 y7 y8 y9 y10 : Option PyData) : evE (c_odd s) 40 (defScope (topS 37)) false (match ur 2 with | .Expr (.Call _ [e] _ _) _ => e | _ => .Name Str.empty ⟨0, 0, 0, 0⟩) [none, none, y2, y3, y4, y5, some (.list ps), y7, y8, y9, y10, none] = .ok (oddQ ps) := by
  have hc := cut_len ps (some 1) none
  refine e_lop rfl rfl (l_add ?_)
  simp only [List.length_cons, List.length_nil]
  omega
section
variable {P : Program} {w : World} {K : PySem.W.Frag} {mg : Str → Option Value} {base : Heap} {cl : Nat → Addr}
/-- numbers drawn, so far -/
def IntsI (n B : Nat) : Nat → Nat → List PyData → Prop := fun i n2 acc => ∃ is : List Int, acc = is.map PyData.int ∧ is.length = i ∧ n2 ≤ n + i * B
theorem IntsI.zero {n B : Nat} : IntsI n B 0 n [] := ⟨[], rfl, rfl, by omega⟩
theorem IntsI.snoc {n B i n2 n3 : Nat} {acc : List PyData} {x : Int} (h : IntsI n B i n2 acc) (l : n3 ≤ n2 + B) : IntsI n B (i + 1) n3 (acc ++ [.int x]) := by
  obtain ⟨is, rfl, hl, hn⟩ := h
  exact ⟨is ++ [x], by rw [List.map_append] <;> rfl, by simp [hl], by rw [Nat.succ_mul]; omega⟩
theorem no_own {s : Addr} {ρ : En} (h : ρ[1]? = some none) : ∀ (j : Nat) (y : Str) (d : PyData), (c_law s).N[j]? = some y → (c_law s).isOwn y = true → ρ[j]? ≠ some (some d) := fun j y d h1 h2 h3 => by
  have hy : y = "source" := by
    have : (decide ("source" = y) || false) = true := h2
    simpa [eq_comm] using this
  subst hy
  have hj : j = 1 := nd_ix (c := c_law s) sc_law.nd (i := 1) rfl h1
  subst hj
  rw [h] at h3
  cases h3
theorem fx_no {s : Addr} {i : Nat} (h : i ≠ 1) : ∀ v, (c_law s).fx ≠ some (i, v) := fun v e => by
  have : (c_law s).fx = some (1, .ref s) := rfl
  rw [this] at e
  cases e
  exact h rfl
end
end K68

set_option Elab.async false
set_option linter.all false
set_option maxRecDepth 100000
set_option maxHeartbeats 8000000
namespace K68
open PySem PySem.Spec PyProof.Rows L2 DK DD TM PY
section
variable {P : Program} {w : World} {K : PySem.W.Frag} {mg : Str → Option Value} {base : Heap} {cl : Nat → Addr}
def kA : List PyData := kinds.take 14
/-- a turn within -/
theorem turn2_ok (S : Stands P w K mg base cl T1) (hB : Dr P w K mg base 3 "_law_bent" prBent poBent) (hP : Dr P w K mg base 2 "_law_pick" prPick poPick) (W : WX) (s cc : Addr) (Sf : Fl → Nat → Prop) {ss ps : List PyData} (hs : SmL 4 ss) (h1 : 1 ≤ ss.length) (ht : ∀ x ∈ ss, ∀ xs, x ≠ .list xs) (hps : ps.length ≤ 6) (m : Nat) (hm : m + 10 < 2 ^ 60)
    (y2 y3 y5 x7 x8 x9 x10 : Option PyData) (q : ∀ y7 y8 y9 y10 : Option PyData, Sf (.nx [none, none, y2, y3, some (.list ss), y5, some (.list ps), y7, y8, y9, y10, none]) (m + 5)) :
    XSs P w K mg base 24 (c_law s) (defScope (topS 37)) W s cc ub [none, none, y2, y3, some (.list ss), y5, some (.list ps), x7, x8, x9, x10, none] m Sf := by
  have mm : Mdl P w K mg base 24 cl (c_law s) := mdl_x S 24 D_law 1 s
  have mmO : Mdl P w K mg base 24 cl (c_odd s) := mdl_at S 24 _ rfl rfl rfl rfl
  have hss : smSeen (.list ss) := hs.seen (by omega)
  -- bent
  refine xss_cons (xs_set (i := 7) rfl rfl rfl rfl rfl (xe_call (hB.mono (by decide)) rfl rfl rfl rfl (xa_p mm (m := 38) (ds := [.list ss, .list ps]) rfl rfl ⟨⟨ss, ps, rfl, by omega, h1, hs, ht, hps⟩, fun d n2 h => ?_⟩)))
  obtain ⟨hd, rfl⟩ := h
  -- odd, one more of it
  refine xss_two (x := "odd") (i := 8) sc_law.nd rfl rfl (fx_no (by decide)) (no_own rfl) ?_
  refine xs_p mmO (m := 12) (wf := 50) (fl := .nx [none, none, y2, y3, some (.list ss), y5, some (.list ps), some d, some (.list (oddP ps)), x9, x10, none]) (s_setN (k := 8) rfl rfl rfl (n_odd s ps hps _ _ _ _ _ _ _) rfl) ?_ (fx1 rfl rfl)
  refine xs_append rfl (i := 8) (ds := oddP ps) rfl rfl rfl (by simp [oddP]) (xe_p mmO (m := 40) (e_oddQ s ps hps _ _ _ _ _ _ _ _) ?_)
  refine ⟨⟨_, rfl⟩, ?_⟩
  -- for other
  refine xss_cons (xs_for rfl (xi_e (xe_n (xn_lst (xa_cons rfl (xe_p mm (m := 38) (d := .list ps) rfl (xa_cons rfl (xe_call (hP.mono (by decide)) rfl rfl rfl rfl (xa_p mm (m := 36) (ds := [.list (oddP ps ++ [oddQ ps])]) rfl rfl ⟨⟨_, rfl, by omega, by simp [oddP], by simp [oddP]⟩, fun o n3 h => ?_⟩)))))))))
  obtain ⟨xs, hx, ho, rfl⟩ := h
  cases hx
  have hso := oddP_sm ps hps o ho
  refine xa_nil ⟨by simp, _, rfl, fun i n4 ρ4 => ∃ y9 : Option PyData, n4 = m + 3 + 1 ∧ ρ4 = [none, none, y2, y3, some (.list ss), y5, some (.list ps), some d, some (.list (oddP ps ++ [oddQ ps])), y9, x10, none], ⟨x9, rfl, rfl⟩, fun i n4 ρ4 e he hI => ?_, fun n4 ρ4 hI => ?_⟩
  · obtain ⟨y9, rfl, rfl⟩ := hI
    have hse : sm e := by
      have he := List.mem_of_getElem? he
      simp only [List.mem_cons, List.not_mem_nil, or_false] at he
      rcases he with rfl | rfl
      · exact sm_list (by omega)
      · exact hso
    refine ⟨[none, none, y2, y3, some (.list ss), y5, some (.list ps), some d, some (.list (oddP ps ++ [oddQ ps])), some e, x10, none], rfl, fx1 rfl rfl, ?_⟩
    exact xss_cons (xs_if (xt_p mm (m := 40) (t := false) (t_v s hss hd hse _ _ _ _ _ _) ⟨fun h => (by cases h), fun _ => xss_nil (xss_nil ⟨some e, rfl, rfl⟩)⟩))
  obtain ⟨y9, rfl, rfl⟩ := hI
  -- odd
  refine xss_cons (xs_p mm (m := 12) (wf := 50) (fl := .nx [none, none, y2, y3, some (.list ss), y5, some (.list ps), some d, some (.list kA), y9, x10, none]) (s_set (k := 8) rfl rfl rfl (d := .list kA) rfl) ?_ (fx1 rfl rfl))
  -- kind
  refine xss_cons (xs_set (i := 10) rfl rfl rfl rfl rfl (xe_call (hP.mono (by decide)) rfl rfl rfl rfl (xa_p mm (m := 38) (ds := [.list kinds]) rfl rfl ⟨⟨_, rfl, by omega, by decide, by decide⟩, fun k n5 h => ?_⟩)))
  obtain ⟨xs, hx, hk, rfl⟩ := h
  cases hx
  exact xss_cons (xs_if (xt_p mm (m := 40) (t := false) (t_6 s hk _ _ _ _ _) ⟨fun h => (by cases h), fun _ => xss_nil (xss_nil (q _ _ _ _))⟩))
end
end K68

set_option Elab.async false
set_option linter.all false
set_option maxRecDepth 100000
set_option maxHeartbeats 8000000
namespace K68
open PySem PySem.Spec PyProof.Rows L2 DK DD TM PY
section
variable {P : Program} {w : World} {K : PySem.W.Frag} {mg : Str → Option Value} {base : Heap} {cl : Nat → Addr}
abbrev c_seen (s : Addr) : Cn := (c_law s).plus "seen"
/-- sights drawn, so far -/
def SeenI (sh n : Nat) : Nat → Nat → List (List Int × Int) → Prop := fun i n2 L => L.length = i ∧ (∀ e ∈ L, e.1.length = sh) ∧ n2 ≤ n + i * 210
theorem SeenI.snoc {sh n i n2 n3 : Nat} {L : List (List Int × Int)} {e : List Int × Int} (h : SeenI sh n i n2 L) (he : e.1.length = sh) (l : n3 ≤ n2 + 210) : SeenI sh n (i + 1) n3 (L ++ [e]) := by
  obtain ⟨h1, h2, h3⟩ := h
  exact ⟨by simp [h1], all_app h2 (all_cons he all_nil), by omega⟩
theorem turn_ok (S : Stands P w K mg base cl T1) (T : TopD K mg) (hG : Dr P w K mg base 2 "_law_great" prGreat poGreat) (hB : Dr P w K mg base 3 "_law_bent" prBent poBent) (hP : Dr P w K mg base 2 "_law_pick" prPick poPick) (W : WX) (s cc : Addr) (Sf : Fl → Nat → Prop) (i m : Nat) (hi : i < 15) (hm : m ≤ i * 1000)
    (x3 x4 x5 x6 x7 x8 x9 x10 : Option PyData) (q : ∀ (y3 y4 y5 y6 y7 y8 y9 y10 : Option PyData) (n : Nat), n ≤ (i + 1) * 1000 → Sf (.nx [none, none, some (.int (i : Nat)), y3, y4, y5, y6, y7, y8, y9, y10, none]) n) :
    XSs P w K mg base 24 (c_law s) (defScope (topS 37)) W s cc tb [none, none, some (.int (i : Nat)), x3, x4, x5, x6, x7, x8, x9, x10, none] m Sf := by
  have mm : Mdl P w K mg base 24 cl (c_law s) := mdl_x S 24 D_law 1 s
  have mmS : Mdl P w K mg base 24 cl (c_seen s) := mdl_at S 24 _ rfl rfl rfl rfl
  -- shops
  refine xss_cons (xs_set (i := 3) rfl rfl rfl rfl rfl (xe_bin (xe_p mm (m := 38) (d := .int 1) rfl (xe_call (dr_draw T (by decide)) rfl rfl rfl rfl (xa_p mm (m := 38) (ds := [.int 6]) rfl rfl ⟨⟨_, rfl, by omega, by decide, by decide⟩, fun d n2 h => ?_⟩)))))
  obtain ⟨_, j, h6, rfl, j0, j1, rfl⟩ := h
  cases h6
  obtain ⟨sh, hsh⟩ : ∃ sh : Nat, 1 + j = (sh : Int) := ⟨(1 + j).toNat, by omega⟩
  refine ⟨_, o_add, ?_⟩
  rw [hsh]
  have sh1 : 1 ≤ sh := by omega
  have sh6 : sh ≤ 6 := by omega
  -- seen
  refine xss_two (x := "seen") (i := 4) sc_law.nd rfl rfl (fx_no (by decide)) (no_own rfl) ?_
  refine xs_p mmS (m := 12) (wf := 50) (fl := .nx [none, none, some (.int (i : Nat)), some (.int (sh : Int)), some (.list []), x5, x6, x7, x8, x9, x10, none]) rfl ?_ (fx1 rfl rfl)
  refine xs_for rfl (xi_range mmS rfl rfl rfl (xe_bin (xe_p mmS (m := 38) (d := .int 1) rfl (xe_call (dr_draw T (by decide)) rfl rfl rfl rfl (xa_p mmS (m := 38) (ds := [.int 4]) rfl rfl ⟨⟨_, rfl, by omega, by decide, by decide⟩, fun d n2 h => ?_⟩)))))
  obtain ⟨_, t, h4, rfl, t0, t1, rfl⟩ := h
  cases h4
  obtain ⟨ct, hct⟩ : ∃ ct : Nat, 1 + t = (ct : Int) := ⟨(1 + t).toNat, by omega⟩
  refine ⟨_, o_add, (ct : Int), by rw [hct], by omega, by omega, ?_⟩
  rw [Int.toNat_natCast]
  refine ⟨fun z n2 ρ2 => ∃ (L : List (List Int × Int)) (y5 : Option PyData), SeenI sh (m + 2) z n2 L ∧ ρ2 = [none, none, some (.int (i : Nat)), some (.int (sh : Int)), some (.list (L.map encS)), y5, x6, x7, x8, x9, x10, none], ⟨[], x5, ⟨rfl, all_nil, by omega⟩, rfl⟩, fun z n2 ρ2 d hd hI => ?_, fun n2 ρ2 hI => ?_⟩
  · obtain ⟨L, y5, hL, rfl⟩ := hI
    obtain ⟨rfl, hz⟩ := rngD_at hd
    have hn2 : n2 ≤ m + 2 + 630 := by
      have := hL.2.2
      omega
    have hLl := hL.1
    refine ⟨[none, none, some (.int (i : Nat)), some (.int (sh : Int)), some (.list (L.map encS)), some (.int (z : Nat)), x6, x7, x8, x9, x10, none], rfl, fx1 rfl rfl, ?_⟩
    refine xss_cons (xs_append rfl (i := 4) (ds := L.map encS) rfl rfl rfl (by rw [List.length_map]; omega) (xe_tup (xa_cons rfl (xe_n (xn_lc (xc_run rfl rfl (xi_p mmS (m := 37) (ds := rngD sh) (it_range (i := (sh : Int)) rfl rfl rfl rfl (by omega) (by omega)) ⟨by rw [rngD_len]; omega, IntsI n2 30, IntsI.zero, fun u n3 acc d hd hI => ?_, fun n3 acc hI => ?_⟩)))))))
    · obtain ⟨rfl, hu⟩ := rngD_at hd
      have hn3 : n3 ≤ n2 + 180 := by
        obtain ⟨_, _, _, h⟩ := hI
        omega
      refine ⟨[none, none, some (.int (i : Nat)), some (.int (sh : Int)), some (.list (L.map encS)), some (.int (z : Nat)), x6, x7, x8, x9, x10, some (.int (u : Nat))], rfl, ?_⟩
      refine xe_call (hG.mono (by decide)) rfl rfl rfl rfl (xa_p mmS (m := 36) (ds := [.int 30]) rfl rfl ⟨⟨rfl, by omega⟩, fun d n4 h => ?_⟩)
      obtain ⟨g, rfl, rfl⟩ := h
      exact hI.snoc (by omega)
    · obtain ⟨is, rfl, hl, hn3⟩ := hI
      rw [rngD_len] at hl hn3
      refine xa_cons rfl (xe_call (hG.mono (by decide)) rfl rfl rfl rfl (xa_p mmS (m := 37) (ds := [.int 30]) rfl rfl ⟨⟨rfl, by omega⟩, fun d n4 h => ?_⟩))
      obtain ⟨g, rfl, rfl⟩ := h
      refine xa_nil ⟨by simp, xss_nil ⟨L ++ [(is, g)], some (.int (z : Nat)), hL.snoc hl (by omega), ?_⟩⟩
      rw [List.map_append]
      rfl
  obtain ⟨L, y5, hL, rfl⟩ := hI
  obtain ⟨hLl, hLs, hn2⟩ := hL
  rw [rngD_len] at hLl hn2
  refine ⟨⟨_, rfl⟩, ?_⟩
  -- prices
  refine xss_cons (xs_setLC (i := 6) rfl rfl rfl (xc_run rfl rfl (xi_p mm (m := 40) (ds := rngD sh) (it_range (i := (sh : Int)) rfl rfl rfl rfl (by omega) (by omega)) ⟨by rw [rngD_len]; omega, IntsI n2 1, IntsI.zero, fun u n3 acc d hd hI => ?_, fun n3 acc hI => ?_⟩)))
  · obtain ⟨rfl, hu⟩ := rngD_at hd
    have hn3 : n3 ≤ n2 + 6 := by
      obtain ⟨_, _, _, h⟩ := hI
      omega
    refine ⟨[none, none, some (.int (i : Nat)), some (.int (sh : Int)), some (.list (L.map encS)), y5, x6, x7, x8, x9, x10, some (.int (u : Nat))], rfl, ?_⟩
    refine xe_call (dr_draw T (by decide)) rfl rfl rfl rfl (xa_p mm (m := 38) (ds := [.int 9]) rfl rfl ⟨⟨_, rfl, by omega, by decide, by decide⟩, fun d n4 h => ?_⟩)
    obtain ⟨_, g, _, rfl, _, _, rfl⟩ := h
    exact hI.snoc (by omega)
  obtain ⟨is, rfl, hil, hn3⟩ := hI
  rw [rngD_len] at hil hn3
  have hpl : (is.map PyData.int).length ≤ 6 := by rw [List.length_map]; omega
  have hs : SmL 4 (L.map encS) := ⟨by rw [List.length_map]; omega, fun x hx => by
    obtain ⟨e, he, rfl⟩ := List.mem_map.mp hx
    exact smS_tup (sm_list (by rw [List.length_map, hLs e he]; omega))⟩
  have h1 : 1 ≤ (L.map encS).length := by rw [List.length_map]; omega
  have ht : ∀ x ∈ L.map encS, ∀ xs, x ≠ .list xs := fun x hx xs e => by
    obtain ⟨e', he, rfl⟩ := List.mem_map.mp hx
    cases e
  refine xss_cons (xs_if (xt_p mm (m := 40) (t := false) (t_4 s (hs.seen (by omega)) (sm_list (by omega)) _ _ _ _ _ _ _) ⟨fun h => (by cases h), fun _ => xss_nil ?_⟩))
  -- for k
  refine xss_cons (xs_for rfl (xi_p mm (m := 40) (ds := rngD 4) (it_range (i := 4) rfl rfl rfl rfl (by decide) (by decide)) ⟨fun z n4 ρ4 => ∃ y5 y7 y8 y9 y10 : Option PyData, n4 = n3 + z * 5 ∧ ρ4 = [none, none, some (.int (i : Nat)), some (.int (sh : Int)), some (.list (L.map encS)), y5, some (.list (is.map .int)), y7, y8, y9, y10, none], ⟨y5, x7, x8, x9, x10, by omega, rfl⟩, fun z n4 ρ4 d hd hI => ?_, fun n4 ρ4 hI => ?_⟩))
  · obtain ⟨y5, y7, y8, y9, y10, rfl, rfl⟩ := hI
    obtain ⟨rfl, hz⟩ := rngD_at hd
    refine ⟨[none, none, some (.int (i : Nat)), some (.int (sh : Int)), some (.list (L.map encS)), some (.int (z : Nat)), some (.list (is.map .int)), y7, y8, y9, y10, none], rfl, fx1 rfl rfl, ?_⟩
    refine turn2_ok S hB hP W s cc _ hs h1 ht hpl (n3 + z * 5) (by omega) _ _ _ _ _ _ _ fun y7 y8 y9 y10 => ?_
    exact ⟨some (.int (z : Nat)), y7, y8, y9, y10, by omega, rfl⟩
  · obtain ⟨y5, y7, y8, y9, y10, rfl, rfl⟩ := hI
    rw [rngD_len]
    exact xss_nil (q _ _ _ _ _ _ _ _ _ (by omega))
end
end K68

set_option Elab.async false
set_option linter.all false
set_option maxRecDepth 100000
set_option maxHeartbeats 8000000
namespace K68
open PySem PySem.Spec PyProof.Rows L2 DK DD TM PY XC2
section
variable {P : Program} {w : World} {K : PySem.W.Frag} {mg : Str → Option Value} {base : Heap} {cl : Nat → Addr}
theorem ok_law (S : Stands P w K mg base cl T1) (T : TopD K mg) (hG : Dr P w K mg base 2 "_law_great" prGreat poGreat) (hB : Dr P w K mg base 3 "_law_bent" prBent poBent) (hP : Dr P w K mg base 2 "_law_pick" prPick poPick) (A : AtN K mg "law" D_law.nm D_law.st D_law.ps) : FnOk P w K mg base CX0 25 A.f A.fd D_law.ps (spLaw K) := by
  refine fn_calm (A.F.okX sc_law (fun vs H Q E h => ?_) (fun cdv Ar outer sh H vs Q E hr h => ?_))
  · obtain ⟨_, _, rfl, _⟩ := h
    rfl
  obtain ⟨a, ns, rfl, hx, h63, q⟩ := h
  let W : WX := fun cls d _ H => E cls d H
  have g : PY.Good P w K mg base 24 D_law.N (defScope (topS 37)) W (cxOf (CX P w) P w K mg base D_law.N D_law.nm (defScope (topS 37)) A.f cdv Ar outer sh H E) :=
    ⟨rfl, rfl, rfl, rfl, rfl, rfl, sc_law.nd, rfl, hr, fun x v h => .inl h, takes_of rfl rfl rfl rfl, fun _ _ => rfl, sc_law.kind⟩
  refine ⟨_, pss_cons (ps_set (i := 1) sc_law.nd rfl (g.loc (x := "source") (Or.inr rfl)) (pe_call (CX := CX0) (ok__law_source T) (hr.mono (by omega)) (by rfl) T._law_source.g T._law_source.F.kp T._law_source.b .nil pass0 (pa_cons (pv 0) pa_nil)) rfl (g.hf (x := "source") (Or.inr rfl))) (bss (c := c_law 0) ⟨g, passes_of rfl⟩ ((defBody (topS 37)).drop 1)), ?_⟩
  refine ⟨_, rfl, a, ns, rfl, hx, h63, fun s cc H1 e1 hs hc S0 => ?_⟩
  have mm : Mdl P w K mg base 24 cl (c_law s) := mdl_x S 24 D_law 1 s
  have main : XSs P w K mg base 24 (c_law s) (defScope (topS 37)) W s cc ((defBody (topS 37)).drop 1) (List.replicate 12 none) 0 fun fl _ => fl = .rt (.bool true) := by
    refine xss_cons (xs_for rfl (xi_p mm (m := 40) (ds := rngD 15) (it_range (i := 15) rfl rfl rfl rfl (by decide) (by decide)) ⟨fun i n2 ρ2 => n2 ≤ i * 1000 ∧ ∃ y2 y3 y4 y5 y6 y7 y8 y9 y10 : Option PyData, ρ2 = [none, none, y2, y3, y4, y5, y6, y7, y8, y9, y10, none],
      ⟨by omega, none, none, none, none, none, none, none, none, none, rfl⟩, fun i n2 ρ2 d hd hI => ?_, fun n2 ρ2 hI => ?_⟩))
    · obtain ⟨hn2, y2, y3, y4, y5, y6, y7, y8, y9, y10, rfl⟩ := hI
      obtain ⟨rfl, hi⟩ := rngD_at hd
      refine ⟨[none, none, some (.int (i : Nat)), y3, y4, y5, y6, y7, y8, y9, y10, none], rfl, fx1 rfl rfl, ?_⟩
      exact turn_ok S T hG hB hP W s cc _ i n2 hi hn2 y3 y4 y5 y6 y7 y8 y9 y10 fun z3 z4 z5 z6 z7 z8 z9 z10 n hn => ⟨hn, some (.int (i : Nat)), z3, z4, z5, z6, z7, z8, z9, z10, rfl⟩
    · obtain ⟨_, y2, y3, y4, y5, y6, y7, y8, y9, y10, rfl⟩ := hI
      exact xss_cons (xs_ret (xe_p mm (m := 38) (d := .bool true) rfl rfl))
  have R : XRel (c_law s) K s cc H1 [s, cc] [s, cc] ((L2.start D_law.N [.ref a]).set 1 (some (.ref s))) H1 (List.replicate 12 none) 0 := xrel_law (i := 1) (x := "source") S0 rfl rfl rfl rfl rfl rfl
  refine main H1 [s, cc] [s, cc] _ H1 R _ fun fl n1 hf => ?_
  subst hf
  intro v H' _ _ hv
  obtain rfl := rBl hv
  exact q H'
end
end K68

set_option Elab.async false
set_option linter.all false
set_option maxRecDepth 100000
set_option maxHeartbeats 8000000
namespace K68
open PySem PySem.Spec PyProof.Rows L2 DK DD TM PY XC2
theorem scopes : ∀ e ∈ dfs, FnScope e.2.N e.2.ps (defScope e.2.st) ∧ (∀ x ∈ e.2.ps, x ∉ e.2.own) := by
  intro e he
  simp only [dfs, List.mem_cons, List.not_mem_nil, or_false] at he
  rcases he with rfl | rfl | rfl | rfl | rfl | rfl | rfl | rfl | rfl | rfl | rfl | rfl | rfl | rfl | rfl | rfl | rfl | rfl | rfl
  all_goals exact ⟨⟨rfl, rfl, rfl, by decide +kernel, rfl, by decide +kernel, by decide +kernel⟩, by decide +kernel⟩
theorem look_mem {α : Type} {f : Str} {d : α} : ∀ {l : List (Str × α)}, l.lookup f = some d → (f, d) ∈ l
  | [], h => by cases h
  | (g, e) :: l, h => by
    rw [List.lookup_cons] at h
    cases hx : f == g with
    | true =>
      rw [hx] at h
      cases h
      have : f = g := by simpa using hx
      rw [this]
      exact List.mem_cons_self
    | false =>
      rw [hx] at h
      exact List.mem_cons_of_mem _ (look_mem h)
theorem stands_of {P : Program} {w : World} {K : PySem.W.Frag} {mg : Str → Option Value} {base : Heap} {cl : Nat → Addr} {F : List PyData → Rs PyData} (hd : ∀ e ∈ dfs, Nonempty (AtN K mg e.1 e.2.nm e.2.st e.2.ps)) (hi : ∀ e ∈ cInts, ∃ t, mg e.1 = some (.int e.2 t)) (hb : ∀ x ∈ bltL, mg x = none) (hc : ∀ x i, cls x = some i → XCl K mg x (cl i))
    (Aw : AtN K mg "_law_word" D_word.nm D_word.st D_word.ps) (hw : FnOk P w K mg base (CX P w) 6 Aw.f Aw.fd D_word.ps (spP K cl F)) : Stands P w K mg base cl (Tw F) := by
  refine ⟨fun f D h => ?_, fun x d h _ => ?_, hb, hc, fun f k G _ h => ?_⟩
  · have m := look_mem (l := dfs) h
    exact ⟨hd _ m, scopes _ m⟩
  · have h' : (cInts.lookup x).map PyData.int = some d := h
    cases hx : cInts.lookup x with
    | some i =>
      rw [hx] at h'
      cases h'
      obtain ⟨t, ht⟩ := hi _ (look_mem hx)
      exact ⟨_, .int i, ht, ⟨t, rfl⟩, rfl⟩
    | none =>
      rw [hx] at h'
      cases h'
  · have h' : (if f = ("_law_word" : Str) then some (6, F) else none) = some (k, G) := h
    by_cases hf : f = ("_law_word" : Str)
    · rw [if_pos hf] at h'
      cases h'
      subst hf
      exact ⟨Aw.f, Aw.fd, D_word.ps, Aw.g, Aw.F.kp, Aw.b, hw⟩
    · rw [if_neg hf] at h'
      cases h'
theorem whole {P : Program} {w : World} {K : PySem.W.Frag} {mg : Str → Option Value} {base : Heap} {cl : Nat → Addr} (T : TopD K mg) (Z : Kinds K mg cl) (Aw : AtN K mg "_law_word" D_word.nm D_word.st D_word.ps) (Ag : AtN K mg "_law_great" D_great.nm D_great.st D_great.ps) (Ap : AtN K mg "_law_pick" D_pick.nm D_pick.st D_pick.ps) (Ab : AtN K mg "_law_bent" D_bent.nm D_bent.st D_bent.ps) (A : AtN K mg "law" D_law.nm D_law.st D_law.ps)
    (st : ∀ F, FnOk P w K mg base (CX P w) 6 Aw.f Aw.fd D_word.ps (spP K cl F) → Stands P w K mg base cl (Tw F)) : FnOk P w K mg base CX0 25 A.f A.fd D_law.ps (spLaw K) := by
  have S0 : Stands P w K mg base cl T0 := st _ (fn_vac fun vs H Q E h => by
    obtain ⟨_, _, _, _, q⟩ := h
    exact q)
  have dG := dr_of Ag (ok_great S0 T Ag)
  have dP := dr_of Ap (ok_pick S0 T Ap)
  have dB := dr_of Ab (ok_bent S0 T dP Ab)
  exact ok_law (st F_word (ok_word S0 Z Aw)) T dG dB dP A
theorem all_mk {l : PySem.W.OpenLaw} {w : World} {K : PySem.W.Frag} {h : Heap} {mg : Str → Option Value} {fa : Addr} (X : K.In h) (G : h.Ns mainGlobals mg) (hfa : mg "law" = some (.ref fa))
    {f_is_int : Addr} {od_is_int an_is_int : Option Addr} {sl_is_int : Array (Option Value)} {oc_is_int kV_is_int dc_is_int pm_is_int cd_is_int ct_is_int : Value}
    (a_is_int : PySem.W.nsIn K mainGlobals "is_int" = some (some (.ref f_is_int))) (l_is_int : K.lookup f_is_int = some ⟨oc_is_int, od_is_int, .func (PySem.W.fnOf "is_int" "is_int" (defArgs (topS 8)) (defBody (topS 8)) (defScope (topS 8)) .none kV_is_int dc_is_int pm_is_int an_is_int cd_is_int ct_is_int), sl_is_int⟩) (c_is_int : PySem.W.codeIn K cd_is_int "is_int" = true) (k_is_int : PySem.W.keepIn K (.ref f_is_int) = true)
    {f_is_int_list : Addr} {od_is_int_list an_is_int_list : Option Addr} {sl_is_int_list : Array (Option Value)} {oc_is_int_list kV_is_int_list dc_is_int_list pm_is_int_list cd_is_int_list ct_is_int_list : Value}
    (a_is_int_list : PySem.W.nsIn K mainGlobals "is_int_list" = some (some (.ref f_is_int_list))) (l_is_int_list : K.lookup f_is_int_list = some ⟨oc_is_int_list, od_is_int_list, .func (PySem.W.fnOf "is_int_list" "is_int_list" (defArgs (topS 9)) (defBody (topS 9)) (defScope (topS 9)) .none kV_is_int_list dc_is_int_list pm_is_int_list an_is_int_list cd_is_int_list ct_is_int_list), sl_is_int_list⟩) (c_is_int_list : PySem.W.codeIn K cd_is_int_list "is_int_list" = true) (k_is_int_list : PySem.W.keepIn K (.ref f_is_int_list) = true)
    {f_check_prices : Addr} {od_check_prices an_check_prices : Option Addr} {sl_check_prices : Array (Option Value)} {oc_check_prices kV_check_prices dc_check_prices pm_check_prices cd_check_prices ct_check_prices : Value}
    (a_check_prices : PySem.W.nsIn K mainGlobals "check_prices" = some (some (.ref f_check_prices))) (l_check_prices : K.lookup f_check_prices = some ⟨oc_check_prices, od_check_prices, .func (PySem.W.fnOf "check_prices" "check_prices" (defArgs (topS 11)) (defBody (topS 11)) (defScope (topS 11)) .none kV_check_prices dc_check_prices pm_check_prices an_check_prices cd_check_prices ct_check_prices), sl_check_prices⟩) (c_check_prices : PySem.W.codeIn K cd_check_prices "check_prices" = true) (k_check_prices : PySem.W.keepIn K (.ref f_check_prices) = true)
    {f_fit_rule : Addr} {od_fit_rule an_fit_rule : Option Addr} {sl_fit_rule : Array (Option Value)} {oc_fit_rule kV_fit_rule dc_fit_rule pm_fit_rule cd_fit_rule ct_fit_rule : Value}
    (a_fit_rule : PySem.W.nsIn K mainGlobals "fit_rule" = some (some (.ref f_fit_rule))) (l_fit_rule : K.lookup f_fit_rule = some ⟨oc_fit_rule, od_fit_rule, .func (PySem.W.fnOf "fit_rule" "fit_rule" (defArgs (topS 14)) (defBody (topS 14)) (defScope (topS 14)) .none kV_fit_rule dc_fit_rule pm_fit_rule an_fit_rule cd_fit_rule ct_fit_rule), sl_fit_rule⟩) (c_fit_rule : PySem.W.codeIn K cd_fit_rule "fit_rule" = true) (k_fit_rule : PySem.W.keepIn K (.ref f_fit_rule) = true)
    {f_foretell : Addr} {od_foretell an_foretell : Option Addr} {sl_foretell : Array (Option Value)} {oc_foretell kV_foretell dc_foretell pm_foretell cd_foretell ct_foretell : Value}
    (a_foretell : PySem.W.nsIn K mainGlobals "foretell" = some (some (.ref f_foretell))) (l_foretell : K.lookup f_foretell = some ⟨oc_foretell, od_foretell, .func (PySem.W.fnOf "foretell" "foretell" (defArgs (topS 15)) (defBody (topS 15)) (defScope (topS 15)) .none kV_foretell dc_foretell pm_foretell an_foretell cd_foretell ct_foretell), sl_foretell⟩) (c_foretell : PySem.W.codeIn K cd_foretell "foretell" = true) (k_foretell : PySem.W.keepIn K (.ref f_foretell) = true)
    {f__check_seen : Addr} {od__check_seen an__check_seen : Option Addr} {sl__check_seen : Array (Option Value)} {oc__check_seen kV__check_seen dc__check_seen pm__check_seen cd__check_seen ct__check_seen : Value}
    (a__check_seen : PySem.W.nsIn K mainGlobals "_check_seen" = some (some (.ref f__check_seen))) (l__check_seen : K.lookup f__check_seen = some ⟨oc__check_seen, od__check_seen, .func (PySem.W.fnOf "_check_seen" "_check_seen" (defArgs (topS 16)) (defBody (topS 16)) (defScope (topS 16)) .none kV__check_seen dc__check_seen pm__check_seen an__check_seen cd__check_seen ct__check_seen), sl__check_seen⟩) (c__check_seen : PySem.W.codeIn K cd__check_seen "_check_seen" = true) (k__check_seen : PySem.W.keepIn K (.ref f__check_seen) = true)
    {f__is_sight : Addr} {od__is_sight an__is_sight : Option Addr} {sl__is_sight : Array (Option Value)} {oc__is_sight kV__is_sight dc__is_sight pm__is_sight cd__is_sight ct__is_sight : Value}
    (a__is_sight : PySem.W.nsIn K mainGlobals "_is_sight" = some (some (.ref f__is_sight))) (l__is_sight : K.lookup f__is_sight = some ⟨oc__is_sight, od__is_sight, .func (PySem.W.fnOf "_is_sight" "_is_sight" (defArgs (topS 17)) (defBody (topS 17)) (defScope (topS 17)) .none kV__is_sight dc__is_sight pm__is_sight an__is_sight cd__is_sight ct__is_sight), sl__is_sight⟩) (c__is_sight : PySem.W.codeIn K cd__is_sight "_is_sight" = true) (k__is_sight : PySem.W.keepIn K (.ref f__is_sight) = true)
    {f__sign : Addr} {od__sign an__sign : Option Addr} {sl__sign : Array (Option Value)} {oc__sign kV__sign dc__sign pm__sign cd__sign ct__sign : Value}
    (a__sign : PySem.W.nsIn K mainGlobals "_sign" = some (some (.ref f__sign))) (l__sign : K.lookup f__sign = some ⟨oc__sign, od__sign, .func (PySem.W.fnOf "_sign" "_sign" (defArgs (topS 18)) (defBody (topS 18)) (defScope (topS 18)) .none kV__sign dc__sign pm__sign an__sign cd__sign ct__sign), sl__sign⟩) (c__sign : PySem.W.codeIn K cd__sign "_sign" = true) (k__sign : PySem.W.keepIn K (.ref f__sign) = true)
    {f__sights : Addr} {od__sights an__sights : Option Addr} {sl__sights : Array (Option Value)} {oc__sights kV__sights dc__sights pm__sights cd__sights ct__sights : Value}
    (a__sights : PySem.W.nsIn K mainGlobals "_sights" = some (some (.ref f__sights))) (l__sights : K.lookup f__sights = some ⟨oc__sights, od__sights, .func (PySem.W.fnOf "_sights" "_sights" (defArgs (topS 19)) (defBody (topS 19)) (defScope (topS 19)) .none kV__sights dc__sights pm__sights an__sights cd__sights ct__sights), sl__sights⟩) (c__sights : PySem.W.codeIn K cd__sights "_sights" = true) (k__sights : PySem.W.keepIn K (.ref f__sights) = true)
    {f__line : Addr} {od__line an__line : Option Addr} {sl__line : Array (Option Value)} {oc__line kV__line dc__line pm__line cd__line ct__line : Value}
    (a__line : PySem.W.nsIn K mainGlobals "_line" = some (some (.ref f__line))) (l__line : K.lookup f__line = some ⟨oc__line, od__line, .func (PySem.W.fnOf "_line" "_line" (defArgs (topS 20)) (defBody (topS 20)) (defScope (topS 20)) .none kV__line dc__line pm__line an__line cd__line ct__line), sl__line⟩) (c__line : PySem.W.codeIn K cd__line "_line" = true) (k__line : PySem.W.keepIn K (.ref f__line) = true)
    {f__least_adds : Addr} {od__least_adds an__least_adds : Option Addr} {sl__least_adds : Array (Option Value)} {oc__least_adds kV__least_adds dc__least_adds pm__least_adds cd__least_adds ct__least_adds : Value}
    (a__least_adds : PySem.W.nsIn K mainGlobals "_least_adds" = some (some (.ref f__least_adds))) (l__least_adds : K.lookup f__least_adds = some ⟨oc__least_adds, od__least_adds, .func (PySem.W.fnOf "_least_adds" "_least_adds" (defArgs (topS 21)) (defBody (topS 21)) (defScope (topS 21)) .none kV__least_adds dc__least_adds pm__least_adds an__least_adds cd__least_adds ct__least_adds), sl__least_adds⟩) (c__least_adds : PySem.W.codeIn K cd__least_adds "_least_adds" = true) (k__least_adds : PySem.W.keepIn K (.ref f__least_adds) = true)
    {f__parts : Addr} {od__parts an__parts : Option Addr} {sl__parts : Array (Option Value)} {oc__parts kV__parts dc__parts pm__parts cd__parts ct__parts : Value}
    (a__parts : PySem.W.nsIn K mainGlobals "_parts" = some (some (.ref f__parts))) (l__parts : K.lookup f__parts = some ⟨oc__parts, od__parts, .func (PySem.W.fnOf "_parts" "_parts" (defArgs (topS 22)) (defBody (topS 22)) (defScope (topS 22)) .none kV__parts dc__parts pm__parts an__parts cd__parts ct__parts), sl__parts⟩) (c__parts : PySem.W.codeIn K cd__parts "_parts" = true) (k__parts : PySem.W.keepIn K (.ref f__parts) = true)
    {f__first_fault : Addr} {od__first_fault an__first_fault : Option Addr} {sl__first_fault : Array (Option Value)} {oc__first_fault kV__first_fault dc__first_fault pm__first_fault cd__first_fault ct__first_fault : Value}
    (a__first_fault : PySem.W.nsIn K mainGlobals "_first_fault" = some (some (.ref f__first_fault))) (l__first_fault : K.lookup f__first_fault = some ⟨oc__first_fault, od__first_fault, .func (PySem.W.fnOf "_first_fault" "_first_fault" (defArgs (topS 23)) (defBody (topS 23)) (defScope (topS 23)) .none kV__first_fault dc__first_fault pm__first_fault an__first_fault cd__first_fault ct__first_fault), sl__first_fault⟩) (c__first_fault : PySem.W.codeIn K cd__first_fault "_first_fault" = true) (k__first_fault : PySem.W.keepIn K (.ref f__first_fault) = true)
    {f__where_told : Addr} {od__where_told an__where_told : Option Addr} {sl__where_told : Array (Option Value)} {oc__where_told kV__where_told dc__where_told pm__where_told cd__where_told ct__where_told : Value}
    (a__where_told : PySem.W.nsIn K mainGlobals "_where_told" = some (some (.ref f__where_told))) (l__where_told : K.lookup f__where_told = some ⟨oc__where_told, od__where_told, .func (PySem.W.fnOf "_where_told" "_where_told" (defArgs (topS 24)) (defBody (topS 24)) (defScope (topS 24)) .none kV__where_told dc__where_told pm__where_told an__where_told cd__where_told ct__where_told), sl__where_told⟩) (c__where_told : PySem.W.codeIn K cd__where_told "_where_told" = true) (k__where_told : PySem.W.keepIn K (.ref f__where_told) = true)
    {f__law_is_whole : Addr} {od__law_is_whole an__law_is_whole : Option Addr} {sl__law_is_whole : Array (Option Value)} {oc__law_is_whole kV__law_is_whole dc__law_is_whole pm__law_is_whole cd__law_is_whole ct__law_is_whole : Value}
    (a__law_is_whole : PySem.W.nsIn K mainGlobals "_law_is_whole" = some (some (.ref f__law_is_whole))) (l__law_is_whole : K.lookup f__law_is_whole = some ⟨oc__law_is_whole, od__law_is_whole, .func (PySem.W.fnOf "_law_is_whole" "_law_is_whole" (defArgs (topS 31)) (defBody (topS 31)) (defScope (topS 31)) .none kV__law_is_whole dc__law_is_whole pm__law_is_whole an__law_is_whole cd__law_is_whole ct__law_is_whole), sl__law_is_whole⟩) (c__law_is_whole : PySem.W.codeIn K cd__law_is_whole "_law_is_whole" = true) (k__law_is_whole : PySem.W.keepIn K (.ref f__law_is_whole) = true)
    {f__law_is_row : Addr} {od__law_is_row an__law_is_row : Option Addr} {sl__law_is_row : Array (Option Value)} {oc__law_is_row kV__law_is_row dc__law_is_row pm__law_is_row cd__law_is_row ct__law_is_row : Value}
    (a__law_is_row : PySem.W.nsIn K mainGlobals "_law_is_row" = some (some (.ref f__law_is_row))) (l__law_is_row : K.lookup f__law_is_row = some ⟨oc__law_is_row, od__law_is_row, .func (PySem.W.fnOf "_law_is_row" "_law_is_row" (defArgs (topS 32)) (defBody (topS 32)) (defScope (topS 32)) .none kV__law_is_row dc__law_is_row pm__law_is_row an__law_is_row cd__law_is_row ct__law_is_row), sl__law_is_row⟩) (c__law_is_row : PySem.W.codeIn K cd__law_is_row "_law_is_row" = true) (k__law_is_row : PySem.W.keepIn K (.ref f__law_is_row) = true)
    {f__law_are_seen : Addr} {od__law_are_seen an__law_are_seen : Option Addr} {sl__law_are_seen : Array (Option Value)} {oc__law_are_seen kV__law_are_seen dc__law_are_seen pm__law_are_seen cd__law_are_seen ct__law_are_seen : Value}
    (a__law_are_seen : PySem.W.nsIn K mainGlobals "_law_are_seen" = some (some (.ref f__law_are_seen))) (l__law_are_seen : K.lookup f__law_are_seen = some ⟨oc__law_are_seen, od__law_are_seen, .func (PySem.W.fnOf "_law_are_seen" "_law_are_seen" (defArgs (topS 33)) (defBody (topS 33)) (defScope (topS 33)) .none kV__law_are_seen dc__law_are_seen pm__law_are_seen an__law_are_seen cd__law_are_seen ct__law_are_seen), sl__law_are_seen⟩) (c__law_are_seen : PySem.W.codeIn K cd__law_are_seen "_law_are_seen" = true) (k__law_are_seen : PySem.W.keepIn K (.ref f__law_are_seen) = true)
    {f__law_due : Addr} {od__law_due an__law_due : Option Addr} {sl__law_due : Array (Option Value)} {oc__law_due kV__law_due dc__law_due pm__law_due cd__law_due ct__law_due : Value}
    (a__law_due : PySem.W.nsIn K mainGlobals "_law_due" = some (some (.ref f__law_due))) (l__law_due : K.lookup f__law_due = some ⟨oc__law_due, od__law_due, .func (PySem.W.fnOf "_law_due" "_law_due" (defArgs (topS 34)) (defBody (topS 34)) (defScope (topS 34)) .none kV__law_due dc__law_due pm__law_due an__law_due cd__law_due ct__law_due), sl__law_due⟩) (c__law_due : PySem.W.codeIn K cd__law_due "_law_due" = true) (k__law_due : PySem.W.keepIn K (.ref f__law_due) = true)
    {f__law_fits : Addr} {od__law_fits an__law_fits : Option Addr} {sl__law_fits : Array (Option Value)} {oc__law_fits kV__law_fits dc__law_fits pm__law_fits cd__law_fits ct__law_fits : Value}
    (a__law_fits : PySem.W.nsIn K mainGlobals "_law_fits" = some (some (.ref f__law_fits))) (l__law_fits : K.lookup f__law_fits = some ⟨oc__law_fits, od__law_fits, .func (PySem.W.fnOf "_law_fits" "_law_fits" (defArgs (topS 35)) (defBody (topS 35)) (defScope (topS 35)) .none kV__law_fits dc__law_fits pm__law_fits an__law_fits cd__law_fits ct__law_fits), sl__law_fits⟩) (c__law_fits : PySem.W.codeIn K cd__law_fits "_law_fits" = true) (k__law_fits : PySem.W.keepIn K (.ref f__law_fits) = true)
    {f__law_source : Addr} {od__law_source an__law_source : Option Addr} {sl__law_source : Array (Option Value)} {oc__law_source kV__law_source dc__law_source pm__law_source cd__law_source ct__law_source : Value}
    (a__law_source : PySem.W.nsIn K mainGlobals "_law_source" = some (some (.ref f__law_source))) (l__law_source : K.lookup f__law_source = some ⟨oc__law_source, od__law_source, .func (PySem.W.fnOf "_law_source" "_law_source" (defArgs (topS 26)) (defBody (topS 26)) (defScope (topS 26)) .none kV__law_source dc__law_source pm__law_source an__law_source cd__law_source ct__law_source), sl__law_source⟩) (c__law_source : PySem.W.codeIn K cd__law_source "_law_source" = true) (k__law_source : PySem.W.keepIn K (.ref f__law_source) = true)
    {f__law_draw : Addr} {od__law_draw an__law_draw : Option Addr} {sl__law_draw : Array (Option Value)} {oc__law_draw kV__law_draw dc__law_draw pm__law_draw cd__law_draw ct__law_draw : Value}
    (a__law_draw : PySem.W.nsIn K mainGlobals "_law_draw" = some (some (.ref f__law_draw))) (l__law_draw : K.lookup f__law_draw = some ⟨oc__law_draw, od__law_draw, .func (PySem.W.fnOf "_law_draw" "_law_draw" (defArgs (topS 27)) (defBody (topS 27)) (defScope (topS 27)) .none kV__law_draw dc__law_draw pm__law_draw an__law_draw cd__law_draw ct__law_draw), sl__law_draw⟩) (c__law_draw : PySem.W.codeIn K cd__law_draw "_law_draw" = true) (k__law_draw : PySem.W.keepIn K (.ref f__law_draw) = true)
    {f__law_great : Addr} {od__law_great an__law_great : Option Addr} {sl__law_great : Array (Option Value)} {oc__law_great kV__law_great dc__law_great pm__law_great cd__law_great ct__law_great : Value}
    (a__law_great : PySem.W.nsIn K mainGlobals "_law_great" = some (some (.ref f__law_great))) (l__law_great : K.lookup f__law_great = some ⟨oc__law_great, od__law_great, .func (PySem.W.fnOf "_law_great" "_law_great" (defArgs (topS 29)) (defBody (topS 29)) (defScope (topS 29)) .none kV__law_great dc__law_great pm__law_great an__law_great cd__law_great ct__law_great), sl__law_great⟩) (c__law_great : PySem.W.codeIn K cd__law_great "_law_great" = true) (k__law_great : PySem.W.keepIn K (.ref f__law_great) = true)
    {f__law_pick : Addr} {od__law_pick an__law_pick : Option Addr} {sl__law_pick : Array (Option Value)} {oc__law_pick kV__law_pick dc__law_pick pm__law_pick cd__law_pick ct__law_pick : Value}
    (a__law_pick : PySem.W.nsIn K mainGlobals "_law_pick" = some (some (.ref f__law_pick))) (l__law_pick : K.lookup f__law_pick = some ⟨oc__law_pick, od__law_pick, .func (PySem.W.fnOf "_law_pick" "_law_pick" (defArgs (topS 28)) (defBody (topS 28)) (defScope (topS 28)) .none kV__law_pick dc__law_pick pm__law_pick an__law_pick cd__law_pick ct__law_pick), sl__law_pick⟩) (c__law_pick : PySem.W.codeIn K cd__law_pick "_law_pick" = true) (k__law_pick : PySem.W.keepIn K (.ref f__law_pick) = true)
    {f__law_bent : Addr} {od__law_bent an__law_bent : Option Addr} {sl__law_bent : Array (Option Value)} {oc__law_bent kV__law_bent dc__law_bent pm__law_bent cd__law_bent ct__law_bent : Value}
    (a__law_bent : PySem.W.nsIn K mainGlobals "_law_bent" = some (some (.ref f__law_bent))) (l__law_bent : K.lookup f__law_bent = some ⟨oc__law_bent, od__law_bent, .func (PySem.W.fnOf "_law_bent" "_law_bent" (defArgs (topS 36)) (defBody (topS 36)) (defScope (topS 36)) .none kV__law_bent dc__law_bent pm__law_bent an__law_bent cd__law_bent ct__law_bent), sl__law_bent⟩) (c__law_bent : PySem.W.codeIn K cd__law_bent "_law_bent" = true) (k__law_bent : PySem.W.keepIn K (.ref f__law_bent) = true)
    {f__law_word : Addr} {od__law_word an__law_word : Option Addr} {sl__law_word : Array (Option Value)} {oc__law_word kV__law_word dc__law_word pm__law_word cd__law_word ct__law_word : Value}
    (a__law_word : PySem.W.nsIn K mainGlobals "_law_word" = some (some (.ref f__law_word))) (l__law_word : K.lookup f__law_word = some ⟨oc__law_word, od__law_word, .func (PySem.W.fnOf "_law_word" "_law_word" (defArgs (topS 30)) (defBody (topS 30)) (defScope (topS 30)) .none kV__law_word dc__law_word pm__law_word an__law_word cd__law_word ct__law_word), sl__law_word⟩) (c__law_word : PySem.W.codeIn K cd__law_word "_law_word" = true) (k__law_word : PySem.W.keepIn K (.ref f__law_word) = true)
    {f_law : Addr} {od_law an_law : Option Addr} {sl_law : Array (Option Value)} {oc_law kV_law dc_law pm_law cd_law ct_law : Value}
    (a_law : PySem.W.nsIn K mainGlobals "law" = some (some (.ref f_law))) (l_law : K.lookup f_law = some ⟨oc_law, od_law, .func (PySem.W.fnOf "law" "law" (defArgs (topS 37)) (defBody (topS 37)) (defScope (topS 37)) .none kV_law dc_law pm_law an_law cd_law ct_law), sl_law⟩) (c_law : PySem.W.codeIn K cd_law "law" = true) (k_law : PySem.W.keepIn K (.ref f_law) = true)
    {C_InvalidKind : Addr} (g_InvalidKind : PySem.W.nsIn K mainGlobals "InvalidKind" = some (some (.ref C_InvalidKind))) (kC_InvalidKind : PySem.W.keepIn K (.ref C_InvalidKind) = true) (q_InvalidKind : PySem.W.excIn K C_InvalidKind [.type "ValueError", .type "Exception", .type "BaseException", .type "object"] "ValueError.__new__" = true) (ex_InvalidKind : PySem.W.subIn K (.ref C_InvalidKind) (.type "BaseException") = some true) (ty_InvalidKind : PySem.W.typeIn K (.ref C_InvalidKind) = some (.type "type"))
    {C_InvalidSeen : Addr} (g_InvalidSeen : PySem.W.nsIn K mainGlobals "InvalidSeen" = some (some (.ref C_InvalidSeen))) (kC_InvalidSeen : PySem.W.keepIn K (.ref C_InvalidSeen) = true) (q_InvalidSeen : PySem.W.excIn K C_InvalidSeen [.type "ValueError", .type "Exception", .type "BaseException", .type "object"] "ValueError.__new__" = true) (ex_InvalidSeen : PySem.W.subIn K (.ref C_InvalidSeen) (.type "BaseException") = some true) (ty_InvalidSeen : PySem.W.typeIn K (.ref C_InvalidSeen) = some (.type "type"))
    {C_InvalidPrices : Addr} (g_InvalidPrices : PySem.W.nsIn K mainGlobals "InvalidPrices" = some (some (.ref C_InvalidPrices))) (kC_InvalidPrices : PySem.W.keepIn K (.ref C_InvalidPrices) = true) (q_InvalidPrices : PySem.W.excIn K C_InvalidPrices [.type "ValueError", .type "Exception", .type "BaseException", .type "object"] "ValueError.__new__" = true) (ex_InvalidPrices : PySem.W.subIn K (.ref C_InvalidPrices) (.type "BaseException") = some true) (ty_InvalidPrices : PySem.W.typeIn K (.ref C_InvalidPrices) = some (.type "type"))
    {C_InvalidPrice : Addr} (g_InvalidPrice : PySem.W.nsIn K mainGlobals "InvalidPrice" = some (some (.ref C_InvalidPrice))) (kC_InvalidPrice : PySem.W.keepIn K (.ref C_InvalidPrice) = true) (q_InvalidPrice : PySem.W.excIn K C_InvalidPrice [.type "ValueError", .type "Exception", .type "BaseException", .type "object"] "ValueError.__new__" = true) (ex_InvalidPrice : PySem.W.subIn K (.ref C_InvalidPrice) (.type "BaseException") = some true) (ty_InvalidPrice : PySem.W.typeIn K (.ref C_InvalidPrice) = some (.type "type"))
    {t_MOST_SHOPS : Nat} (g_MOST_SHOPS : PySem.W.nsIn K mainGlobals "MOST_SHOPS" = some (some (.int (6) t_MOST_SHOPS)))
    {t__MOST_SEEN : Nat} (g__MOST_SEEN : PySem.W.nsIn K mainGlobals "_MOST_SEEN" = some (some (.int (50) t__MOST_SEEN)))
    (z_len : PySem.W.nsIn K mainGlobals "len" = some none)
    (z_abs : PySem.W.nsIn K mainGlobals "abs" = some none)
    (z_all : PySem.W.nsIn K mainGlobals "all" = some none)
    (z_any : PySem.W.nsIn K mainGlobals "any" = some none)
    (z_max : PySem.W.nsIn K mainGlobals "max" = some none)
    (z_min : PySem.W.nsIn K mainGlobals "min" = some none)
    (z_str : PySem.W.nsIn K mainGlobals "str" = some none)
    (z_int : PySem.W.nsIn K mainGlobals "int" = some none)
    (z_tuple : PySem.W.nsIn K mainGlobals "tuple" = some none)
    (z_list : PySem.W.nsIn K mainGlobals "list" = some none)
    (z_sorted : PySem.W.nsIn K mainGlobals "sorted" = some none)
    (z_isinstance : PySem.W.nsIn K mainGlobals "isinstance" = some none)
    (z_range : PySem.W.nsIn K mainGlobals "range" = some none)
    (z_enumerate : PySem.W.nsIn K mainGlobals "enumerate" = some none)
    (z_zip : PySem.W.nsIn K mainGlobals "zip" = some none)
    (z_bool : PySem.W.nsIn K mainGlobals "bool" = some none)
    (z_set : PySem.W.nsIn K mainGlobals "set" = some none)
    {C_SpinError : Addr} (g_SpinError : PySem.W.nsIn K mainGlobals "SpinError" = some (some (.ref C_SpinError)))
    (z_ValueError : PySem.W.nsIn K mainGlobals "ValueError" = some none)
    (kt : kitTab K [C_InvalidKind, C_InvalidSeen, C_InvalidPrices, C_InvalidPrice] C_SpinError = true) :
    ∃ fd : FuncData, (∀ (s : Shared) (v : Value), BindsTo s fd ⟨[v], []⟩ [("script", v)]) ∧ ∀ base : Heap, K.In base → base.Ns mainGlobals mg → FnOk l.prog w K mg base CX0 25 fa fd ["script"] (spLaw K) := by
  have e := hfa.symm.trans (PySem.W.mg_of X G a_law)
  cases e
  let cl : Nat → Addr := fun i => match i with | 0 => C_InvalidKind | 1 => C_InvalidSeen | 2 => C_InvalidPrices | _ => C_InvalidPrice
  let T : TopD K mg := {
    _law_source := { f := _, fd := _, F := fun_mk l__law_source c__law_source k__law_source, g := PySem.W.mg_of X G a__law_source, b := (fun_mk l__law_source c__law_source k__law_source).binds (ps := ["script"]) fun _ _ _ _ _ _ us hl => match us, hl with | [_], _ => rfl },
    _law_draw := { f := _, fd := _, F := fun_mk l__law_draw c__law_draw k__law_draw, g := PySem.W.mg_of X G a__law_draw, b := (fun_mk l__law_draw c__law_draw k__law_draw).binds (ps := ["source", "limit"]) fun _ _ _ _ _ _ us hl => match us, hl with | [_, _], _ => rfl },
    n_len := PySem.W.mg_none_of X G z_len, n_abs := PySem.W.mg_none_of X G z_abs, n_range := PySem.W.mg_none_of X G z_range, n_int := PySem.W.mg_none_of X G z_int }
  let Z : Kinds K mg cl := { S := C_SpinError, gS := PySem.W.mg_of X G g_SpinError, kit := kit_of_tab kt, n_ValueError := PySem.W.mg_none_of X G z_ValueError }
  let A__law_great : AtN K mg "_law_great" D_great.nm D_great.st D_great.ps := { f := _, fd := _, F := fun_mk l__law_great c__law_great k__law_great, g := PySem.W.mg_of X G a__law_great, b := (fun_mk l__law_great c__law_great k__law_great).binds (ps := ["source", "digits"]) fun _ _ _ _ _ _ us hl => match us, hl with | [_, _], _ => rfl }
  let A__law_pick : AtN K mg "_law_pick" D_pick.nm D_pick.st D_pick.ps := { f := _, fd := _, F := fun_mk l__law_pick c__law_pick k__law_pick, g := PySem.W.mg_of X G a__law_pick, b := (fun_mk l__law_pick c__law_pick k__law_pick).binds (ps := ["source", "values"]) fun _ _ _ _ _ _ us hl => match us, hl with | [_, _], _ => rfl }
  let A__law_bent : AtN K mg "_law_bent" D_bent.nm D_bent.st D_bent.ps := { f := _, fd := _, F := fun_mk l__law_bent c__law_bent k__law_bent, g := PySem.W.mg_of X G a__law_bent, b := (fun_mk l__law_bent c__law_bent k__law_bent).binds (ps := ["source", "seen", "prices"]) fun _ _ _ _ _ _ us hl => match us, hl with | [_, _, _], _ => rfl }
  let A__law_word : AtN K mg "_law_word" D_word.nm D_word.st D_word.ps := { f := _, fd := _, F := fun_mk l__law_word c__law_word k__law_word, g := PySem.W.mg_of X G a__law_word, b := (fun_mk l__law_word c__law_word k__law_word).binds (ps := ["way", "kind", "seen", "prices"]) fun _ _ _ _ _ _ us hl => match us, hl with | [_, _, _, _], _ => rfl }
  let A_law : AtN K mg "law" D_law.nm D_law.st D_law.ps := { f := _, fd := _, F := fun_mk l_law c_law k_law, g := PySem.W.mg_of X G a_law, b := (fun_mk l_law c_law k_law).binds (ps := ["script"]) fun _ _ _ _ _ _ us hl => match us, hl with | [_], _ => rfl }
  have hd : ∀ e ∈ dfs, Nonempty (AtN K mg e.1 e.2.nm e.2.st e.2.ps) := by
    intro e he
    simp only [dfs, List.mem_cons, List.not_mem_nil, or_false] at he
    rcases he with rfl | rfl | rfl | rfl | rfl | rfl | rfl | rfl | rfl | rfl | rfl | rfl | rfl | rfl | rfl | rfl | rfl | rfl | rfl
    · exact ⟨{ f := _, fd := _, F := fun_mk l_is_int c_is_int k_is_int, g := PySem.W.mg_of X G a_is_int, b := (fun_mk l_is_int c_is_int k_is_int).binds (ps := ["value"]) fun _ _ _ _ _ _ us hl => match us, hl with | [_], _ => rfl }⟩
    · exact ⟨{ f := _, fd := _, F := fun_mk l_is_int_list c_is_int_list k_is_int_list, g := PySem.W.mg_of X G a_is_int_list, b := (fun_mk l_is_int_list c_is_int_list k_is_int_list).binds (ps := ["value", "fewest", "greatest"]) fun _ _ _ _ _ _ us hl => match us, hl with | [_, _, _], _ => rfl }⟩
    · exact ⟨{ f := _, fd := _, F := fun_mk l_check_prices c_check_prices k_check_prices, g := PySem.W.mg_of X G a_check_prices, b := (fun_mk l_check_prices c_check_prices k_check_prices).binds (ps := ["prices", "many"]) fun _ _ _ _ _ _ us hl => match us, hl with | [_, _], _ => rfl }⟩
    · exact ⟨{ f := _, fd := _, F := fun_mk l_fit_rule c_fit_rule k_fit_rule, g := PySem.W.mg_of X G a_fit_rule, b := (fun_mk l_fit_rule c_fit_rule k_fit_rule).binds (ps := ["kind", "seen"]) fun _ _ _ _ _ _ us hl => match us, hl with | [_, _], _ => rfl }⟩
    · exact ⟨{ f := _, fd := _, F := fun_mk l_foretell c_foretell k_foretell, g := PySem.W.mg_of X G a_foretell, b := (fun_mk l_foretell c_foretell k_foretell).binds (ps := ["kind", "seen", "prices"]) fun _ _ _ _ _ _ us hl => match us, hl with | [_, _, _], _ => rfl }⟩
    · exact ⟨{ f := _, fd := _, F := fun_mk l__check_seen c__check_seen k__check_seen, g := PySem.W.mg_of X G a__check_seen, b := (fun_mk l__check_seen c__check_seen k__check_seen).binds (ps := ["kind", "seen"]) fun _ _ _ _ _ _ us hl => match us, hl with | [_, _], _ => rfl }⟩
    · exact ⟨{ f := _, fd := _, F := fun_mk l__is_sight c__is_sight k__is_sight, g := PySem.W.mg_of X G a__is_sight, b := (fun_mk l__is_sight c__is_sight k__is_sight).binds (ps := ["value"]) fun _ _ _ _ _ _ us hl => match us, hl with | [_], _ => rfl }⟩
    · exact ⟨{ f := _, fd := _, F := fun_mk l__sign c__sign k__sign, g := PySem.W.mg_of X G a__sign, b := (fun_mk l__sign c__sign k__sign).binds (ps := ["kind"]) fun _ _ _ _ _ _ us hl => match us, hl with | [_], _ => rfl }⟩
    · exact ⟨{ f := _, fd := _, F := fun_mk l__sights c__sights k__sights, g := PySem.W.mg_of X G a__sights, b := (fun_mk l__sights c__sights k__sights).binds (ps := ["sign", "seen"]) fun _ _ _ _ _ _ us hl => match us, hl with | [_, _], _ => rfl }⟩
    · exact ⟨{ f := _, fd := _, F := fun_mk l__line c__line k__line, g := PySem.W.mg_of X G a__line, b := (fun_mk l__line c__line k__line).binds (ps := ["sign", "prices"]) fun _ _ _ _ _ _ us hl => match us, hl with | [_, _], _ => rfl }⟩
    · exact ⟨{ f := _, fd := _, F := fun_mk l__least_adds c__least_adds k__least_adds, g := PySem.W.mg_of X G a__least_adds, b := (fun_mk l__least_adds c__least_adds k__least_adds).binds (ps := ["sights"]) fun _ _ _ _ _ _ us hl => match us, hl with | [_], _ => rfl }⟩
    · exact ⟨{ f := _, fd := _, F := fun_mk l__parts c__parts k__parts, g := PySem.W.mg_of X G a__parts, b := (fun_mk l__parts c__parts k__parts).binds (ps := ["adds", "line"]) fun _ _ _ _ _ _ us hl => match us, hl with | [_, _], _ => rfl }⟩
    · exact ⟨{ f := _, fd := _, F := fun_mk l__first_fault c__first_fault k__first_fault, g := PySem.W.mg_of X G a__first_fault, b := (fun_mk l__first_fault c__first_fault k__first_fault).binds (ps := ["sights"]) fun _ _ _ _ _ _ us hl => match us, hl with | [_], _ => rfl }⟩
    · exact ⟨{ f := _, fd := _, F := fun_mk l__where_told c__where_told k__where_told, g := PySem.W.mg_of X G a__where_told, b := (fun_mk l__where_told c__where_told k__where_told).binds (ps := ["adds", "sight", "asked"]) fun _ _ _ _ _ _ us hl => match us, hl with | [_, _, _], _ => rfl }⟩
    · exact ⟨{ f := _, fd := _, F := fun_mk l__law_is_whole c__law_is_whole k__law_is_whole, g := PySem.W.mg_of X G a__law_is_whole, b := (fun_mk l__law_is_whole c__law_is_whole k__law_is_whole).binds (ps := ["value"]) fun _ _ _ _ _ _ us hl => match us, hl with | [_], _ => rfl }⟩
    · exact ⟨{ f := _, fd := _, F := fun_mk l__law_is_row c__law_is_row k__law_is_row, g := PySem.W.mg_of X G a__law_is_row, b := (fun_mk l__law_is_row c__law_is_row k__law_is_row).binds (ps := ["value", "shops"]) fun _ _ _ _ _ _ us hl => match us, hl with | [_, _], _ => rfl }⟩
    · exact ⟨{ f := _, fd := _, F := fun_mk l__law_are_seen c__law_are_seen k__law_are_seen, g := PySem.W.mg_of X G a__law_are_seen, b := (fun_mk l__law_are_seen c__law_are_seen k__law_are_seen).binds (ps := ["value", "shops"]) fun _ _ _ _ _ _ us hl => match us, hl with | [_, _], _ => rfl }⟩
    · exact ⟨{ f := _, fd := _, F := fun_mk l__law_due c__law_due k__law_due, g := PySem.W.mg_of X G a__law_due, b := (fun_mk l__law_due c__law_due k__law_due).binds (ps := ["way", "kind", "seen", "prices"]) fun _ _ _ _ _ _ us hl => match us, hl with | [_, _, _, _], _ => rfl }⟩
    · exact ⟨{ f := _, fd := _, F := fun_mk l__law_fits c__law_fits k__law_fits, g := PySem.W.mg_of X G a__law_fits, b := (fun_mk l__law_fits c__law_fits k__law_fits).binds (ps := ["kind", "seen", "prices"]) fun _ _ _ _ _ _ us hl => match us, hl with | [_, _, _], _ => rfl }⟩
  have hi : ∀ e ∈ cInts, ∃ t, mg e.1 = some (.int e.2 t) := by
    intro e he
    simp only [cInts, List.mem_cons, List.not_mem_nil, or_false] at he
    rcases he with rfl | rfl
    · exact ⟨_, PySem.W.mg_of X G g_MOST_SHOPS⟩
    · exact ⟨_, PySem.W.mg_of X G g__MOST_SEEN⟩
  have hb : ∀ x ∈ bltL, mg x = none := by
    intro x hx
    simp only [bltL, List.mem_cons, List.not_mem_nil, or_false] at hx
    rcases hx with rfl | rfl | rfl | rfl | rfl | rfl | rfl | rfl | rfl | rfl | rfl | rfl | rfl | rfl | rfl | rfl | rfl
    · exact PySem.W.mg_none_of X G z_len
    · exact PySem.W.mg_none_of X G z_abs
    · exact PySem.W.mg_none_of X G z_all
    · exact PySem.W.mg_none_of X G z_any
    · exact PySem.W.mg_none_of X G z_max
    · exact PySem.W.mg_none_of X G z_min
    · exact PySem.W.mg_none_of X G z_str
    · exact PySem.W.mg_none_of X G z_int
    · exact PySem.W.mg_none_of X G z_tuple
    · exact PySem.W.mg_none_of X G z_list
    · exact PySem.W.mg_none_of X G z_sorted
    · exact PySem.W.mg_none_of X G z_isinstance
    · exact PySem.W.mg_none_of X G z_range
    · exact PySem.W.mg_none_of X G z_enumerate
    · exact PySem.W.mg_none_of X G z_zip
    · exact PySem.W.mg_none_of X G z_bool
    · exact PySem.W.mg_none_of X G z_set
  have hc : ∀ x i, cls x = some i → XCl K mg x (cl i) := by
    intro x i hx
    have hx2 : clss[i]? = some x := ixOf_get hx
    match i, hx2 with
    | 0, hx2 =>
      cases hx2
      exact { g := PySem.W.mg_of X G g_InvalidKind, k := kC_InvalidKind, q := q_InvalidKind, ex := ex_InvalidKind, ty := ty_InvalidKind }
    | 1, hx2 =>
      cases hx2
      exact { g := PySem.W.mg_of X G g_InvalidSeen, k := kC_InvalidSeen, q := q_InvalidSeen, ex := ex_InvalidSeen, ty := ty_InvalidSeen }
    | 2, hx2 =>
      cases hx2
      exact { g := PySem.W.mg_of X G g_InvalidPrices, k := kC_InvalidPrices, q := q_InvalidPrices, ex := ex_InvalidPrices, ty := ty_InvalidPrices }
    | 3, hx2 =>
      cases hx2
      exact { g := PySem.W.mg_of X G g_InvalidPrice, k := kC_InvalidPrice, q := q_InvalidPrice, ex := ex_InvalidPrice, ty := ty_InvalidPrice }
    | n + 4, hx2 => simp [clss] at hx2
  exact ⟨_, fun s v => .of_eq rfl, fun base _ _ => whole T Z A__law_word A__law_great A__law_pick A__law_bent A_law fun F hF => stands_of hd hi hb hc A__law_word hF⟩
end K68
open PySem PySem.W PyProof.Rows
set_option maxHeartbeats 0 in
theorem PySem.Challenge.cw_pricespin_k68_doors_of_what_was_seen_holds : PySem.Challenge.rw_pricespin_k68_doors_of_what_was_seen.Holds := by
  w_on; o_law; k_head; (case hw => w_witness2)
  k_fill
  refine L2.walk_of (l := PySem.Challenge.rw_pricespin_k68_doors_of_what_was_seen) (n := 63) (k := 25) (x := "script") (CX := fun _ => L2.CX0) (sp := fun w => PY.spLaw _) rfl (by decide) rfl ⟨rfl, by decide, by decide⟩ (fun w h Y => PySem.W.kIn_of Y) ?F (fun _ _ a ns hl _ hS => ⟨a, ns, rfl, hS, hl, fun _ => rfl⟩) (fun _ _ _ _ _ h => h)
  case F =>
    intro w mg fa h KX G hmg
    refine' K68.all_mk KX G hmg ?a_is_int ?l_is_int ?c_is_int ?k_is_int ?a_is_int_list ?l_is_int_list ?c_is_int_list ?k_is_int_list ?a_check_prices ?l_check_prices ?c_check_prices ?k_check_prices ?a_fit_rule ?l_fit_rule ?c_fit_rule ?k_fit_rule ?a_foretell ?l_foretell ?c_foretell ?k_foretell ?a__check_seen ?l__check_seen ?c__check_seen ?k__check_seen ?a__is_sight ?l__is_sight ?c__is_sight ?k__is_sight ?a__sign ?l__sign ?c__sign ?k__sign ?a__sights ?l__sights ?c__sights ?k__sights ?a__line ?l__line ?c__line ?k__line ?a__least_adds ?l__least_adds ?c__least_adds ?k__least_adds ?a__parts ?l__parts ?c__parts ?k__parts ?a__first_fault ?l__first_fault ?c__first_fault ?k__first_fault ?a__where_told ?l__where_told ?c__where_told ?k__where_told ?a__law_is_whole ?l__law_is_whole ?c__law_is_whole ?k__law_is_whole ?a__law_is_row ?l__law_is_row ?c__law_is_row ?k__law_is_row ?a__law_are_seen ?l__law_are_seen ?c__law_are_seen ?k__law_are_seen ?a__law_due ?l__law_due ?c__law_due ?k__law_due ?a__law_fits ?l__law_fits ?c__law_fits ?k__law_fits ?a__law_source ?l__law_source ?c__law_source ?k__law_source ?a__law_draw ?l__law_draw ?c__law_draw ?k__law_draw ?a__law_great ?l__law_great ?c__law_great ?k__law_great ?a__law_pick ?l__law_pick ?c__law_pick ?k__law_pick ?a__law_bent ?l__law_bent ?c__law_bent ?k__law_bent ?a__law_word ?l__law_word ?c__law_word ?k__law_word ?a_law ?l_law ?c_law ?k_law ?g_InvalidKind ?kC_InvalidKind ?q_InvalidKind ?ex_InvalidKind ?ty_InvalidKind ?g_InvalidSeen ?kC_InvalidSeen ?q_InvalidSeen ?ex_InvalidSeen ?ty_InvalidSeen ?g_InvalidPrices ?kC_InvalidPrices ?q_InvalidPrices ?ex_InvalidPrices ?ty_InvalidPrices ?g_InvalidPrice ?kC_InvalidPrice ?q_InvalidPrice ?ex_InvalidPrice ?ty_InvalidPrice ?g_MOST_SHOPS ?g__MOST_SEEN ?z_len ?z_abs ?z_all ?z_any ?z_max ?z_min ?z_str ?z_int ?z_tuple ?z_list ?z_sorted ?z_isinstance ?z_range ?z_enumerate ?z_zip ?z_bool ?z_set ?g_SpinError ?z_ValueError ?kt
    (case a_is_int => k_is)
    (case a_is_int_list => k_is)
    (case a_check_prices => k_is)
    (case a_fit_rule => k_is)
    (case a_foretell => k_is)
    (case a__check_seen => k_is)
    (case a__is_sight => k_is)
    (case a__sign => k_is)
    (case a__sights => k_is)
    (case a__line => k_is)
    (case a__least_adds => k_is)
    (case a__parts => k_is)
    (case a__first_fault => k_is)
    (case a__where_told => k_is)
    (case a__law_is_whole => k_is)
    (case a__law_is_row => k_is)
    (case a__law_are_seen => k_is)
    (case a__law_due => k_is)
    (case a__law_fits => k_is)
    (case a__law_source => k_is)
    (case a__law_draw => k_is)
    (case a__law_great => k_is)
    (case a__law_pick => k_is)
    (case a__law_bent => k_is)
    (case a__law_word => k_is)
    (case a_law => k_is)
    (case g_InvalidKind => k_is)
    (case g_InvalidSeen => k_is)
    (case g_InvalidPrices => k_is)
    (case g_InvalidPrice => k_is)
    (case g_SpinError => k_is)
    (case l_is_int => k_is)
    (case c_is_int => k_is)
    (case k_is_int => k_is)
    (case l_is_int_list => k_is)
    (case c_is_int_list => k_is)
    (case k_is_int_list => k_is)
    (case l_check_prices => k_is)
    (case c_check_prices => k_is)
    (case k_check_prices => k_is)
    (case l_fit_rule => k_is)
    (case c_fit_rule => k_is)
    (case k_fit_rule => k_is)
    (case l_foretell => k_is)
    (case c_foretell => k_is)
    (case k_foretell => k_is)
    (case l__check_seen => k_is)
    (case c__check_seen => k_is)
    (case k__check_seen => k_is)
    (case l__is_sight => k_is)
    (case c__is_sight => k_is)
    (case k__is_sight => k_is)
    (case l__sign => k_is)
    (case c__sign => k_is)
    (case k__sign => k_is)
    (case l__sights => k_is)
    (case c__sights => k_is)
    (case k__sights => k_is)
    (case l__line => k_is)
    (case c__line => k_is)
    (case k__line => k_is)
    (case l__least_adds => k_is)
    (case c__least_adds => k_is)
    (case k__least_adds => k_is)
    (case l__parts => k_is)
    (case c__parts => k_is)
    (case k__parts => k_is)
    (case l__first_fault => k_is)
    (case c__first_fault => k_is)
    (case k__first_fault => k_is)
    (case l__where_told => k_is)
    (case c__where_told => k_is)
    (case k__where_told => k_is)
    (case l__law_is_whole => k_is)
    (case c__law_is_whole => k_is)
    (case k__law_is_whole => k_is)
    (case l__law_is_row => k_is)
    (case c__law_is_row => k_is)
    (case k__law_is_row => k_is)
    (case l__law_are_seen => k_is)
    (case c__law_are_seen => k_is)
    (case k__law_are_seen => k_is)
    (case l__law_due => k_is)
    (case c__law_due => k_is)
    (case k__law_due => k_is)
    (case l__law_fits => k_is)
    (case c__law_fits => k_is)
    (case k__law_fits => k_is)
    (case l__law_source => k_is)
    (case c__law_source => k_is)
    (case k__law_source => k_is)
    (case l__law_draw => k_is)
    (case c__law_draw => k_is)
    (case k__law_draw => k_is)
    (case l__law_great => k_is)
    (case c__law_great => k_is)
    (case k__law_great => k_is)
    (case l__law_pick => k_is)
    (case c__law_pick => k_is)
    (case k__law_pick => k_is)
    (case l__law_bent => k_is)
    (case c__law_bent => k_is)
    (case k__law_bent => k_is)
    (case l__law_word => k_is)
    (case c__law_word => k_is)
    (case k__law_word => k_is)
    (case l_law => k_is)
    (case c_law => k_is)
    (case k_law => k_is)
    (case kC_InvalidKind => k_is)
    (case q_InvalidKind => k_exc)
    (case ex_InvalidKind => k_is)
    (case ty_InvalidKind => k_is)
    (case kC_InvalidSeen => k_is)
    (case q_InvalidSeen => k_exc)
    (case ex_InvalidSeen => k_is)
    (case ty_InvalidSeen => k_is)
    (case kC_InvalidPrices => k_is)
    (case q_InvalidPrices => k_exc)
    (case ex_InvalidPrices => k_is)
    (case ty_InvalidPrices => k_is)
    (case kC_InvalidPrice => k_is)
    (case q_InvalidPrice => k_exc)
    (case ex_InvalidPrice => k_is)
    (case ty_InvalidPrice => k_is)
    (case g_MOST_SHOPS => k_is)
    (case g__MOST_SEEN => k_is)
    (case z_len => k_is)
    (case z_abs => k_is)
    (case z_all => k_is)
    (case z_any => k_is)
    (case z_max => k_is)
    (case z_min => k_is)
    (case z_str => k_is)
    (case z_int => k_is)
    (case z_tuple => k_is)
    (case z_list => k_is)
    (case z_sorted => k_is)
    (case z_isinstance => k_is)
    (case z_range => k_is)
    (case z_enumerate => k_is)
    (case z_zip => k_is)
    (case z_bool => k_is)
    (case z_set => k_is)
    (case z_ValueError => k_is)
    (case kt => kernel_rfl)

