import PyProof.Rows.All
import Wide.All
import OpenK.AllK
import Wide.FinOn
import HandS.ForExc
import HandS.Comp
import HandS.Iter
import HandS.Dict
import HandS.Zip
import HandS.IsInst
import HandS.MakeKwOnly
import HandS.Wide
import HandS.ExcIs
import HandS.ExcField
import HandS.ExcValue
import HandS.RaiseMore
import HandS.Text
import HandS.StrMore
import HandS.Steps
import HandS.Walk
import HandS.More
import HandS.FStr
import HandS.Flow
import HandS.Strs
import HandS.Deep
import HandS.TupAny
import HandS.TupMul
import PyProof.P3In
import PyProof.CallFns
import PyProof.Rows.StrItems
import PyProof.StrLawsRepr
import KE.IntTextLaws
import KE.GoesZip
import KE.GoesMore
import HandS.Star
import HandS.TryOnly
import HandS.WrittenGet
import PySem.Challenge.RW_loggedruns_k86_questions_and_runs_writte
set_option Elab.async false
set_option linter.all false
set_option maxRecDepth 100000
set_option maxHeartbeats 4000000
/-! The data layer: values as data, what a block does as a function of data. -/
namespace L2.DD
open PySem PySem.Spec PyProof.Rows

/-! ### values as data -/
theorem sqL_same {K : PySem.W.Frag} {H H' : Hp} {a : Addr} {xs : List V} (h : SqL K H a xs) (s : Same H H') : SqL K H' a xs := by
  rcases h with h | h
  · rcases h with h | ⟨o, h⟩
    · exact .inl (.inl (s _ _ h))
    · exact .inl (.inr ⟨o, s _ _ h⟩)
  · exact .inr h
theorem sqT_same {K : PySem.W.Frag} {H H' : Hp} {a : Addr} {xs : List V} (h : SqT K H a xs) (s : Same H H') : SqT K H' a xs := by
  rcases h with h | h
  · rcases h with h | ⟨o, h⟩
    · exact .inl (.inl (s _ _ h))
    · exact .inl (.inr ⟨o, s _ _ h⟩)
  · exact .inr h
mutual
inductive DR (K : PySem.W.Frag) (H : Hp) : V → PyData → Prop
  | non : DR K H .non .none
  | bl (b : Bool) : DR K H (.bl b) (.bool b)
  | int (i : Int) : DR K H (.int i) (.int i)
  | str (x : Str) : DR K H (.str x) (.str x)
  | lst {a : Addr} {xs : List V} {ds : List PyData} : H a = some (.lst xs) → DRs K H xs ds → DR K H (.ref a) (.list ds)
  | tup {a : Addr} {xs : List V} {ds : List PyData} : SqT K H a xs → DRs K H xs ds → DR K H (.ref a) (.tuple ds)
  | dct {a : Addr} {xs : List (Key × V)} {ds : List (PyData × PyData)} : H a = some (.dK xs) → DRk K H xs ds → DR K H (.ref a) (.dict ds)
inductive DRs (K : PySem.W.Frag) (H : Hp) : List V → List PyData → Prop
  | nil : DRs K H [] []
  | cons {v : V} {vs : List V} {d : PyData} {ds : List PyData} : DR K H v d → DRs K H vs ds → DRs K H (v :: vs) (d :: ds)
inductive DRk (K : PySem.W.Frag) (H : Hp) : List (Key × V) → List (PyData × PyData) → Prop
  | nil : DRk K H [] []
  | int {i : Int} {v : V} {vs : List (Key × V)} {d : PyData} {ds : List (PyData × PyData)} : DR K H v d → DRk K H vs ds → DRk K H ((.inl i, v) :: vs) ((.int i, d) :: ds)
  | str {x : Str} {v : V} {vs : List (Key × V)} {d : PyData} {ds : List (PyData × PyData)} : DR K H v d → DRk K H vs ds → DRk K H ((.inr x, v) :: vs) ((.str x, d) :: ds)
end
section
variable {K : PySem.W.Frag} {H H' : Hp}
mutual
theorem DR.same (k : Same H H') : ∀ (d : PyData) (v : V), DR K H v d → DR K H' v d
  | .none, _, h => by cases h; exact .non
  | .bool _, _, h => by cases h; exact .bl _
  | .int _, _, h => by cases h; exact .int _
  | .str _, _, h => by cases h; exact .str _
  | .list ds, _, h => by cases h with | lst e q => exact .lst (k _ _ e) (DRs.same k ds _ q)
  | .tuple ds, _, h => by cases h with | tup e q => exact .tup (sqT_same e k) (DRs.same k ds _ q)
  | .dict ds, _, h => by cases h with | dct e q => exact .dct (k _ _ e) (DRk.same k ds _ q)
theorem DRs.same (k : Same H H') : ∀ (ds : List PyData) (vs : List V), DRs K H vs ds → DRs K H' vs ds
  | [], _, h => by cases h; exact .nil
  | d :: ds, _, h => by cases h with | cons a b => exact .cons (DR.same k d _ a) (DRs.same k ds _ b)
theorem DRk.same (k : Same H H') : ∀ (ds : List (PyData × PyData)) (vs : List (Key × V)), DRk K H vs ds → DRk K H' vs ds
  | [], _, h => by cases h; exact .nil
  | (x, d) :: ds, _, h => by
    cases h with
    | int a b => exact .int (DR.same k d _ a) (DRk.same k ds _ b)
    | str a b => exact .str (DR.same k d _ a) (DRk.same k ds _ b)
end
theorem DRs.length : ∀ {vs : List V} {ds : List PyData}, DRs K H vs ds → vs.length = ds.length
  | [], [], _ => rfl
  | _ :: _, _ :: _, .cons _ b => congrArg (· + 1) (DRs.length b)
theorem DRs.get : ∀ {vs : List V} {ds : List PyData} {i : Nat} {d : PyData}, DRs K H vs ds → ds[i]? = some d → ∃ v, vs[i]? = some v ∧ DR K H v d
  | _, _, _, _, .nil, e => by simp at e
  | _, _, 0, _, .cons r _, e => by simp at e; subst e; exact ⟨_, rfl, r⟩
  | _, _, i + 1, d, .cons _ t, e => by
    obtain ⟨v, h1, h2⟩ := DRs.get (i := i) (d := d) t (by simpa using e)
    exact ⟨v, by simpa using h1, h2⟩
theorem DRs.append : ∀ {vs ws : List V} {ds es : List PyData}, DRs K H vs ds → DRs K H ws es → DRs K H (vs ++ ws) (ds ++ es)
  | _, _, _, _, .nil, s => s
  | _, _, _, _, .cons r t, s => .cons r (DRs.append t s)
theorem DRs.take : ∀ {vs : List V} {ds : List PyData} (n : Nat), DRs K H vs ds → DRs K H (vs.take n) (ds.take n)
  | _, _, 0, _ => .nil
  | _, _, _ + 1, .nil => .nil
  | _, _, n + 1, .cons r t => .cons r (DRs.take n t)
theorem DRs.drop : ∀ {vs : List V} {ds : List PyData} (n : Nat), DRs K H vs ds → DRs K H (vs.drop n) (ds.drop n)
  | _, _, 0, r => r
  | _, _, _ + 1, .nil => .nil
  | _, _, n + 1, .cons _ t => DRs.drop n t
/-- texts alone -/
theorem DRs.strs : ∀ (xs : List Str), DRs K H (xs.map V.str) (xs.map PyData.str)
  | [] => .nil
  | x :: xs => .cons (.str x) (DRs.strs xs)
theorem DRs.of_strs : ∀ {xs : List Str} {vs : List V}, DRs K H vs (xs.map PyData.str) → vs = xs.map V.str
  | [], _, h => by cases h; rfl
  | x :: xs, _, h => by
    cases h with
    | cons a b => cases a; rw [DRs.of_strs b]; rfl
theorem DRs.bools : ∀ (xs : List Bool), DRs K H (xs.map V.bl) (xs.map PyData.bool)
  | [] => .nil
  | x :: xs => .cons (.bl x) (DRs.bools xs)
theorem DRs.of_bools : ∀ {xs : List Bool} {vs : List V}, DRs K H vs (xs.map PyData.bool) → vs = xs.map V.bl
  | [], _, h => by cases h; rfl
  | x :: xs, _, h => by
    cases h with
    | cons a b => cases a; rw [DRs.of_bools b]; rfl
end
/-! no dict within -/
mutual
def noDict : PyData → Bool
  | .list ds => noDicts ds
  | .tuple ds => noDicts ds
  | .dict _ => false
  | _ => true
def noDicts : List PyData → Bool
  | [] => true
  | d :: ds => noDict d && noDicts ds
end
section
variable {K : PySem.W.Frag} {H : Hp}
mutual
theorem DR.dp : ∀ (d : PyData) (v : V), noDict d = true → DR K H v d → Dp K H v d
  | .none, _, _, h => by cases h; exact .non
  | .bool _, _, _, h => by cases h; exact .bl _
  | .int _, _, _, h => by cases h; exact .int _
  | .str _, _, _, h => by cases h; exact .str _
  | .list ds, _, n, h => by cases h with | lst e q => exact .lst (.inl (.inl e)) (DRs.dp ds _ n q)
  | .tuple ds, _, n, h => by cases h with | tup e q => exact .tup e (DRs.dp ds _ n q)
  | .dict _, _, n, _ => nomatch n
theorem DRs.dp : ∀ (ds : List PyData) (vs : List V), noDicts ds = true → DRs K H vs ds → DpAll K H vs ds
  | [], _, _, h => by cases h; exact .nil
  | d :: ds, _, n, h => by
    have n2 : (noDict d && noDicts ds) = true := n
    rw [Bool.and_eq_true] at n2
    cases h with | cons a b => exact .cons (DR.dp d _ n2.1 a) (DRs.dp ds _ n2.2 b)
end
end

/-- a value: data, or a thing known by its address alone -/
inductive Dv where
  | d (x : PyData)
  | o (v : V)
/-- what a name holds: a value, or a list that nothing else holds -/
inductive Sv where
  | v (x : Dv)
  | own (xs : List PyData)
abbrev En := List (Option Sv)
def RV (K : PySem.W.Frag) (G : Hp) (v : V) : Dv → Prop
  | .d x => DR K G v x
  | .o u => v = u
theorem RV.same {K : PySem.W.Frag} {G G' : Hp} {v : V} {x : Dv} (h : RV K G v x) (k : Same G G') : RV K G' v x := by
  cases x with
  | d x => exact DR.same k _ _ h
  | o u => exact h
abbrev RVs (K : PySem.W.Frag) (G : Hp) : List V → List Dv → Prop := Paired (RV K G)
theorem RVs.same {K : PySem.W.Frag} {G G' : Hp} (k : Same G G') : ∀ {vs : List V} {xs : List Dv}, RVs K G vs xs → RVs K G' vs xs
  | _, _, .nil => .nil
  | _, _, .cons a b => .cons (RV.same a k) (RVs.same k b)

/-! ### what is done with data -/
abbrev Wp (S α : Type) := (α → S → Prop) → S → Prop
def ret {S α : Type} (a : α) : Wp S α := fun Q s => Q a s
def bnd {S α β : Type} (w : Wp S α) (k : α → Wp S β) : Wp S β := fun Q s => w (fun a s' => k a Q s') s
def get {S α : Type} (o : Option α) : Wp S α := fun Q s => ∃ a, o = some a ∧ Q a s
def ask {S : Type} (p : Prop) : Wp S Unit := fun Q s => p ∧ Q () s
def cond {S α : Type} (b : Bool) (w u : Wp S α) : Wp S α := fun Q s => if b = true then w Q s else u Q s

/-! ### the frame -/
structure Bx (S : Type) where
  K : PySem.W.Frag
  O : Addr → Prop
  St : S → Hp → Prop
  G0 : Hp
  H0 : Hp
  stable : ∀ s H H', St s H → (∀ b, O b → H' b = H b) → St s H'
section
variable {S : Type} {B : Bx S}
/-- the data's part G of the heap H; s the state -/
structure Cc (B : Bx S) (G H : Hp) (s : S) : Prop where
  sub : Same G H
  off : ∀ b, B.O b → G b = none ∧ H b ≠ none
  st : B.St s H
  h0 : ∀ b, B.H0 b ≠ none → H b ≠ none
  g0 : Same B.G0 G
  k0 : ∀ b o, ¬ B.O b → B.H0 b = some o → H b = some o
  f0 : ∀ b, B.H0 b ≠ none → B.G0 b = none → G b = none
/-- what may come -/
structure Ex (B : Bx S) (G H G' H' : Hp) : Prop where
  gg : Same G G'
  keep : ∀ b o, ¬ B.O b → H b = some o → H' b = some o
  fresh : ∀ b, H b ≠ none → G b = none → G' b = none
  alive : ∀ b, H b ≠ none → H' b ≠ none
theorem Ex.refl (G H : Hp) : Ex B G H G H := ⟨Same.refl G, fun _ _ _ h => h, fun _ _ h => h, fun _ h => h⟩
theorem Ex.trans {G H G1 H1 G2 H2 : Hp} (a : Ex B G H G1 H1) (b : Ex B G1 H1 G2 H2) : Ex B G H G2 H2 :=
  ⟨a.gg.trans b.gg, fun c o n h => b.keep c o n (a.keep c o n h), fun c h1 h2 => b.fresh c (a.alive c h1) (a.fresh c h1 h2), fun c h => b.alive c (a.alive c h)⟩
theorem Cc.gnone {G H : Hp} {s : S} (c : Cc B G H s) {p : Addr} (hp : H p = none) : G p = none := by
  rcases e : G p with _ | u
  · rfl
  · have := c.sub _ _ e
    rw [hp] at this
    cases this
theorem Cc.onone {G H : Hp} {s : S} (c : Cc B G H s) {p : Addr} (hp : H p = none) : ¬ B.O p := fun h => (c.off p h).2 hp
theorem Cc.hnone {G H : Hp} {s : S} (c : Cc B G H s) {p : Addr} (hp : H p = none) : B.H0 p = none := by
  rcases e : B.H0 p with _ | u
  · rfl
  · exact absurd hp (c.h0 p (by rw [e]; simp))
/-- another thing at p, where no data and nothing of the beginning stands -/
theorem Cc.put {G H : Hp} {s : S} {p : Addr} {o : HO} (c : Cc B G H s) (gp : G p = none) (ho : ¬ B.O p) (h0 : B.H0 p = none) : Cc B G (upd H p o) s := by
  refine ⟨fun b u e => ?_, fun b hb => ?_, B.stable _ _ _ c.st fun b hb => ?_, fun b hb => ?_, c.g0, fun b u hb e => ?_, c.f0⟩
  · rw [upd_ne (ne_of_none e gp)]
    exact c.sub _ _ e
  · have h : b ≠ p := fun z => ho (by rw [← z]; exact hb)
    rw [upd_ne h]
    exact c.off b hb
  · exact upd_ne fun z => ho (by rw [← z]; exact hb)
  · by_cases h : b = p
    · rw [h, upd_same]
      simp
    · rw [upd_ne h]
      exact c.h0 b hb
  · rw [upd_ne (ne_of_none e h0)]
    exact c.k0 b u hb e
/-- a new thing, not of the data -/
theorem Cc.side {G H : Hp} {s : S} {p : Addr} {o : HO} (c : Cc B G H s) (hp : H p = none) : Cc B G (upd H p o) s := c.put (c.gnone hp) (c.onone hp) (c.hnone hp)
/-- what stands at p is data from now on -/
theorem Cc.grab {G H : Hp} {s : S} {p : Addr} {o : HO} (c : Cc B G H s) (hp : H p = some o) (ho : ¬ B.O p) (gp : G p = none) (h0 : B.H0 p = none) : Cc B (upd G p o) H s := by
  refine ⟨fun b u e => ?_, fun b hb => ?_, c.st, c.h0, fun b u e => ?_, c.k0, fun b hb g => ?_⟩
  · by_cases h : b = p
    · subst h
      rw [upd_same] at e
      rw [hp]
      exact e
    · rw [upd_ne h] at e
      exact c.sub _ _ e
  · have h : b ≠ p := fun z => ho (by rw [← z]; exact hb)
    rw [upd_ne h]
    exact c.off b hb
  · rw [upd_ne (ne_of_none (c.g0 _ _ e) gp)]
    exact c.g0 _ _ e
  · have h : b ≠ p := fun z => hb (by rw [z]; exact h0)
    rw [upd_ne h]
    exact c.f0 b hb g
/-- a new thing, of the data -/
theorem Cc.new {G H : Hp} {s : S} {p : Addr} {o : HO} (c : Cc B G H s) (hp : H p = none) : Cc B (upd G p o) (upd H p o) s := (c.side hp).grab upd_same (c.onone hp) (c.gnone hp) (c.hnone hp)
theorem Ex.new {G H : Hp} {s : S} {p : Addr} {o : HO} (c : Cc B G H s) (hp : H p = none) : Ex B G H (upd G p o) (upd H p o) := by
  have gp : G p = none := by
    rcases e : G p with _ | u
    · rfl
    · have := c.sub _ _ e
      rw [hp] at this
      cases this
  refine ⟨fun b u e => ?_, fun b u _ e => ?_, fun b h1 h2 => ?_, fun b h => ?_⟩
  · rw [upd_ne (ne_of_none e gp)]
    exact e
  · rw [upd_ne (ne_of_none e hp)]
    exact e
  · have h : b ≠ p := fun z => h1 (by rw [z]; exact hp)
    rw [upd_ne h]
    exact h2
  · by_cases e : b = p
    · rw [e, upd_same]
      simp
    · rw [upd_ne e]
      exact h
theorem Ex.side {G H : Hp} {p : Addr} {o : HO} (hp : H p = none) : Ex B G H G (upd H p o) :=
  ⟨Same.refl G, fun b u _ e => by rw [upd_ne (ne_of_none e hp)]; exact e, fun _ _ h => h, fun b h => by
    by_cases e : b = p
    · rw [e, upd_same]
      simp
    · rw [upd_ne e]
      exact h⟩
/-- a list that nothing else holds -/
def OwnAt (B : Bx S) (G H : Hp) (p : Addr) (xs : List PyData) : Prop := ∃ vs, H p = some (.lst vs) ∧ G p = none ∧ ¬ B.O p ∧ B.H0 p = none ∧ DRs B.K G vs xs
theorem OwnAt.ex {G H G' H' : Hp} {p : Addr} {xs : List PyData} (h : OwnAt B G H p xs) (e : Ex B G H G' H') : OwnAt B G' H' p xs := by
  obtain ⟨vs, h1, h2, h3, h4, h5⟩ := h
  exact ⟨vs, e.keep _ _ h3 h1, e.fresh _ (by rw [h1]; simp) h2, h3, h4, DRs.same e.gg _ _ h5⟩
/-- the names hold these -/
structure Rep (B : Bx S) (G H : Hp) (σ : L2.St) (env : En) : Prop where
  len : env.length = σ.length
  val : ∀ (i : Nat) (x : Dv), env[i]? = some (some (.v x)) → ∃ v, σ[i]? = some (some v) ∧ RV B.K G v x
  own : ∀ (i : Nat) (xs : List PyData), env[i]? = some (some (.own xs)) → ∃ p, σ[i]? = some (some (.ref p)) ∧ OwnAt B G H p xs
  apart : ∀ (i j : Nat) (xs ys : List PyData) (p : Addr), i ≠ j → env[i]? = some (some (.own xs)) → env[j]? = some (some (.own ys)) → σ[i]? = some (some (.ref p)) → σ[j]? ≠ some (some (.ref p))
theorem Rep.ex {G H G' H' : Hp} {σ : L2.St} {env : En} (r : Rep B G H σ env) (e : Ex B G H G' H') : Rep B G' H' σ env := by
  refine ⟨r.len, fun i x h => ?_, fun i xs h => ?_, r.apart⟩
  · obtain ⟨v, h1, h2⟩ := r.val i x h
    exact ⟨v, h1, h2.same e.gg⟩
  · obtain ⟨p, h1, h2⟩ := r.own i xs h
    exact ⟨p, h1, h2.ex e⟩

/-! ### the judgements -/
def tD (B : Bx S) (w : En → Wp S Dv) : TE := fun σ H Q => ∃ G env s R, Cc B G H s ∧ Rep B G H σ env ∧ w env R s ∧
  ∀ x s' v G' H', R x s' → Cc B G' H' s' → Ex B G H G' H' → RV B.K G' v x → Q v H'
def tDb (B : Bx S) (w : En → Wp S Bool) : TT := fun σ H Q => ∃ G env s R, Cc B G H s ∧ Rep B G H σ env ∧ w env R s ∧
  ∀ x s' G' H', R x s' → Cc B G' H' s' → Ex B G H G' H' → Q x H'
def tDa (B : Bx S) (w : En → Wp S (List Dv)) : TA := fun σ H Q => ∃ G env s R, Cc B G H s ∧ Rep B G H σ env ∧ w env R s ∧
  ∀ x s' v G' H', R x s' → Cc B G' H' s' → Ex B G H G' H' → RVs B.K G' v x → Q v H'
/-- a new list -/
def tDf (B : Bx S) (w : En → Wp S (List PyData)) : TE := fun σ H Q => ∃ G env s R, Cc B G H s ∧ Rep B G H σ env ∧ w env R s ∧
  ∀ xs s' p vs G' H', R xs s' → H p = none → G' p = none → H' p = some (.lst vs) → DRs B.K G' vs xs → Cc B G' H' s' → Ex B G H G' H' → Q (.ref p) H'
inductive Fl where
  | nx (env : En)
  | rt (x : Dv)
  | bk (env : En)
  | ct (env : En)
def tDs (B : Bx S) (w : En → Wp S Fl) : TS := fun D σ H => ∃ G env s R, Cc B G H s ∧ Rep B G H σ env ∧ w env R s ∧
  (∀ env' s' σ' G' H', R (.nx env') s' → Cc B G' H' s' → Same G G' → Rep B G' H' σ' env' → D.nx σ' H') ∧
  (∀ x s' v G' H', R (.rt x) s' → Cc B G' H' s' → Same G G' → RV B.K G' v x → D.rt v H') ∧
  (∀ env' s' σ' G' H', R (.bk env') s' → Cc B G' H' s' → Same G G' → Rep B G' H' σ' env' → D.bk σ' H') ∧
  (∀ env' s' σ' G' H', R (.ct env') s' → Cc B G' H' s' → Same G G' → Rep B G' H' σ' env' → D.ct σ' H')
structure DE (B : Bx S) (X : Cx) (e : Expr) (w : En → Wp S Dv) : Prop where
  k : X.K = B.K
  pe : PE X e (tD B w)
structure DT (B : Bx S) (X : Cx) (e : Expr) (w : En → Wp S Bool) : Prop where
  k : X.K = B.K
  pt : PT X e (tDb B w)
structure DW (B : Bx S) (X : Cx) (e : Expr) (w : En → Wp S Bool) : Prop where
  k : X.K = B.K
  pw : PW X e (tDb B w)
structure DA (B : Bx S) (X : Cx) (es : List Expr) (w : En → Wp S (List Dv)) : Prop where
  k : X.K = B.K
  pa : PA X es (tDa B w)
structure DF (B : Bx S) (X : Cx) (e : Expr) (w : En → Wp S (List PyData)) : Prop where
  k : X.K = B.K
  pe : PE X e (tDf B w)
structure DS (B : Bx S) (X : Cx) (st : Stmt) (w : En → Wp S Fl) : Prop where
  k : X.K = B.K
  ps : PS X st (tDs B w)
structure DSs (B : Bx S) (X : Cx) (sts : List Stmt) (w : En → Wp S Fl) : Prop where
  k : X.K = B.K
  pss : PSs X sts (tDs B w)
theorem pe_mono {X : Cx} {e : Expr} {t t' : TE} (h : PE X e t) (m : ∀ σ H Q, t' σ H Q → t σ H Q) : PE X e t' := ⟨fun pins s σ H Q I q => h.run pins s σ H Q I (m σ H Q q)⟩
theorem pt_mono {X : Cx} {e : Expr} {t t' : TT} (h : PT X e t) (m : ∀ σ H Q, t' σ H Q → t σ H Q) : PT X e t' := ⟨fun pins s σ H Q I q => h.run pins s σ H Q I (m σ H Q q)⟩
theorem pw_mono {X : Cx} {e : Expr} {t t' : TT} (h : PW X e t) (m : ∀ σ H Q, t' σ H Q → t σ H Q) : PW X e t' := ⟨fun wh pins s σ H Q I q => h.run wh pins s σ H Q I (m σ H Q q)⟩
theorem pa_mono {X : Cx} {e : List Expr} {t t' : TA} (h : PA X e t) (m : ∀ σ H Q, t' σ H Q → t σ H Q) : PA X e t' := ⟨fun pos pins s σ H Q I q => h.run pos pins s σ H Q I (m σ H Q q)⟩
theorem ps_mono {X : Cx} {e : Stmt} {t t' : TS} (h : PS X e t) (m : ∀ σ H Q, t' Q σ H → t Q σ H) : PS X e t' := ⟨fun pins s σ H Q I q => h.run pins s σ H Q I (m σ H Q q)⟩
theorem pss_mono {X : Cx} {e : List Stmt} {t t' : TS} (h : PSs X e t) (m : ∀ σ H Q, t' Q σ H → t Q σ H) : PSs X e t' := ⟨fun pins s σ H Q I q => h.run pins s σ H Q I (m σ H Q q)⟩

/-! ### bricks -/
theorem tD_of {G H : Hp} {s : S} {σ : L2.St} {env : En} {w : En → Wp S Dv} {R : Dv → S → Prop} {Q : VK} (c : Cc B G H s) (r : Rep B G H σ env) (h : w env R s)
    (q : ∀ x s1 v G1 H1, R x s1 → Cc B G1 H1 s1 → Ex B G H G1 H1 → Rep B G1 H1 σ env → RV B.K G1 v x → Q v H1) : tD B w σ H Q :=
  ⟨G, env, s, R, c, r, h, fun x s1 v G1 H1 h1 h2 h3 h4 => q x s1 v G1 H1 h1 h2 h3 (r.ex h3) h4⟩
theorem tDb_of {G H : Hp} {s : S} {σ : L2.St} {env : En} {w : En → Wp S Bool} {R : Bool → S → Prop} {Q : Bool → Hp → Prop} (c : Cc B G H s) (r : Rep B G H σ env) (h : w env R s)
    (q : ∀ x s1 G1 H1, R x s1 → Cc B G1 H1 s1 → Ex B G H G1 H1 → Rep B G1 H1 σ env → Q x H1) : tDb B w σ H Q :=
  ⟨G, env, s, R, c, r, h, fun x s1 G1 H1 h1 h2 h3 => q x s1 G1 H1 h1 h2 h3 (r.ex h3)⟩
theorem tDa_of {G H : Hp} {s : S} {σ : L2.St} {env : En} {w : En → Wp S (List Dv)} {R : List Dv → S → Prop} {Q : List V → Hp → Prop} (c : Cc B G H s) (r : Rep B G H σ env) (h : w env R s)
    (q : ∀ x s1 v G1 H1, R x s1 → Cc B G1 H1 s1 → Ex B G H G1 H1 → Rep B G1 H1 σ env → RVs B.K G1 v x → Q v H1) : tDa B w σ H Q :=
  ⟨G, env, s, R, c, r, h, fun x s1 v G1 H1 h1 h2 h3 h4 => q x s1 v G1 H1 h1 h2 h3 (r.ex h3) h4⟩
end
end L2.DD

set_option maxRecDepth 100000
set_option maxHeartbeats 4000000
namespace L2.DD
open PySem PySem.Spec PyProof.Rows
section
variable {S : Type} {B : Bx S} {X : Cx}

/-! ### names, constants -/
def valAt (env : En) (i : Nat) : Option Dv := match env[i]? with
  | some (some (.v x)) => some x
  | _ => none
theorem valAt_some {env : En} {i : Nat} {x : Dv} (h : valAt env i = some x) : env[i]? = some (some (.v x)) := by
  unfold valAt at h
  split at h
  · rename_i y e
    cases h
    exact e
  · cases h
theorem de_var {i : Nat} {x : Str} {pos : Pos} (hK : X.K = B.K) (hN : X.N[i]? = some x) (hv : Vis X.env.scope x) (hd : (x == ("__debug__" : Str)) = false := by decide) (hcd : (x == ("__classdict__" : Str)) = false := by decide) : DE B X (.Name x pos) (fun env => get (valAt env i)) := by
  refine ⟨hK, pe_mono (pe_var hN hv hd hcd) ?_⟩
  rintro σ H Q ⟨G, env, s, R, c, r, ⟨x, e, hx⟩, q⟩
  obtain ⟨v, e1, rv⟩ := r.val i x (valAt_some e)
  exact ⟨v, e1, q x s v G H hx c (Ex.refl G H) rv⟩
theorem de_const {e : Expr} {v : V} {x : Dv} (hK : X.K = B.K) (hp : PE X e (tC v)) (hx : ∀ G, RV B.K G v x) : DE B X e (fun _ => ret x) := by
  refine ⟨hK, pe_mono hp ?_⟩
  rintro σ H Q ⟨G, env, s, R, c, r, h, q⟩
  exact q x s v G H h c (Ex.refl G H) (hx G)
theorem de_int (hK : X.K = B.K) {i : Int} {j : Nat} {pos : Pos} : DE B X (.Constant (.int i) j pos) (fun _ => ret (.d (.int i))) := de_const hK pe_int fun _ => .int i
theorem de_bl (hK : X.K = B.K) {b : Bool} {j : Nat} {pos : Pos} : DE B X (.Constant (.bool b) j pos) (fun _ => ret (.d (.bool b))) := de_const hK pe_bl fun _ => .bl b
theorem de_non (hK : X.K = B.K) {j : Nat} {pos : Pos} : DE B X (.Constant .none j pos) (fun _ => ret (.d .none)) := de_const hK pe_non fun _ => .non
theorem de_str (hK : X.K = B.K) {x : Str} {j : Nat} {pos : Pos} : DE B X (.Constant (.str x) j pos) (fun _ => ret (.d (.str x))) := de_const hK pe_str fun _ => .str x
/-- a name of the module -/
theorem de_glob {x : Str} {v : V} {u : Value} {pos : Pos} {d : Dv} (hK : X.K = B.K) (hg : Gl X x) (hm : X.mg x = some u) (r : RelV v u) (hx : ∀ G, RV B.K G v d) (hd : (x == ("__debug__" : Str)) = false := by decide) : DE B X (.Name x pos) (fun _ => ret d) :=
  de_const hK (pe_glob hg hm r hd) hx
/-- a built-in class, by its name -/
theorem de_cls {x : Str} {T : String} {pos : Pos} (hK : X.K = B.K) (hg : Gl X x) (hm : X.mg x = none) (hv : bootBuiltins x = some (.type T)) (hn : x ≠ "__name__" := by decide) (hd : (x == ("__debug__" : Str)) = false := by decide) : DE B X (.Name x pos) (fun _ => ret (.o (.ty T))) :=
  de_const hK (pe_bltn (v := .ty T) hg hm hv rfl hn hd) fun _ => rfl

/-! ### arguments, displays -/
theorem da_nil (hK : X.K = B.K) : DA B X [] (fun _ => ret []) := by
  refine ⟨hK, pa_mono pa_nil ?_⟩
  rintro σ H Q ⟨G, env, s, R, c, r, h, q⟩
  exact q [] s [] G H h c (Ex.refl G H) .nil
theorem da_cons {e : Expr} {es : List Expr} {w : En → Wp S Dv} {u : En → Wp S (List Dv)} (ha : DE B X e w) (hr : DA B X es u) (hs : starEach (e :: es) X.env = (false, eval e X.env) :: starEach es X.env := by rfl) :
    DA B X (e :: es) (fun env => bnd (w env) fun x => bnd (u env) fun xs => ret (x :: xs)) := by
  refine ⟨ha.k, pa_mono (pa_cons ha.pe hr.pa hs) ?_⟩
  rintro σ H Q ⟨G, env, s, R, c, r, h, q⟩
  refine tD_of c r h fun x s1 v G1 H1 h1 c1 e1 r1 rv => tDa_of c1 r1 h1 fun xs s2 vs G2 H2 h2 c2 e2 r2 rvs => ?_
  exact q _ s2 _ G2 H2 h2 c2 (e1.trans e2) (.cons (rv.same e2.gg) rvs)
def dataOf : Dv → Option PyData
  | .d x => some x
  | .o _ => none
def allData : List Dv → Option (List PyData)
  | [] => some []
  | .d x :: xs => (allData xs).map (x :: ·)
  | .o _ :: _ => none
theorem DRs.of_all {K : PySem.W.Frag} {G : Hp} : ∀ {vs : List V} {xs : List Dv} {ds : List PyData}, RVs K G vs xs → allData xs = some ds → DRs K G vs ds
  | _, _, _, .nil, h => by cases h; exact .nil
  | _, _, ds, .cons (b := y) (l₂ := ys) a b, h => by
    cases y with
    | d x =>
      have h : (allData ys).map (x :: ·) = some ds := h
      cases e : allData ys with
      | none => rw [e] at h; cases h
      | some es =>
        rw [e] at h
        obtain rfl : x :: es = ds := Option.some.inj h
        exact .cons a (DRs.of_all b e)
    | o u => exact nomatch h
theorem de_tup {es : List Expr} {w : En → Wp S (List Dv)} {x1} (h : DA B X es w) : DE B X (.Tuple es x1 pos) (fun env => bnd (w env) fun xs => bnd (get (allData xs)) fun ds => bnd (ask (ds.length ≤ sizeLine)) fun _ => ret (.d (.tuple ds))) := by
  refine ⟨h.k, pe_mono (pe_tup h.pa) ?_⟩
  rintro σ H Q ⟨G, env, s, R, c, r, hw, q⟩
  refine tDa_of c r hw fun xs s1 vs G1 H1 h1 c1 e1 r1 rvs => ?_
  obtain ⟨ds, hd, hl, h1⟩ := h1
  have rd := DRs.of_all rvs hd
  refine ⟨by rw [rd.length]; exact hl, fun p hp => ?_⟩
  exact q _ s1 _ _ _ h1 (c1.new hp) (e1.trans (Ex.new c1 hp)) (.tup (.inl (.inl upd_same)) (DRs.same (Ex.new c1 hp).gg _ _ rd))
theorem df_lst {es : List Expr} {w : En → Wp S (List Dv)} {pos : Pos} (h : DA B X es w) : DF B X (.List es pos) (fun env => bnd (w env) fun xs => bnd (get (allData xs)) fun ds => bnd (ask (ds.length ≤ sizeLine)) fun _ => ret ds) := by
  refine ⟨h.k, pe_mono (pe_lst h.pa) ?_⟩
  rintro σ H Q ⟨G, env, s, R, c, r, hw, q⟩
  refine tDa_of c r hw fun xs s1 vs G1 H1 h1 c1 e1 r1 rvs => ?_
  obtain ⟨ds, hd, hl, h1⟩ := h1
  have rd := DRs.of_all rvs hd
  refine ⟨by rw [rd.length]; exact hl, fun p hp => ?_⟩
  have hp0 : H p = none := by
    rcases e : H p with _ | u
    · rfl
    · exact absurd hp (e1.alive p (by rw [e]; simp))
  exact q ds s1 p vs G1 _ h1 hp0 (c1.gnone hp) upd_same rd (c1.side hp) (e1.trans (Ex.side hp))
/-- a new list as a value -/
theorem de_f {e : Expr} {w : En → Wp S (List PyData)} (h : DF B X e w) : DE B X e (fun env => bnd (w env) fun ds => ret (.d (.list ds))) := by
  refine ⟨h.k, pe_mono h.pe ?_⟩
  rintro σ H Q ⟨G, env, s, R, c, r, hw, q⟩
  refine ⟨G, env, s, _, c, r, hw, fun ds s1 p vs G1 H1 h1 hp gp hp1 rd c1 e1 => ?_⟩
  have no : ¬ B.O p := c.onone hp
  have sg : Same G1 (upd G1 p (.lst vs)) := fun b u e => by
    rw [upd_ne (ne_of_none e gp)]
    exact e
  refine q _ s1 _ _ _ h1 (c1.grab hp1 no gp (c.hnone hp)) ⟨e1.gg.trans sg, e1.keep, fun b hb gb => ?_, e1.alive⟩ (.lst upd_same (DRs.same sg _ _ rd))
  have h : b ≠ p := fun z => hb (by rw [z]; exact hp)
  rw [upd_ne h]
  exact e1.fresh b hb gb

/-! ### operators, calls, methods, subscripts by data -/
def OpD (B : Bx S) (X : Cx) (f : Value → Value → Sem Value) (g : Dv → Dv → Wp S Dv) : Prop := ∃ r : R2, OpR X f r ∧ ∀ (x y : Dv) (v u : V) (G H : Hp) (s : S) (R : Dv → S → Prop) (Q : VK), Cc B G H s → RV B.K G v x → RV B.K G u y → g x y R s →
  (∀ d s' z G' H', R d s' → Cc B G' H' s' → Ex B G H G' H' → RV B.K G' z d → Q z H') → r v u H Q
theorem OpD.or {f : Value → Value → Sem Value} {g1 g2 g : Dv → Dv → Wp S Dv} (a : OpD B X f g1) (b : OpD B X f g2) (h : ∀ x y R s, g x y R s → g1 x y R s ∨ g2 x y R s) : OpD B X f g := by
  obtain ⟨r1, o1, d1⟩ := a
  obtain ⟨r2, o2, d2⟩ := b
  refine ⟨fun x y H Q => r1 x y H Q ∨ r2 x y H Q, fun pins s σ H x y v u Q I rx ry h => ?_, fun x y v u G H s R Q c rv ru hg q => ?_⟩
  · rcases h with h | h
    · exact o1 pins s σ H x y v u Q I rx ry h
    · exact o2 pins s σ H x y v u Q I rx ry h
  · rcases h x y R s hg with hg | hg
    · exact .inl (d1 x y v u G H s R Q c rv ru hg q)
    · exact .inr (d2 x y v u G H s R Q c rv ru hg q)
theorem OpD.weak {f : Value → Value → Sem Value} {g1 g : Dv → Dv → Wp S Dv} (a : OpD B X f g1) (h : ∀ x y R s, g x y R s → g1 x y R s) : OpD B X f g := by
  obtain ⟨r1, o1, d1⟩ := a
  exact ⟨r1, o1, fun x y v u G H s R Q c rv ru hg q => d1 x y v u G H s R Q c rv ru (h x y R s hg) q⟩
def tw2 (wa wb : En → Wp S Dv) (g : Dv → Dv → Wp S Dv) : En → Wp S Dv := fun env => bnd (wa env) fun x => bnd (wb env) fun y => g x y
theorem de_2 {a b : Expr} {wa wb : En → Wp S Dv} {g : Dv → Dv → Wp S Dv} {r : R2} {σ : L2.St} {H : Hp} {Q : VK} (ha : DE B X a wa) (hb : DE B X b wb)
    (ho : ∀ (x y : Dv) (v u : V) (G H : Hp) (s : S) (R : Dv → S → Prop) (Q : VK), Cc B G H s → RV B.K G v x → RV B.K G u y → g x y R s → (∀ d s' z G' H', R d s' → Cc B G' H' s' → Ex B G H G' H' → RV B.K G' z d → Q z H') → r v u H Q)
    (h : tD B (fun env => bnd (wa env) fun x => bnd (wb env) fun y => g x y) σ H Q) : tOp r (tD B wa) (tD B wb) σ H Q := by
  obtain ⟨G, env, s, R, c, rp, h, q⟩ := h
  refine tD_of c rp h fun x s1 v G1 H1 h1 c1 e1 r1 rv => tD_of c1 r1 h1 fun y s2 u G2 H2 h2 c2 e2 r2 ru => ?_
  exact ho x y v u G2 H2 s2 R Q c2 (rv.same e2.gg) ru h2 fun d s' z G' H' k1 k2 k3 k4 => q d s' z G' H' k1 k2 ((e1.trans e2).trans k3) k4
theorem de_op {op : Operator} {a b : Expr} {wa wb : En → Wp S Dv} {g : Dv → Dv → Wp S Dv} {pos : Pos} (ho : OpD B X (binaryOp op) g) (ha : DE B X a wa) (hb : DE B X b wb) :
    DE B X (.BinOp a op b pos) (fun env => bnd (wa env) fun x => bnd (wb env) fun y => g x y) := by
  obtain ⟨r, o, d⟩ := ho
  exact ⟨ha.k, pe_mono (pe_op o ha.pe hb.pe) fun σ H Q h => de_2 ha hb d h⟩
theorem de_cmp {op : CmpOp} {a b : Expr} {wa wb : En → Wp S Dv} {g : Dv → Dv → Wp S Dv} {pos : Pos} (ho : OpD B X (compareOp op) g) (ha : DE B X a wa) (hb : DE B X b wb) (hm : behindInMarks op b = false) :
    DE B X (.Compare a [op] [b] pos) (fun env => bnd (wa env) fun x => bnd (wb env) fun y => g x y) := by
  obtain ⟨r, o, d⟩ := ho
  exact ⟨ha.k, pe_mono (pe_cmpR o ha.pe hb.pe hm) fun σ H Q h => de_2 ha hb d h⟩
def asBool : Dv → Option Bool
  | .d (.bool b) => some b
  | _ => none
theorem asBool_rv {K : PySem.W.Frag} {G : Hp} {v : V} {x : Dv} {b : Bool} (h : asBool x = some b) (r : RV K G v x) : v = .bl b := by
  cases x with
  | o u => cases h
  | d x =>
    cases x <;> cases h
    cases r
    rfl
/-- a comparison as a test -/
theorem dt_cmp {op : CmpOp} {a b : Expr} {wa wb : En → Wp S Dv} {g : Dv → Dv → Wp S Dv} {pos : Pos} (ho : OpD B X (compareOp op) g) (ha : DE B X a wa) (hb : DE B X b wb) (hm : behindInMarks op b = false) :
    DT B X (.Compare a [op] [b] pos) (fun env => bnd (bnd (wa env) fun x => bnd (wb env) fun y => g x y) fun z => get (asBool z)) := by
  obtain ⟨r, o, d⟩ := ho
  refine ⟨ha.k, pt_mono (pt_cmpR o ha.pe hb.pe hm) ?_⟩
  rintro σ H Q ⟨G, env, s, R, c, rp, h, q⟩
  refine de_2 ha hb d ⟨G, env, s, _, c, rp, h, ?_⟩
  rintro x s' v G' H' ⟨b, e, h1⟩ c1 e1 rv
  exact ⟨b, asBool_rv e rv, q b s' G' H' h1 c1 e1⟩
/-- a < b < c -/
theorem dt_chain {op op' : CmpOp} {a b c : Expr} {wa wb wc : En → Wp S Dv} {g g' : Dv → Dv → Wp S Dv} {pos : Pos} (ho : OpD B X (compareOp op) g) (ho' : OpD B X (compareOp op') g') (ha : DE B X a wa) (hb : DE B X b wb) (hc : DE B X c wc)
    (hm : lastMarks [op, op'] [b, c] = false := by with_unfolding_all rfl) :
    DT B X (.Compare a [op, op'] [b, c] pos) (fun env => bnd (wa env) fun x => bnd (wb env) fun y => bnd (g x y) fun z => bnd (get (asBool z)) fun k => if k = true then bnd (wc env) fun t => bnd (g' y t) fun m => get (asBool m) else ret false) := by
  obtain ⟨r, o, d⟩ := ho
  obtain ⟨r', o', d'⟩ := ho'
  refine ⟨ha.k, pt_mono (pt_chain o o' ha.pe hb.pe hc.pe hm) ?_⟩
  rintro σ H Q ⟨G, env, s, R, cc, rp, h, q⟩
  refine tD_of cc rp h fun x s1 v G1 H1 h1 c1 e1 r1 rv => tD_of c1 r1 h1 fun y s2 u G2 H2 h2 c2 e2 r2 ru => ?_
  refine d x y v u G2 H2 s2 _ _ c2 (rv.same e2.gg) ru h2 fun z s3 vz G3 H3 h3 c3 e3 rz => ?_
  obtain ⟨k, ek, h3⟩ := h3
  refine ⟨k, asBool_rv ek rz, ?_⟩
  cases k with
  | false => exact ⟨false, rfl, q false s3 G3 H3 h3 c3 ((e1.trans e2).trans e3)⟩
  | true =>
    refine tD_of c3 (r2.ex e3) (show wc env _ s3 from h3) fun t s4 vt G4 H4 h4 c4 e4 r4 rt => ?_
    refine d' y t u vt G4 H4 s4 _ _ c4 (ru.same (e3.gg.trans e4.gg)) rt h4 fun m s5 vm G5 H5 h5 c5 e5 rm => ?_
    obtain ⟨b, eb, h5⟩ := h5
    exact ⟨b, asBool_rv eb rm, q b s5 G5 H5 h5 c5 ((((e1.trans e2).trans e3).trans e4).trans e5)⟩
theorem de_chain {op op' : CmpOp} {a b c : Expr} {wa wb wc : En → Wp S Dv} {g g' : Dv → Dv → Wp S Dv} {pos : Pos} (ho : OpD B X (compareOp op) g) (ho' : OpD B X (compareOp op') g') (ha : DE B X a wa) (hb : DE B X b wb) (hc : DE B X c wc)
    (hm : lastMarks [op, op'] [b, c] = false := by with_unfolding_all rfl) :
    DE B X (.Compare a [op, op'] [b, c] pos) (fun env => bnd (wa env) fun x => bnd (wb env) fun y => bnd (g x y) fun z => bnd (get (asBool z)) fun k => if k = true then bnd (wc env) fun t => g' y t else ret (.d (.bool false))) := by
  obtain ⟨r, o, d⟩ := ho
  obtain ⟨r', o', d'⟩ := ho'
  refine ⟨ha.k, pe_mono (pe_chain o o' ha.pe hb.pe hc.pe hm) ?_⟩
  rintro σ H Q ⟨G, env, s, R, cc, rp, h, q⟩
  refine tD_of cc rp h fun x s1 v G1 H1 h1 c1 e1 r1 rv => tD_of c1 r1 h1 fun y s2 u G2 H2 h2 c2 e2 r2 ru => ?_
  refine d x y v u G2 H2 s2 _ _ c2 (rv.same e2.gg) ru h2 fun z s3 vz G3 H3 h3 c3 e3 rz => ?_
  obtain ⟨k, ek, h3⟩ := h3
  refine ⟨k, asBool_rv ek rz, ?_⟩
  cases k with
  | false => exact q _ s3 _ G3 H3 h3 c3 ((e1.trans e2).trans e3) (.bl false)
  | true =>
    refine tD_of c3 (r2.ex e3) (show wc env _ s3 from h3) fun t s4 vt G4 H4 h4 c4 e4 r4 rt => ?_
    exact d' y t u vt G4 H4 s4 _ _ c4 (ru.same (e3.gg.trans e4.gg)) rt h4 fun m s5 vm G5 H5 h5 c5 e5 rm => q m s5 vm G5 H5 h5 c5 ((((e1.trans e2).trans e3).trans e4).trans e5) rm
def IxD (B : Bx S) (X : Cx) (g : Dv → Dv → Wp S Dv) : Prop := ∃ r : R2, IxR X r ∧ ∀ (x y : Dv) (v u : V) (G H : Hp) (s : S) (R : Dv → S → Prop) (Q : VK), Cc B G H s → RV B.K G v x → RV B.K G u y → g x y R s →
  (∀ d s' z G' H', R d s' → Cc B G' H' s' → Ex B G H G' H' → RV B.K G' z d → Q z H') → r v u H Q
theorem de_ix {a b : Expr} {wa wb : En → Wp S Dv} {g : Dv → Dv → Wp S Dv} {pos : Pos} (hi : IxD B X g) (ha : DE B X a wa) (hb : DE B X b wb) (hs : PlainIx b := by exact fun _ _ => rfl) :
    DE B X (.Subscript a b pos) (fun env => bnd (wa env) fun x => bnd (wb env) fun y => g x y) := by
  obtain ⟨r, o, d⟩ := hi
  exact ⟨ha.k, pe_mono (pe_ix o ha.pe hb.pe hs) fun σ H Q h => de_2 ha hb d h⟩
def CallD (B : Bx S) (X : Cx) (f : Value) (g : List Dv → Wp S Dv) : Prop := ∃ r : List V → Hp → VK → Prop, CallR X f r ∧ ∀ (x : List Dv) (v : List V) (G H : Hp) (s : S) (R : Dv → S → Prop) (Q : VK), Cc B G H s → RVs B.K G v x → g x R s →
  (∀ d s' z G' H', R d s' → Cc B G' H' s' → Ex B G H G' H' → RV B.K G' z d → Q z H') → r v H Q
theorem CallD.or {f : Value} {g1 g2 g : List Dv → Wp S Dv} (a : CallD B X f g1) (b : CallD B X f g2) (h : ∀ x R s, g x R s → g1 x R s ∨ g2 x R s) : CallD B X f g := by
  obtain ⟨r1, o1, d1⟩ := a
  obtain ⟨r2, o2, d2⟩ := b
  refine ⟨fun x H Q => r1 x H Q ∨ r2 x H Q, fun pins s σ H x v Q I rx h => ?_, fun x v G H s R Q c rv hg q => ?_⟩
  · rcases h with h | h
    · exact o1 pins s σ H x v Q I rx h
    · exact o2 pins s σ H x v Q I rx h
  · rcases h x R s hg with hg | hg
    · exact .inl (d1 x v G H s R Q c rv hg q)
    · exact .inr (d2 x v G H s R Q c rv hg q)
theorem de_callB {id : String} {x : Str} {e : Expr} {es : List Expr} {p pos : Pos} {w : En → Wp S (List Dv)} {g : List Dv → Wp S Dv} (hc : CallD B X (.builtin id) g) (hg : Gl X x) (hm : X.mg x = none) (hv : bootBuiltins x = some (.builtin id)) (ha : DA B X (e :: es) w)
    (hn : x ≠ "__name__" := by decide) (hdb : (x == ("__debug__" : Str)) = false := by decide) (he : starEach (e :: es) X.env = (false, eval e X.env) :: starEach es X.env := by rfl) (hpl : (backTo pos (starEach es X.env)).any (·.1) = false := by rfl) :
    DE B X (.Call (.Name x p) (e :: es) [] pos) (fun env => bnd (w env) fun xs => g xs) := by
  obtain ⟨r, o, d⟩ := hc
  refine ⟨ha.k, pe_mono (pe_callB o hg hm hv ha.pa hn hdb he hpl) ?_⟩
  rintro σ H Q ⟨G, env, s, R, c, rp, h, q⟩
  refine tDa_of c rp h fun xs s1 vs G1 H1 h1 c1 e1 r1 rvs => ?_
  exact d xs vs G1 H1 s1 R Q c1 rvs h1 fun z s' v G' H' k1 k2 k3 k4 => q z s' v G' H' k1 k2 (e1.trans k3) k4
theorem de_callTy {T : String} {x : Str} {e : Expr} {es : List Expr} {p pos : Pos} {w : En → Wp S (List Dv)} {g : List Dv → Wp S Dv} (hc : CallD B X (.type T) g) (hg : Gl X x) (hm : X.mg x = none) (hv : bootBuiltins x = some (.type T)) (ha : DA B X (e :: es) w)
    (hn : x ≠ "__name__" := by decide) (hdb : (x == ("__debug__" : Str)) = false := by decide) (he : starEach (e :: es) X.env = (false, eval e X.env) :: starEach es X.env := by rfl) (hpl : (backTo pos (starEach es X.env)).any (·.1) = false := by rfl) :
    DE B X (.Call (.Name x p) (e :: es) [] pos) (fun env => bnd (w env) fun xs => g xs) := by
  obtain ⟨r, o, d⟩ := hc
  refine ⟨ha.k, pe_mono (pe_callTy o hg hm hv ha.pa hn hdb he hpl) ?_⟩
  rintro σ H Q ⟨G, env, s, R, c, rp, h, q⟩
  refine tDa_of c rp h fun xs s1 vs G1 H1 h1 c1 e1 r1 rvs => ?_
  exact d xs vs G1 H1 s1 R Q c1 rvs h1 fun z s' v G' H' k1 k2 k3 k4 => q z s' v G' H' k1 k2 (e1.trans k3) k4

/-! ### tests, and, or, not, if -/
theorem dt_val {e : Expr} {w : En → Wp S Dv} (h : DE B X e w) (he : ∀ whole, isTrue e X.env whole = (do let v ← whole; standAt e.pos; holding [v] (truthy v)) := by intro _; rfl) : DT B X e (fun env => bnd (w env) fun z => get (asBool z)) := by
  refine ⟨h.k, pt_mono (pt_val h.pe he) ?_⟩
  rintro σ H Q ⟨G, env, s, R, c, rp, h, q⟩
  refine tD_of c rp h fun x s1 v G1 H1 h1 c1 e1 r1 rv => ?_
  obtain ⟨b, eb, h1⟩ := h1
  exact ⟨b, asBool_rv eb rv, q b s1 G1 H1 h1 c1 e1⟩
def truthD : Dv → Option Bool
  | .d .none => some false
  | .d (.bool b) => some b
  | .d (.int i) => some (i != 0)
  | .d (.str y) => if y.length ≤ sizeLine then some ((y.length : Int) != 0) else none
  | .d (.list ds) => some (!ds.isEmpty)
  | .d (.tuple ds) => some (!ds.isEmpty)
  | .d (.dict ds) => some (!ds.isEmpty)
  | .o _ => none
theorem DRs.empty {K : PySem.W.Frag} {G : Hp} {vs : List V} {ds : List PyData} (h : DRs K G vs ds) : (!ds.isEmpty) = (!vs.isEmpty) := by cases h <;> rfl
theorem DRk.empty {K : PySem.W.Frag} {G : Hp} {vs : List (Key × V)} {ds : List (PyData × PyData)} (h : DRk K G vs ds) : (!ds.isEmpty) = (!vs.isEmpty) := by cases h <;> rfl
theorem truthD_ok {K : PySem.W.Frag} {G H : Hp} {v : V} {x : Dv} {b : Bool} (h : truthD x = some b) (r : RV K G v x) (sg : Same G H) : TruV K v H b := by
  cases x with
  | o u => cases h
  | d x =>
    cases r with
    | non => cases h; rfl
    | bl c => cases h; rfl
    | int i => cases h; rfl
    | str y =>
      have h : (if y.length ≤ sizeLine then some ((y.length : Int) != 0) else none) = some b := h
      split at h
      · cases h
        exact ⟨by assumption, rfl⟩
      · cases h
    | lst e q =>
      cases h
      exact .inl ⟨_, .inl (.inl (sg _ _ e)), q.empty⟩
    | tup e q =>
      cases h
      exact .inr (.inl ⟨_, sqT_same e sg, q.empty⟩)
    | dct e q =>
      cases h
      exact .inr (.inr ⟨_, sg _ _ e, q.empty⟩)
theorem dt_truth {e : Expr} {w : En → Wp S Dv} (h : DE B X e w) (he : ∀ whole, isTrue e X.env whole = (do let v ← whole; standAt e.pos; holding [v] (truthy v)) := by intro _; rfl) : DT B X e (fun env => bnd (w env) fun z => get (truthD z)) := by
  refine ⟨h.k, pt_mono (pt_truth h.pe he) ?_⟩
  have hk := h.k
  rintro σ H Q ⟨G, env, s, R, c, rp, h, q⟩
  refine tD_of c rp h fun x s1 v G1 H1 h1 c1 e1 r1 rv => ?_
  obtain ⟨b, eb, h1⟩ := h1
  refine ⟨b, ?_, q b s1 G1 H1 h1 c1 e1⟩
  rw [hk]
  exact truthD_ok eb rv c1.sub
theorem dt_not {a : Expr} {w : En → Wp S Bool} {pos : Pos} (h : DT B X a w) : DT B X (.UnaryOp .Not a pos) (fun env => bnd (w env) fun b => ret (!b)) := by
  refine ⟨h.k, pt_mono (pt_not h.pt) ?_⟩
  rintro σ H Q ⟨G, env, s, R, c, rp, h, q⟩
  exact tDb_of c rp h fun b s1 G1 H1 h1 c1 e1 r1 => q (!b) s1 G1 H1 h1 c1 e1
theorem dw_and1 {a : Expr} {w : En → Wp S Bool} {pos : Pos} (h : DT B X a w) : DW B X (.BoolOp .And [a] pos) w := ⟨h.k, pw_and1 h.pt⟩
theorem dw_or1 {a : Expr} {w : En → Wp S Bool} {pos : Pos} (h : DT B X a w) : DW B X (.BoolOp .Or [a] pos) w := ⟨h.k, pw_or1 h.pt⟩
theorem dw_and {a b : Expr} {rest : List Expr} {wa wb : En → Wp S Bool} {pos : Pos} (ha : DT B X a wa) (hb : DW B X (.BoolOp .And (b :: rest) pos) wb) : DW B X (.BoolOp .And (a :: b :: rest) pos) (fun env => bnd (wa env) fun c => if c = true then wb env else ret false) := by
  refine ⟨ha.k, pw_mono (pw_and ha.pt hb.pw) ?_⟩
  rintro σ H Q ⟨G, env, s, R, c, rp, h, q⟩
  refine tDb_of c rp h fun b s1 G1 H1 h1 c1 e1 r1 => ?_
  cases b with
  | true => exact ⟨G1, env, s1, R, c1, r1, h1, fun x s' G' H' k1 k2 k3 => q x s' G' H' k1 k2 (e1.trans k3)⟩
  | false => exact q false s1 G1 H1 h1 c1 e1
theorem dw_or {a b : Expr} {rest : List Expr} {wa wb : En → Wp S Bool} {pos : Pos} (ha : DT B X a wa) (hb : DW B X (.BoolOp .Or (b :: rest) pos) wb) : DW B X (.BoolOp .Or (a :: b :: rest) pos) (fun env => bnd (wa env) fun c => if c = true then ret true else wb env) := by
  refine ⟨ha.k, pw_mono (pw_or ha.pt hb.pw) ?_⟩
  rintro σ H Q ⟨G, env, s, R, c, rp, h, q⟩
  refine tDb_of c rp h fun b s1 G1 H1 h1 c1 e1 r1 => ?_
  cases b with
  | false => exact ⟨G1, env, s1, R, c1, r1, h1, fun x s' G' H' k1 k2 k3 => q x s' G' H' k1 k2 (e1.trans k3)⟩
  | true => exact q true s1 G1 H1 h1 c1 e1
theorem DW.dt {e : Expr} {w : En → Wp S Bool} (h : DW B X e w) : DT B X e w := ⟨h.k, h.pw.pt⟩
/-- the same as values: all but the last are True or False -/
theorem de_one {op : BoolOp} {a : Expr} {w : En → Wp S Dv} {pos : Pos} (h : DE B X a w) : DE B X (.BoolOp op [a] pos) w := ⟨h.k, pe_one h.pe⟩
theorem de_and {a b : Expr} {rest : List Expr} {wa wb : En → Wp S Dv} {pos : Pos} (ha : DE B X a wa) (hb : DE B X (.BoolOp .And (b :: rest) pos) wb) : DE B X (.BoolOp .And (a :: b :: rest) pos) (fun env => bnd (wa env) fun x => bnd (get (asBool x)) fun c => if c = true then wb env else ret (.d (.bool false))) := by
  refine ⟨ha.k, pe_mono (pe_and ha.pe hb.pe) ?_⟩
  rintro σ H Q ⟨G, env, s, R, c, rp, h, q⟩
  refine tD_of c rp h fun x s1 v G1 H1 h1 c1 e1 r1 rv => ?_
  obtain ⟨b, eb, h1⟩ := h1
  refine ⟨b, asBool_rv eb rv, ?_⟩
  cases b with
  | true => exact ⟨G1, env, s1, R, c1, r1, h1, fun x s' v' G' H' k1 k2 k3 k4 => q x s' v' G' H' k1 k2 (e1.trans k3) k4⟩
  | false => exact q _ s1 _ G1 H1 h1 c1 e1 (.bl false)
theorem de_or {a b : Expr} {rest : List Expr} {wa wb : En → Wp S Dv} {pos : Pos} (ha : DE B X a wa) (hb : DE B X (.BoolOp .Or (b :: rest) pos) wb) : DE B X (.BoolOp .Or (a :: b :: rest) pos) (fun env => bnd (wa env) fun x => bnd (get (asBool x)) fun c => if c = true then ret (.d (.bool true)) else wb env) := by
  refine ⟨ha.k, pe_mono (pe_or ha.pe hb.pe) ?_⟩
  rintro σ H Q ⟨G, env, s, R, c, rp, h, q⟩
  refine tD_of c rp h fun x s1 v G1 H1 h1 c1 e1 r1 rv => ?_
  obtain ⟨b, eb, h1⟩ := h1
  refine ⟨b, asBool_rv eb rv, ?_⟩
  cases b with
  | false => exact ⟨G1, env, s1, R, c1, r1, h1, fun x s' v' G' H' k1 k2 k3 k4 => q x s' v' G' H' k1 k2 (e1.trans k3) k4⟩
  | true => exact q _ s1 _ G1 H1 h1 c1 e1 (.bl true)
theorem de_not {a : Expr} {w : En → Wp S Dv} {pos : Pos} (h : DE B X a w) : DE B X (.UnaryOp .Not a pos) (fun env => bnd (w env) fun x => bnd (get (asBool x)) fun c => ret (.d (.bool (!c)))) := by
  refine ⟨h.k, pe_mono (pe_not h.pe) ?_⟩
  rintro σ H Q ⟨G, env, s, R, c, rp, h, q⟩
  refine tD_of c rp h fun x s1 v G1 H1 h1 c1 e1 r1 rv => ?_
  obtain ⟨b, eb, h1⟩ := h1
  exact ⟨b, asBool_rv eb rv, q _ s1 _ G1 H1 h1 c1 e1 (.bl (!b))⟩
theorem de_if {t a b : Expr} {wt : En → Wp S Bool} {wa wb : En → Wp S Dv} {pos : Pos} (ht : DT B X t wt) (ha : DE B X a wa) (hb : DE B X b wb) : DE B X (.IfExp t a b pos) (fun env => bnd (wt env) fun c => if c = true then wa env else wb env) := by
  refine ⟨ha.k, pe_mono (pe_ifExp ht.pt ha.pe hb.pe) ?_⟩
  rintro σ H Q ⟨G, env, s, R, c, rp, h, q⟩
  refine tDb_of c rp h fun b s1 G1 H1 h1 c1 e1 r1 => ?_
  cases b with
  | true => exact ⟨G1, env, s1, R, c1, r1, h1, fun x s' v' G' H' k1 k2 k3 k4 => q x s' v' G' H' k1 k2 (e1.trans k3) k4⟩
  | false => exact ⟨G1, env, s1, R, c1, r1, h1, fun x s' v' G' H' k1 k2 k3 k4 => q x s' v' G' H' k1 k2 (e1.trans k3) k4⟩
end
end L2.DD

set_option maxRecDepth 100000
set_option maxHeartbeats 4000000
namespace L2.DD
open PySem PySem.Spec PyProof.Rows
section
variable {S : Type} {B : Bx S} {X : Cx}

/-! ### numbers -/
def intOf : Dv → Option Int
  | .d (.int i) => some i
  | _ => none
theorem intOf_rv {K : PySem.W.Frag} {G : Hp} {v : V} {x : Dv} {i : Int} (h : intOf x = some i) (r : RV K G v x) : v = .int i := by
  cases x with
  | o u => cases h
  | d x =>
    cases x <;> cases h
    cases r
    rfl
def strOf : Dv → Option Str
  | .d (.str i) => some i
  | _ => none
theorem strOf_rv {K : PySem.W.Frag} {G : Hp} {v : V} {x : Dv} {i : Str} (h : strOf x = some i) (r : RV K G v x) : v = .str i := by
  cases x with
  | o u => cases h
  | d x =>
    cases x <;> cases h
    cases r
    rfl
def dat : PyData → V
  | .none => .non
  | .bool b => .bl b
  | .int i => .int i
  | .str x => .str x
  | _ => .non
/-- two ints, under C -/
def intW (C : Int → Int → Prop) (g : Int → Int → PyData) : Dv → Dv → Wp S Dv := fun x y => bnd (get (intOf x)) fun i => bnd (get (intOf y)) fun j => bnd (ask (C i j)) fun _ => ret (.d (g i j))
theorem od_int {f : Value → Value → Sem Value} {C : Int → Int → Prop} {g : Int → Int → V} {g' : Int → Int → PyData} (o : OpR X f (rI C g)) (hg : ∀ K G i j, DR K G (g i j) (g' i j)) : OpD B X f (intW C g') := by
  refine ⟨_, o, ?_⟩
  rintro x y v u G H s R Q c rv ru ⟨i, e1, j, e2, hc, h⟩ q
  exact ⟨i, j, intOf_rv e1 rv, intOf_rv e2 ru, hc, q _ s _ G H h c (Ex.refl G H) (hg _ _ i j)⟩
theorem od_int0 {f : Value → Value → Sem Value} {g : Int → Int → V} {g' : Int → Int → PyData} (o : OpR X f (rI0 g)) (hg : ∀ K G i j, DR K G (g i j) (g' i j)) : OpD B X f (intW (fun _ _ => True) g') := by
  refine ⟨_, o, ?_⟩
  rintro x y v u G H s R Q c rv ru ⟨i, e1, j, e2, hc, h⟩ q
  exact ⟨i, j, intOf_rv e1 rv, intOf_rv e2 ru, q _ s _ G H h c (Ex.refl G H) (hg _ _ i j)⟩
theorem od_sub : OpD B X (binaryOp .Sub) (intW (fun _ _ => True) fun i j => .int (i - j)) := od_int0 op_sub fun _ _ _ _ => .int _
theorem od_mulI : OpD B X (binaryOp .Mult) (intW CMul fun i j => .int (i * j)) := od_int op_mul fun _ _ _ _ => .int _
theorem od_mod : OpD B X (binaryOp .Mod) (intW (fun _ j => 0 < j) fun i j => .int (i % j)) := od_int op_mod fun _ _ _ _ => .int _
theorem od_fdiv : OpD B X (binaryOp .FloorDiv) (intW CDiv fun i j => .int (i / j)) := od_int op_fdiv fun _ _ _ _ => .int _
theorem od_lt : OpD B X (compareOp .Lt) (intW (fun _ _ => True) fun i j => .bool (decide (i < j))) := od_int0 op_lt fun _ _ _ _ => .bl _
theorem od_le : OpD B X (compareOp .LtE) (intW (fun _ _ => True) fun i j => .bool (decide (i ≤ j))) := od_int0 op_le fun _ _ _ _ => .bl _
theorem od_gt : OpD B X (compareOp .Gt) (intW (fun _ _ => True) fun i j => .bool (decide (j < i))) := od_int0 op_gt fun _ _ _ _ => .bl _
theorem od_ge : OpD B X (compareOp .GtE) (intW (fun _ _ => True) fun i j => .bool (decide (j ≤ i))) := od_int0 op_ge fun _ _ _ _ => .bl _

/-! ### + -/
def plusW : Dv → Dv → Wp S Dv
  | .d (.int i), .d (.int j) => ret (.d (.int (i + j)))
  | .d (.str a), .d (.str b) => bnd (ask (a.length + b.length ≤ sizeLine)) fun _ => ret (.d (.str (a ++ b)))
  | .d (.list a), .d (.list b) => bnd (ask (a.length + b.length ≤ sizeLine)) fun _ => ret (.d (.list (a ++ b)))
  | .d (.tuple a), .d (.tuple b) => bnd (ask (a.length + b.length ≤ sizeLine)) fun _ => ret (.d (.tuple (a ++ b)))
  | _, _ => get none
def rPlus (K : PySem.W.Frag) : R2 := fun x y H Q => (∃ i j, x = .int i ∧ y = .int j ∧ Q (.int (i + j)) H) ∨ (∃ i j, x = .str i ∧ y = .str j ∧ i.length + j.length ≤ sizeLine ∧ Q (.str (i ++ j)) H) ∨ rCat x y H Q ∨ rCatA K x y H Q
theorem op_plus : OpR X (binaryOp .Add) (rPlus X.K) := by
  intro pins s σ H x y v u Q I rx ry h
  rcases h with h | h | h | h
  · exact op_add pins s σ H x y v u Q I rx ry h
  · exact op_add_str pins s σ H x y v u Q I rx ry h
  · exact op_cat pins s σ H x y v u Q I rx ry h
  · exact op_catA pins s σ H x y v u Q I rx ry h
theorem DRs.nil_iff {K : PySem.W.Frag} {G : Hp} {vs : List V} {ds : List PyData} (h : DRs K G vs ds) : vs = [] ↔ ds = [] := by
  cases h with
  | nil => simp
  | cons a b => simp
theorem od_plus (hK : X.K = B.K) : OpD B X (binaryOp .Add) plusW := by
  refine ⟨_, op_plus, ?_⟩
  rw [hK]
  intro x y v u G H s R Q c rv ru h q
  cases x with
  | o z => exact (nomatch h : False).elim
  | d x =>
    cases y with
    | o z => cases x <;> exact (nomatch h : False).elim
    | d y =>
      cases x with
      | int i =>
        cases y with
        | int j => cases rv; cases ru; exact .inl ⟨i, j, rfl, rfl, q _ s _ G H h c (Ex.refl G H) (.int _)⟩
        | _ => exact (nomatch h : False).elim
      | str a =>
        cases y with
        | str b => cases rv; cases ru; exact .inr (.inl ⟨a, b, rfl, rfl, h.1, q _ s _ G H h.2 c (Ex.refl G H) (.str _)⟩)
        | _ => exact (nomatch h : False).elim
      | list a =>
        cases y with
        | list b =>
          obtain ⟨hl, h⟩ := h
          cases rv with
          | lst e1 d1 =>
            cases ru with
            | lst e2 d2 =>
              refine .inr (.inr (.inl ⟨_, _, _, _, rfl, rfl, c.sub _ _ e1, c.sub _ _ e2, by rw [d1.length, d2.length]; exact hl, fun p hp => ?_⟩))
              exact q _ s _ _ _ h (c.new hp) (Ex.new c hp) (.lst upd_same (DRs.same (Ex.new c hp).gg _ _ (d1.append d2)))
        | _ => exact (nomatch h : False).elim
      | tuple a =>
        cases y with
        | tuple b =>
          obtain ⟨hl, h⟩ := h
          cases rv with
          | tup e1 d1 =>
            cases ru with
            | tup e2 d2 =>
              refine .inr (.inr (.inr ⟨_, _, _, _, rfl, rfl, sqT_same e1 c.sub, sqT_same e2 c.sub, by rw [d1.length, d2.length]; exact hl, fun z => ?_, fun z1 z2 => ?_, fun z1 z2 p hp => ?_⟩))
              · refine q _ s _ G H h c (Ex.refl G H) (.tup e2 ?_)
                have e : a = [] := d1.nil_iff.mp z
                rw [e]
                exact d2
              · refine q _ s _ G H h c (Ex.refl G H) (.tup e1 ?_)
                have e : b = [] := d2.nil_iff.mp z2
                rw [e, List.append_nil]
                exact d1
              · exact q _ s _ _ _ h (c.new hp) (Ex.new c hp) (.tup (.inl (.inl upd_same)) (DRs.same (Ex.new c hp).gg _ _ (d1.append d2)))
        | _ => exact (nomatch h : False).elim
      | none => exact (nomatch h : False).elim
      | bool b => exact (nomatch h : False).elim
      | dict ds => exact (nomatch h : False).elim

/-! ### ==, !=, is None, in -/
theorem noDict_of_canLay : ∀ d : PyData, d.canLay0 = true → noDict d = true
  | .none, _ => rfl
  | .bool _, _ => rfl
  | .int _, _ => rfl
  | .str _, _ => rfl
  | .list ds, h => go ds h
  | .tuple ds, h => go ds h
  | .dict _, h => nomatch h
where go : ∀ ds : List PyData, PyData.canLayAll0 ds = true → noDicts ds = true
  | [], _ => rfl
  | d :: ds, h => by
    have h2 : (d.canLay0 && PyData.canLayAll0 ds) = true := h
    rw [Bool.and_eq_true] at h2
    show (noDict d && noDicts ds) = true
    rw [noDict_of_canLay d h2.1, go ds h2.2]
    rfl
theorem dp_of {K : PySem.W.Frag} {G H : Hp} {v : V} {x : PyData} (h : SeqAt.shaped x = true) (r : DR K G v x) (sg : Same G H) : Dp K H v x := DR.dp _ _ (noDict_of_canLay x (SeqAt.canLay_of_shaped h)) (DR.same sg _ _ r)
/-- the scalars that are told apart without more -/
def scalD : PyData → PyData → Bool
  | .none, .none => true | .none, .int _ => true | .int _, .none => true | .none, .bool _ => true | .bool _, .none => true | .none, .str _ => true | .str _, .none => true
  | .int _, .int _ => true | .bool _, .bool _ => true | .str _, .str _ => true
  | .int _, .str _ => true | .str _, .int _ => true | .bool _, .str _ => true | .str _, .bool _ => true
  | _, _ => false
theorem scalD_ok {K : PySem.W.Frag} {G : Hp} {x y : PyData} {v u : V} (h : scalD x y = true) (rv : DR K G v x) (ru : DR K G u y) : scal v u = true ∧ decide (v = u) = PyData.eqv x y := by
  cases rv <;> cases ru <;> first
    | exact ⟨rfl, rfl⟩
    | exact ⟨rfl, dec_int⟩
    | exact ⟨rfl, dec_bl⟩
    | exact ⟨rfl, dec_str⟩
    | exact ⟨rfl, decide_eq_false (by intro z; cases z)⟩
    | cases h
def eqOk (x y : PyData) : Prop := scalD x y = true ∨ (SeqAt.shaped x = true ∧ SeqAt.shaped y = true)
def eqW : Dv → Dv → Wp S Dv
  | .d x, .d y => bnd (ask (eqOk x y)) fun _ => ret (.d (.bool (PyData.eqv x y)))
  | _, _ => get none
def neW : Dv → Dv → Wp S Dv
  | .d x, .d y => bnd (ask (eqOk x y)) fun _ => ret (.d (.bool (!PyData.eqv x y)))
  | _, _ => get none
def rEqAll (K : PySem.W.Frag) (k : Bool) : R2 := fun x y H Q => (scal x y = true ∧ Q (.bl (k == decide (x = y))) H) ∨ ∃ d e, Dp K H x d ∧ Dp K H y e ∧ SeqAt.shaped d = true ∧ SeqAt.shaped e = true ∧ Q (.bl (k == PyData.eqv d e)) H
theorem tb (b : Bool) : (true == b) = b := by cases b <;> rfl
theorem fb (b : Bool) : (false == b) = !b := by cases b <;> rfl
theorem op_eqAll (hu : X.A.units + 64 < cLine) : OpR X (compareOp .Eq) (rEqAll X.K true) := by
  intro pins s σ H x y v u Q I rx ry h
  rcases h with ⟨h1, q⟩ | ⟨d, e, h1, h2, h3, h4, q⟩
  · rw [tb] at q
    exact op_eq pins s σ H x y v u Q I rx ry ⟨h1, q⟩
  · rw [tb] at q
    exact op_eqD hu pins s σ H x y v u Q I rx ry ⟨d, e, h1, h2, h3, h4, q⟩
theorem op_neAll (hu : X.A.units + 64 < cLine) : OpR X (compareOp .NotEq) (rEqAll X.K false) := by
  intro pins s σ H x y v u Q I rx ry h
  rcases h with ⟨h1, q⟩ | ⟨d, e, h1, h2, h3, h4, q⟩
  · rw [fb] at q
    exact op_ne pins s σ H x y v u Q I rx ry ⟨h1, q⟩
  · rw [fb] at q
    exact op_neD hu pins s σ H x y v u Q I rx ry ⟨d, e, h1, h2, h3, h4, q⟩
theorem od_eqAll {f : Value → Value → Sem Value} {k : Bool} {g : Dv → Dv → Wp S Dv} (o : OpR X f (rEqAll B.K k)) (hg : ∀ x y R s, g x y R s → ∃ a b, x = .d a ∧ y = .d b ∧ eqOk a b ∧ R (.d (.bool (k == PyData.eqv a b))) s) : OpD B X f g := by
  refine ⟨_, o, ?_⟩
  intro x y v u G H s R Q c rv ru h q
  obtain ⟨a, b, rfl, rfl, ok, h⟩ := hg x y R s h
  have fin := q _ s _ G H h c (Ex.refl G H) (.bl _)
  rcases ok with ok | ⟨h1, h2⟩
  · obtain ⟨z1, z2⟩ := scalD_ok ok rv ru
    refine .inl ⟨z1, ?_⟩
    rw [z2]
    exact fin
  · exact .inr ⟨a, b, dp_of h1 rv c.sub, dp_of h2 ru c.sub, h1, h2, fin⟩
theorem od_eq (hK : X.K = B.K) (hu : X.A.units + 64 < cLine) : OpD B X (compareOp .Eq) eqW := by
  refine od_eqAll (k := true) (by rw [← hK]; exact op_eqAll hu) fun x y R s h => ?_
  cases x with
  | o z => exact (nomatch h : False).elim
  | d x =>
    cases y with
    | o z => exact (nomatch h : False).elim
    | d y => exact ⟨x, y, rfl, rfl, h.1, by rw [tb]; exact h.2⟩
theorem od_ne (hK : X.K = B.K) (hu : X.A.units + 64 < cLine) : OpD B X (compareOp .NotEq) neW := by
  refine od_eqAll (k := false) (by rw [← hK]; exact op_neAll hu) fun x y R s h => ?_
  cases x with
  | o z => exact (nomatch h : False).elim
  | d x =>
    cases y with
    | o z => exact (nomatch h : False).elim
    | d y => exact ⟨x, y, rfl, rfl, h.1, by rw [fb]; exact h.2⟩
def isNone : Dv → Bool
  | .d .none => true
  | .d _ => false
  | .o v => decide (v = .non)
theorem isNone_rv {K : PySem.W.Frag} {G : Hp} {v : V} {x : Dv} (r : RV K G v x) : decide (v = .non) = isNone x := by
  cases x with
  | o u => cases r; rfl
  | d x => cases r <;> rfl
def isW (k : Bool) : Dv → Dv → Wp S Dv := fun x y => bnd (ask (y = .d .none)) fun _ => ret (.d (.bool (k == isNone x)))
theorem od_is : OpD B X (compareOp .Is) (isW true) := by
  refine ⟨_, op_isN, ?_⟩
  rintro x y v u G H s R Q c rv ru ⟨e, h⟩ q
  subst e
  cases ru
  refine ⟨rfl, ?_⟩
  rw [isNone_rv rv]
  have e : (true == isNone x) = isNone x := by cases isNone x <;> rfl
  rw [← e]
  exact q _ s _ G H h c (Ex.refl G H) (.bl _)
theorem od_isNot : OpD B X (compareOp .IsNot) (isW false) := by
  refine ⟨_, op_notN, ?_⟩
  rintro x y v u G H s R Q c rv ru ⟨e, h⟩ q
  subst e
  cases ru
  refine ⟨rfl, ?_⟩
  rw [isNone_rv rv]
  have e : (false == isNone x) = !isNone x := by cases isNone x <;> rfl
  rw [← e]
  exact q _ s _ G H h c (Ex.refl G H) (.bl _)
/-- in: an item of a list or tuple, a sign of a text -/
def inD (x : PyData) (ds : List PyData) : Bool := ds.any fun z => PyData.eqv z x
def isStr : PyData → Bool
  | .str _ => true
  | _ => false
def inOk (x : PyData) (ds : List PyData) : Prop := (isStr x = true ∧ ds.all isStr = true) ∨ (SeqAt.shaped x = true ∧ SeqAt.shaped (.list ds) = true)
def inW (k : Bool) : Dv → Dv → Wp S Dv
  | .d x, .d (.list ds) => bnd (ask (inOk x ds)) fun _ => ret (.d (.bool (k == inD x ds)))
  | .d x, .d (.tuple ds) => bnd (ask (inOk x ds)) fun _ => ret (.d (.bool (k == inD x ds)))
  | .d (.str a), .d (.str z) => fun R s => ∃ c, a = ⟨#[c]⟩ ∧ R (.d (.bool (k == decide (c ∈ z.cps.toList)))) s
  | _, _ => get none
def rInT (K : PySem.W.Frag) (k : Bool) : R2 := fun x y H Q => ∃ d ds, Dp K H x d ∧ Dp K H y (.tuple ds) ∧ SeqAt.shaped d = true ∧ SeqAt.shaped (.tuple ds) = true ∧ Q (.bl (k == inD d ds)) H
theorem op_inT (hu : X.A.units + 65 < cLine) : OpR X (compareOp .In) (rInT X.K true) := by
  intro pins s σ H x y v u Q I rx ry h
  obtain ⟨d, ds, hd, he, sd, se, q⟩ := h
  obtain ⟨as, r1⟩ := Dp.reads I d x v hd rx
  obtain ⟨bs, r2⟩ := Dp.reads I (.tuple ds) y u he ry
  have e : (true == inD d ds) = inD d ds := by cases inD d ds <;> rfl
  rw [e] at q
  exact SeqAt.in_tuple_reads r2 r1 (SeqAt.canLay_of_shaped se) (SeqAt.canLay_of_shaped sd) (room_in_shaped sd hu) ⟨.bl _, H, I, rfl, q⟩
theorem op_notInT (hu : X.A.units + 65 < cLine) : OpR X (compareOp .NotIn) (rInT X.K false) := by
  intro pins s σ H x y v u Q I rx ry h
  obtain ⟨d, ds, hd, he, sd, se, q⟩ := h
  obtain ⟨as, r1⟩ := Dp.reads I d x v hd rx
  obtain ⟨bs, r2⟩ := Dp.reads I (.tuple ds) y u he ry
  have e : (false == inD d ds) = !inD d ds := by cases inD d ds <;> rfl
  rw [e] at q
  exact SeqAt.notIn_tuple_reads r2 r1 (SeqAt.canLay_of_shaped se) (SeqAt.canLay_of_shaped sd) (room_in_shaped sd hu) ⟨.bl _, H, I, rfl, q⟩
def rInAll (K : PySem.W.Frag) (k : Bool) : R2 := fun x y H Q => (∃ d ds, Dp K H x d ∧ Dp K H y (.list ds) ∧ SeqAt.shaped d = true ∧ SeqAt.shaped (.list ds) = true ∧ Q (.bl (k == inD d ds)) H) ∨ rInT K k x y H Q ∨ (∃ p xs, y = .ref p ∧ (SqL K H p xs ∨ SqT K H p xs) ∧ flatV x = true ∧ xs.all flatV = true ∧ Q (.bl (k == inV x xs)) H) ∨
  ∃ (c : Nat) (z : Str), x = .str ⟨#[c]⟩ ∧ y = .str z ∧ Q (.bl (k == decide (c ∈ z.cps.toList))) H
theorem op_inAll (hu : X.A.units + 65 < cLine) : OpR X (compareOp .In) (rInAll X.K true) := by
  intro pins s σ H x y v u Q I rx ry h
  rcases h with ⟨d, ds, hd, he, sd, se, q⟩ | h | ⟨p, xs, e1, e2, e3, e4, q⟩ | ⟨c, z, e1, e2, q⟩
  · rw [tb] at q
    exact op_inD hu pins s σ H x y v u Q I rx ry ⟨d, ds, hd, he, sd, se, q⟩
  · exact op_inT hu pins s σ H x y v u Q I rx ry h
  · rw [tb] at q
    exact op_in_seq pins s σ H x y v u Q I rx ry ⟨p, xs, e1, e2, e3, e4, by rw [if_neg Bool.false_ne_true]; exact q⟩
  · rw [tb] at q
    exact op_in_sign pins s σ H x y v u Q I rx ry ⟨c, z, e1, e2, q⟩
theorem op_notInAll (hu : X.A.units + 65 < cLine) : OpR X (compareOp .NotIn) (rInAll X.K false) := by
  intro pins s σ H x y v u Q I rx ry h
  rcases h with ⟨d, ds, hd, he, sd, se, q⟩ | h | ⟨p, xs, e1, e2, e3, e4, q⟩ | ⟨c, z, e1, e2, q⟩
  · rw [fb] at q
    exact op_notInD hu pins s σ H x y v u Q I rx ry ⟨d, ds, hd, he, sd, se, q⟩
  · exact op_notInT hu pins s σ H x y v u Q I rx ry h
  · rw [fb] at q
    exact op_notIn_seq pins s σ H x y v u Q I rx ry ⟨p, xs, e1, e2, e3, e4, by rw [if_pos rfl]; exact q⟩
  · rw [fb] at q
    exact op_notIn_sign pins s σ H x y v u Q I rx ry ⟨c, z, e1, e2, q⟩
theorem flat_in {K : PySem.W.Frag} {G : Hp} {a : Str} : ∀ {ds : List PyData} {vs : List V}, ds.all isStr = true → DRs K G vs ds → vs.all flatV = true ∧ inV (.str a) vs = inD (.str a) ds
  | [], _, _, h => by cases h; exact ⟨rfl, rfl⟩
  | d :: ds, _, hs, h => by
    cases h with
    | cons h1 h2 =>
      rw [List.all_cons, Bool.and_eq_true] at hs
      obtain ⟨i1, i2⟩ := flat_in (a := a) hs.2 h2
      cases h1 with
      | str z =>
        refine ⟨by rw [List.all_cons, i1]; rfl, ?_⟩
        unfold inV inD at i2 ⊢
        rw [List.any_cons, List.any_cons, i2]
        have e : eqV (.str z) (.str a) = PyData.eqv (.str z) (.str a) := by
          show decide _ = _
          first | rfl | exact (Bool.beq_eq_decide_eq z a).symm
        rw [e]
      | _ => exact absurd hs.1 (by simp [isStr])
theorem od_inAll {f : Value → Value → Sem Value} {k : Bool} (o : OpR X f (rInAll B.K k)) : OpD B X f (inW k) := by
  refine ⟨_, o, ?_⟩
  intro x y v u G H s R Q c rv ru h q
  cases x with
  | o z => exact (nomatch h : False).elim
  | d x =>
    cases y with
    | o z => cases x <;> exact (nomatch h : False).elim
    | d y =>
      cases y with
      | list ds =>
        have h : inOk x ds ∧ R (.d (.bool (k == inD x ds))) s := by cases x <;> exact h
        obtain ⟨ok, h⟩ := h
        have fin := q _ s _ G H h c (Ex.refl G H) (.bl _)
        rcases ok with ⟨h1, h2⟩ | ⟨h1, h2⟩
        · cases rv with
          | str a =>
            cases ru with
            | lst e r =>
              obtain ⟨i1, i2⟩ := flat_in (a := a) h2 r
              exact .inr (.inr (.inl ⟨_, _, rfl, .inl (.inl (.inl (c.sub _ _ e))), rfl, i1, by rw [i2]; exact fin⟩))
          | _ => exact absurd h1 (by simp [isStr])
        · exact .inl ⟨x, ds, dp_of h1 rv c.sub, dp_of h2 ru c.sub, h1, h2, fin⟩
      | tuple ds =>
        have h : inOk x ds ∧ R (.d (.bool (k == inD x ds))) s := by cases x <;> exact h
        obtain ⟨ok, h⟩ := h
        have fin := q _ s _ G H h c (Ex.refl G H) (.bl _)
        rcases ok with ⟨h1, h2⟩ | ⟨h1, h2⟩
        · cases rv with
          | str a =>
            cases ru with
            | tup e r =>
              obtain ⟨i1, i2⟩ := flat_in (a := a) h2 r
              exact .inr (.inr (.inl ⟨_, _, rfl, .inr (sqT_same e c.sub), rfl, i1, by rw [i2]; exact fin⟩))
          | _ => exact absurd h1 (by simp [isStr])
        · have h3 : SeqAt.shaped (.tuple ds) = true := h2
          exact .inr (.inl ⟨x, ds, dp_of h1 rv c.sub, dp_of h3 ru c.sub, h1, h3, fin⟩)
      | str z =>
        cases x with
        | str a =>
          obtain ⟨ch, e, h⟩ := h
          cases rv
          cases ru
          rw [e]
          exact .inr (.inr (.inr ⟨ch, z, rfl, rfl, q _ s _ G H h c (Ex.refl G H) (.bl _)⟩))
        | _ => exact (nomatch h : False).elim
      | _ => cases x <;> exact (nomatch h : False).elim
theorem od_in (hK : X.K = B.K) (hu : X.A.units + 65 < cLine) : OpD B X (compareOp .In) (inW true) := od_inAll (by rw [← hK]; exact op_inAll hu)
theorem od_notIn (hK : X.K = B.K) (hu : X.A.units + 65 < cLine) : OpD B X (compareOp .NotIn) (inW false) := od_inAll (by rw [← hK]; exact op_notInAll hu)

/-! ### subscripts -/
def ixD : Dv → Int → Option PyData
  | .d (.list ds), i => atI ds i
  | .d (.tuple ds), i => atI ds i
  | .d (.str z), i => if z.length ≤ sizeLine then (atI z.cps.toList i).map fun c => .str ⟨#[c]⟩ else none
  | _, _ => none
def ixW : Dv → Dv → Wp S Dv := fun x y => bnd (get (intOf y)) fun i => bnd (get (ixD x i)) fun d => ret (.d d)
theorem atI_get {α β : Type} {xs : List α} {ds : List β} {i : Int} {d : β} (hl : xs.length = ds.length) (h : atI ds i = some d) : ∃ j : Nat, ds[j]? = some d ∧ atI xs i = xs[j]? := by
  unfold atI at h ⊢
  rw [hl]
  cases e : ixN ds.length i with
  | none => rw [e] at h; cases h
  | some j =>
    rw [e] at h
    exact ⟨j, h, rfl⟩
theorem ixd_any (hK : X.K = B.K) : IxD B X ixW := by
  refine ⟨_, ix_seq, ?_⟩
  rw [hK]
  rintro x y v u G H s R Q c rv ru ⟨i, e, d, ed, h⟩ q
  obtain rfl := intOf_rv e ru
  cases x with
  | o z => cases ed
  | d x =>
    cases rv with
    | lst e1 r1 =>
      obtain ⟨j, e2, e3⟩ := atI_get r1.length (show atI _ i = some d from ed)
      obtain ⟨z, e4, rz⟩ := r1.get e2
      exact .inl ⟨_, _, i, z, rfl, rfl, .inl (.inl (c.sub _ _ e1)), by rw [e3, e4], q _ s _ G H h c (Ex.refl G H) rz⟩
    | tup e1 r1 =>
      obtain ⟨j, e2, e3⟩ := atI_get r1.length (show atI _ i = some d from ed)
      obtain ⟨z, e4, rz⟩ := r1.get e2
      exact .inr (.inl ⟨_, _, i, z, rfl, rfl, sqT_same e1 c.sub, by rw [e3, e4], q _ s _ G H h c (Ex.refl G H) rz⟩)
    | str z =>
      have ed : (if z.length ≤ sizeLine then (atI z.cps.toList i).map fun c => PyData.str ⟨#[c]⟩ else none) = some d := ed
      split at ed
      · rename_i hz
        cases e1 : atI z.cps.toList i with
        | none => rw [e1] at ed; cases ed
        | some ch =>
          rw [e1] at ed
          obtain rfl : PyData.str ⟨#[ch]⟩ = d := Option.some.inj ed
          exact .inr (.inr ⟨z, i, ch, rfl, rfl, hz, e1, q _ s _ G H h c (Ex.refl G H) (.str _)⟩)
      · cases ed
    | non => cases ed
    | bl b => cases ed
    | int i => cases ed
    | dct e r => cases ed

/-! ### calls -/
def kindTy : PyData → String
  | .none => "NoneType"
  | .bool _ => "bool"
  | .int _ => "int"
  | .str _ => "str"
  | .list _ => "list"
  | .tuple _ => "tuple"
  | .dict _ => "dict"
theorem tyX_of {K : PySem.W.Frag} {G H : Hp} {v : V} {x : PyData} (r : DR K G v x) (sg : Same G H) : TyX K H v (.type (kindTy x)) := by
  cases r with
  | non => exact .base .non
  | bl b => exact .base (.bl b)
  | int i => exact .base (.int i)
  | str x => exact .base (.str x)
  | lst e q => exact .base (.lst (sg _ _ e))
  | tup e q =>
    rcases e with (e | ⟨o, e⟩) | ⟨o, its, n, e, hc, _⟩
    · exact .base (.tup (sg _ _ e))
    · exact .fTuple (sg _ _ e)
    · exact .kTuple e hc
  | dct e q => exact .base (.dK (sg _ _ e))
def isiW : List Dv → Wp S Dv
  | [.d x, .o (.ty T)] => bnd (get (kitB (kindTy x) T)) fun b => ret (.d (.bool b))
  | _ => get none
theorem cd_isi (hK : X.K = B.K) : CallD B X (.builtin "isinstance") isiW := by
  refine ⟨_, call_isi, ?_⟩
  rw [hK]
  intro x v G H s R Q c rv h q
  match x, rv, h with
  | [.d x, .o (.ty T)], .cons (a := v1) r1 (.cons r2 .nil), h =>
    obtain ⟨b, eb, h⟩ := h
    have r2 : _ = V.ty T := r2
    subst r2
    exact ⟨v1, .ty T, _, _, b, rfl, .ty T, tyX_of r1 c.sub, kit_ty eb, q _ s _ G H h c (Ex.refl G H) (.bl b)⟩
  | [], _, h => exact (nomatch h : False).elim
  | [.o _], _, h => exact (nomatch h : False).elim
  | [.d _], _, h => exact (nomatch h : False).elim
  | .o _ :: _ :: _, _, h => exact (nomatch h : False).elim
  | .d _ :: .d _ :: _, _, h => exact (nomatch h : False).elim
  | .d _ :: .o .non :: _, _, h => exact (nomatch h : False).elim
  | .d _ :: .o (.bl _) :: _, _, h => exact (nomatch h : False).elim
  | .d _ :: .o (.int _) :: _, _, h => exact (nomatch h : False).elim
  | .d _ :: .o (.str _) :: _, _, h => exact (nomatch h : False).elim
  | .d _ :: .o (.byt _) :: _, _, h => exact (nomatch h : False).elim
  | .d _ :: .o (.flt _) :: _, _, h => exact (nomatch h : False).elim
  | .d _ :: .o (.ref _) :: _, _, h => exact (nomatch h : False).elim
  | .d _ :: .o (.ty _) :: _ :: _, _, h => exact (nomatch h : False).elim
def lenD : Dv → Option Nat
  | .d (.str y) => if y.length ≤ sizeLine then some y.length else none
  | .d (.list ds) => some ds.length
  | .d (.tuple ds) => some ds.length
  | _ => none
def lenW : List Dv → Wp S Dv
  | [x] => bnd (get (lenD x)) fun n => ret (.d (.int n))
  | _ => get none
theorem cd_len (hK : X.K = B.K) : CallD B X (.builtin "len") lenW := by
  refine ⟨_, call_len, ?_⟩
  rw [hK]
  intro x v G H s R Q c rv h q
  match x, rv, h with
  | [x], .cons (a := v1) r1 .nil, ⟨n, e, h⟩ =>
    refine ⟨v1, n, rfl, ?_, q _ s _ G H h c (Ex.refl G H) (.int _)⟩
    cases x with
    | o u => cases e
    | d x =>
      cases r1 with
      | str y =>
        have e : (if y.length ≤ sizeLine then some y.length else none) = some n := e
        split at e
        · cases e
          exact ⟨by assumption, rfl⟩
        · cases e
      | lst e1 r =>
        cases e
        exact .inl ⟨_, .inl (.inl (c.sub _ _ e1)), r.length.symm⟩
      | tup e1 r =>
        cases e
        exact .inr ⟨_, sqT_same e1 c.sub, r.length.symm⟩
      | non => cases e
      | bl b => cases e
      | int i => cases e
      | dct e1 r => cases e
  | [], _, h => exact (nomatch h : False).elim
  | _ :: _ :: _, _, h => exact (nomatch h : False).elim
/-- str of a text or an int -/
def strD : Dv → Option Str
  | .d (.str y) => some y
  | .d (.int i) => if i.natAbs.log2 < 1920 then some (toString i) else none
  | _ => none
def strW : List Dv → Wp S Dv
  | [x] => bnd (get (strD x)) fun y => ret (.d (.str y))
  | _ => get none
theorem cd_str : CallD B X (.type "str") strW := by
  refine ⟨fun xs H Q => (∃ i, xs = [.int i] ∧ i.natAbs.log2 < 1920 ∧ Q (.str (toString i)) H) ∨ ∃ a, xs = [.str a] ∧ Q (.str a) H, fun pins s σ H xs us Q I r h => ?_, ?_⟩
  · rcases h with h | h
    · exact call_str_int pins s σ H xs us Q I r h
    · exact SkE.call_str_str pins s σ H xs us Q I r h
  intro x v G H s R Q c rv h q
  match x, rv, h with
  | [x], .cons (a := v1) r1 .nil, ⟨y, e, h⟩ =>
    have fin := q _ s _ G H h c (Ex.refl G H) (.str y)
    cases x with
    | o u => cases e
    | d x =>
      cases r1 with
      | str z => cases e; exact .inr ⟨_, rfl, fin⟩
      | int i =>
        have e : (if i.natAbs.log2 < 1920 then some (toString i : Str) else none) = some y := e
        split at e
        · cases e
          exact .inl ⟨i, rfl, by assumption, fin⟩
        · cases e
      | _ => cases e
  | [], _, h => exact (nomatch h : False).elim
  | _ :: _ :: _, _, h => exact (nomatch h : False).elim
/-- int of an int, a bool, a text that is a number -/
def intD : Dv → Option Int
  | .d (.int i) => some i
  | .d (.bool b) => some (if b then 1 else 0)
  | .d (.str y) => if y.length ≤ 640 then PySem.intText? y else none
  | _ => none
def intCW : List Dv → Wp S Dv
  | [x] => bnd (get (intD x)) fun y => ret (.d (.int y))
  | _ => get none
theorem cd_int : CallD B X (.type "int") intCW := by
  refine ⟨fun xs H Q => ((∃ i, xs = [.int i] ∧ Q (.int i) H) ∨ ∃ k, xs = [.bl k] ∧ Q (.int (if k then 1 else 0)) H) ∨ ∃ a n, xs = [.str a] ∧ PySem.intText? a = some n ∧ a.length ≤ 640 ∧ Q (.int n) H, fun pins s σ H xs us Q I r h => ?_, ?_⟩
  · rcases h with h | h
    · exact call_int1 pins s σ H xs us Q I r h
    · exact call_int_str pins s σ H xs us Q I r h
  intro x v G H s R Q c rv h q
  match x, rv, h with
  | [x], .cons (a := v1) r1 .nil, ⟨y, e, h⟩ =>
    have fin := q _ s _ G H h c (Ex.refl G H) (.int y)
    cases x with
    | o u => cases e
    | d x =>
      cases r1 with
      | int i => cases e; exact .inl (.inl ⟨_, rfl, fin⟩)
      | bl b => cases e; exact .inl (.inr ⟨_, rfl, fin⟩)
      | str z =>
        have e : (if z.length ≤ 640 then PySem.intText? z else none) = some y := e
        split at e
        · exact .inr ⟨z, y, rfl, e, by assumption, fin⟩
        · cases e
      | _ => cases e
  | [], _, h => exact (nomatch h : False).elim
  | _ :: _ :: _, _, h => exact (nomatch h : False).elim
def boolsOf : List PyData → Option (List Bool)
  | [] => some []
  | .bool b :: ds => (boolsOf ds).map (b :: ·)
  | _ :: _ => none
theorem boolsOf_some : ∀ {ds : List PyData} {bs : List Bool}, boolsOf ds = some bs → ds = bs.map PyData.bool
  | [], _, h => by cases h; rfl
  | .bool b :: ds, bs, h => by
    have h : (boolsOf ds).map (b :: ·) = some bs := h
    cases e : boolsOf ds with
    | none => rw [e] at h; cases h
    | some es =>
      rw [e] at h
      obtain rfl : b :: es = bs := Option.some.inj h
      rw [boolsOf_some e]
      rfl
  | .none :: _, _, h => nomatch h
  | .int _ :: _, _, h => nomatch h
  | .str _ :: _, _, h => nomatch h
  | .list _ :: _, _, h => nomatch h
  | .tuple _ :: _, _, h => nomatch h
  | .dict _ :: _, _, h => nomatch h
theorem boolsOf_map (bs : List Bool) : boolsOf (bs.map PyData.bool) = some bs := by
  induction bs with
  | nil => rfl
  | cons b bs ih =>
    show (boolsOf (bs.map PyData.bool)).map (b :: ·) = _
    rw [ih]
    rfl
def allW : List Dv → Wp S Dv
  | [.d (.list ds)] => bnd (get (boolsOf ds)) fun bs => ret (.d (.bool (bs.all id)))
  | _ => get none
def anyW : List Dv → Wp S Dv
  | [.d (.list ds)] => bnd (get (boolsOf ds)) fun bs => ret (.d (.bool (bs.any id)))
  | _ => get none
theorem one_list {K : PySem.W.Frag} {G : Hp} {v : List V} {ds : List PyData} {bs : List Bool} (rv : RVs K G v [.d (.list ds)]) (e : boolsOf ds = some bs) : ∃ a, v = [.ref a] ∧ G a = some (.lst (bs.map V.bl)) := by
  match v, rv with
  | [v1], .cons r1 .nil =>
    cases r1 with
    | lst e1 r =>
      rw [boolsOf_some e] at r
      rw [DRs.of_bools r] at e1
      exact ⟨_, rfl, e1⟩
theorem allW_some {x : List Dv} {R : Dv → S → Prop} {s : S} (h : allW x R s) : ∃ ds bs, x = [.d (.list ds)] ∧ boolsOf ds = some bs ∧ R (.d (.bool (bs.all id))) s := by
  unfold allW at h
  split at h
  · obtain ⟨bs, e, h⟩ := h
    exact ⟨_, bs, rfl, e, h⟩
  · exact (nomatch h : False).elim
theorem anyW_some {x : List Dv} {R : Dv → S → Prop} {s : S} (h : anyW x R s) : ∃ ds bs, x = [.d (.list ds)] ∧ boolsOf ds = some bs ∧ R (.d (.bool (bs.any id))) s := by
  unfold anyW at h
  split at h
  · obtain ⟨bs, e, h⟩ := h
    exact ⟨_, bs, rfl, e, h⟩
  · exact (nomatch h : False).elim
theorem cd_all (hK : X.K = B.K) (hc : X.calm = true) : CallD B X (.builtin "all") allW := by
  refine ⟨_, cr_all hc, ?_⟩
  rw [hK]
  intro x v G H s R Q c rv h q
  obtain ⟨ds, bs, rfl, e, h⟩ := allW_some h
  obtain ⟨a, rfl, ea⟩ := one_list rv e
  exact ⟨a, bs, rfl, .inl (.inl (c.sub _ _ ea)), q _ s _ G H h c (Ex.refl G H) (.bl _)⟩
theorem cd_any (hK : X.K = B.K) (hc : X.calm = true) : CallD B X (.builtin "any") anyW := by
  refine ⟨_, cr_any hc, ?_⟩
  rw [hK]
  intro x v G H s R Q c rv h q
  obtain ⟨ds, bs, rfl, e, h⟩ := anyW_some h
  obtain ⟨a, rfl, ea⟩ := one_list rv e
  exact ⟨a, bs, rfl, .inl (.inl (c.sub _ _ ea)), q _ s _ G H h c (Ex.refl G H) (.bl _)⟩
/-- tuple of a list or tuple -/
def tupW : List Dv → Wp S Dv
  | [.d (.list ds)] => ret (.d (.tuple ds))
  | [.d (.tuple ds)] => ret (.d (.tuple ds))
  | _ => get none
theorem cd_tuple (hK : X.K = B.K) : CallD B X (.type "tuple") tupW := by
  refine ⟨_, call_tuple_of, ?_⟩
  rw [hK]
  intro x v G H s R Q c rv h q
  unfold tupW at h
  split at h
  · cases rv with
    | cons r1 r2 =>
      cases r2
      have r1 : DR B.K G _ _ := r1
      cases r1 with
      | lst e r =>
        refine ⟨_, _, rfl, .inl ⟨.inl (.inl (c.sub _ _ e)), fun p hp => ?_⟩⟩
        exact q _ s _ _ _ h (c.new hp) (Ex.new c hp) (.tup (.inl (.inl upd_same)) (DRs.same (Ex.new c hp).gg _ _ r))
  · cases rv with
    | cons r1 r2 =>
      cases r2
      have r1 : DR B.K G _ _ := r1
      cases r1 with
      | tup e r => exact ⟨_, _, rfl, .inr ⟨sqT_same e c.sub, q _ s _ G H h c (Ex.refl G H) (.tup e r)⟩⟩
  · exact (nomatch h : False).elim

/-! ### texts' methods -/
def splitW (a : Str) (y : Dv) : Wp S (List PyData) := bnd (get (strOf y)) fun b => bnd (ask ((b.length == 0) = false ∧ a.length + 2 ≤ sizeLine)) fun _ => ret ((Txt.split a b).map PyData.str)
theorem df_split {o e : Expr} {wo we : En → Wp S Dv} {apos pos : Pos} (ho : DE B X o wo) (he : DE B X e we) (hs : starEach [e] X.env = [(false, eval e X.env)] := by rfl) (hbase : attributeBase o "split" X.env (eval o X.env) = eval o X.env := by rfl) (hline : (apos.endLine == pos.line) = true := by rfl) :
    DF B X (.Call (.Attribute o "split" apos) [e] [] pos) (fun env => bnd (wo env) fun x => bnd (get (strOf x)) fun a => bnd (we env) fun y => splitW a y) := by
  refine ⟨ho.k, pe_mono (pe_split ho.pe he.pe hs hbase hline) ?_⟩
  rintro σ H Q ⟨G, env, s, R, c, r, hw, q⟩
  refine tD_of c r hw fun x s1 v G1 H1 h1 c1 e1 r1 rv => ?_
  obtain ⟨a, ea, h1⟩ := h1
  obtain rfl := strOf_rv ea rv
  refine ⟨⟨a, rfl⟩, tD_of c1 r1 h1 fun y s2 u G2 H2 h2 c2 e2 r2 ru => ?_⟩
  obtain ⟨b, eb, ⟨hb, hz⟩, h2⟩ := h2
  obtain rfl := strOf_rv eb ru
  refine ⟨a, b, rfl, rfl, hb, hz, fun p hp => ?_⟩
  have ee := e1.trans e2
  have hp0 : H p = none := by
    rcases e : H p with _ | u
    · rfl
    · exact absurd hp (ee.alive p (by rw [e]; simp))
  exact q _ s2 p _ G2 _ h2 hp0 (c2.gnone hp) upd_same (DRs.strs _) (c2.side hp) (ee.trans (Ex.side hp))
def strsOf : List PyData → Option (List Str)
  | [] => some []
  | .str b :: ds => (strsOf ds).map (b :: ·)
  | _ :: _ => none
theorem strsOf_some : ∀ {ds : List PyData} {bs : List Str}, strsOf ds = some bs → ds = bs.map PyData.str
  | [], _, h => by cases h; rfl
  | .str b :: ds, bs, h => by
    have h : (strsOf ds).map (b :: ·) = some bs := h
    cases e : strsOf ds with
    | none => rw [e] at h; cases h
    | some es =>
      rw [e] at h
      obtain rfl : b :: es = bs := Option.some.inj h
      rw [strsOf_some e]
      rfl
  | .none :: _, _, h => nomatch h
  | .int _ :: _, _, h => nomatch h
  | .bool _ :: _, _, h => nomatch h
  | .list _ :: _, _, h => nomatch h
  | .tuple _ :: _, _, h => nomatch h
  | .dict _ :: _, _, h => nomatch h
theorem strsOf_map (bs : List Str) : strsOf (bs.map PyData.str) = some bs := by
  induction bs with
  | nil => rfl
  | cons b bs ih =>
    show (strsOf (bs.map PyData.str)).map (b :: ·) = _
    rw [ih]
    rfl
def seqOf : Dv → Option (List PyData)
  | .d (.list ds) => some ds
  | .d (.tuple ds) => some ds
  | _ => none
theorem seqOf_rv {K : PySem.W.Frag} {G H : Hp} {v : V} {x : Dv} {ds : List PyData} (h : seqOf x = some ds) (r : RV K G v x) (sg : Same G H) : ∃ a vs, v = .ref a ∧ (SqL K H a vs ∨ SqT K H a vs) ∧ DRs K G vs ds := by
  cases x with
  | o u => cases h
  | d x =>
    cases r with
    | lst e r => cases h; exact ⟨_, _, rfl, .inl (.inl (.inl (sg _ _ e))), r⟩
    | tup e r => cases h; exact ⟨_, _, rfl, .inr (sqT_same e sg), r⟩
    | _ => cases h
def joinW (a : Str) (y : Dv) : Wp S Dv := bnd (get (seqOf y)) fun ds => bnd (get (strsOf ds)) fun ys => bnd (ask ((ys.map (·.length)).sum + ys.length * a.length ≤ 16777216)) fun _ => ret (.d (.str (Txt.join a ys)))
theorem de_join {o e : Expr} {wo we : En → Wp S Dv} {apos pos : Pos} (ho : DE B X o wo) (he : DE B X e we) (hs : starEach [e] X.env = [(false, eval e X.env)] := by rfl) (hbase : attributeBase o "join" X.env (eval o X.env) = eval o X.env := by rfl) (hline : (apos.endLine == pos.line) = true := by rfl) :
    DE B X (.Call (.Attribute o "join" apos) [e] [] pos) (fun env => bnd (wo env) fun x => bnd (get (strOf x)) fun a => bnd (we env) fun y => joinW a y) := by
  refine ⟨ho.k, pe_mono (pe_join ho.pe he.pe hs hbase hline) ?_⟩
  have hk := ho.k
  rintro σ H Q ⟨G, env, s, R, c, r, hw, q⟩
  refine tD_of c r hw fun x s1 v G1 H1 h1 c1 e1 r1 rv => ?_
  obtain ⟨a, ea, h1⟩ := h1
  obtain rfl := strOf_rv ea rv
  refine ⟨⟨a, rfl⟩, tD_of c1 r1 h1 fun y s2 u G2 H2 h2 c2 e2 r2 ru => ?_⟩
  obtain ⟨ds, ed, ys, ey, hz, h2⟩ := h2
  obtain ⟨p, vs, rfl, hs, rd⟩ := seqOf_rv ed ru c2.sub
  rw [strsOf_some ey] at rd
  obtain rfl := DRs.of_strs rd
  rw [hk]
  exact ⟨a, p, ys, rfl, rfl, hs, hz, q _ s2 _ G2 H2 h2 c2 (e1.trans e2) (.str _)⟩

/-! ### f-strings -/
def fmtW (x : Dv) : Wp S Dv := bnd (get (match x with
  | .d (.str y) => if y.length ≤ sizeLine then some y else none
  | .d (.int i) => if i.natAbs.log2 < 1920 then some (toString i) else none
  | _ => none)) fun y => ret (.d (.str y))
theorem de_fmt {e : Expr} {w : En → Wp S Dv} {pos : Pos} (h : DE B X e w) : DE B X (.FormattedValue e (-1) none pos) (fun env => bnd (w env) fun x => fmtW x) := by
  refine ⟨h.k, pe_mono (pe_fmt h.pe) ?_⟩
  rintro σ H Q ⟨G, env, s, R, c, r, hw, q⟩
  refine tD_of c r hw fun x s1 v G1 H1 h1 c1 e1 r1 rv => ?_
  obtain ⟨y, e, h1⟩ := h1
  have fin := q _ s1 _ G1 H1 h1 c1 e1 (.str y)
  cases x with
  | o u => cases e
  | d x =>
    cases rv with
    | str z =>
      have e : (if z.length ≤ sizeLine then some z else none) = some y := e
      split at e
      · cases e
        exact .inl ⟨_, rfl, by assumption, fin⟩
      · cases e
    | int i =>
      have e : (if i.natAbs.log2 < 1920 then some (toString i : Str) else none) = some y := e
      split at e
      · cases e
        exact .inr ⟨i, rfl, by assumption, fin⟩
      · cases e
    | _ => cases e
/-- the parts of an f-string -/
inductive DJ (B : Bx S) (X : Cx) : List Expr → List (En → Wp S Dv) → Prop where
  | nil : DJ B X [] []
  | cons {e : Expr} {w : En → Wp S Dv} {es : List Expr} {ws : List (En → Wp S Dv)} (h : DE B X e w) (r : DJ B X es ws) : DJ B X (e :: es) (w :: ws)
theorem DJ.pj {es : List Expr} {ws : List (En → Wp S Dv)} (h : DJ B X es ws) : PJ X es (ws.map (tD B)) := by
  induction h with
  | nil => exact .nil
  | cons h r ih => exact .cons h.pe ih
def joinedW (env : En) : List (En → Wp S Dv) → Str → Wp S Str
  | [], acc => ret acc
  | w :: ws, acc => bnd (w env) fun x => bnd (get (strOf x)) fun y => bnd (ask ((acc ++ y).length ≤ sizeLine)) fun _ => joinedW env ws (acc ++ y)
theorem joined_run : ∀ (ws : List (En → Wp S Dv)) (acc : Str) (σ : L2.St) (G H : Hp) (env : En) (s : S) (R : Str → S → Prop) (Q : Str → Hp → Prop), Cc B G H s → Rep B G H σ env → joinedW env ws acc R s →
    (∀ y s' G' H', R y s' → Cc B G' H' s' → Ex B G H G' H' → Q y H') → tJs (ws.map (tD B)) acc σ H Q
  | [], acc, σ, G, H, env, s, R, Q, c, r, h, q => q acc s G H h c (Ex.refl G H)
  | w :: ws, acc, σ, G, H, env, s, R, Q, c, r, h, q => by
    refine tD_of c r h fun x s1 v G1 H1 h1 c1 e1 r1 rv => ?_
    obtain ⟨y, ey, hz, h1⟩ := h1
    obtain rfl := strOf_rv ey rv
    exact ⟨y, rfl, hz, joined_run ws (acc ++ y) σ G1 H1 env s1 R Q c1 r1 h1 fun z s' G' H' k1 k2 k3 => q z s' G' H' k1 k2 (e1.trans k3)⟩
theorem de_joined {v1 v2 : Expr} {rest : List Expr} {w : En → Wp S Dv} {ws : List (En → Wp S Dv)} {pos : Pos} (h1 : DE B X v1 w) (h : DJ B X (v2 :: rest) ws) : DE B X (.JoinedStr (v1 :: v2 :: rest) pos) (fun env => bnd (joinedW env (w :: ws) Str.empty) fun y => ret (.d (.str y))) := by
  refine ⟨h1.k, pe_mono (pe_joined (DJ.cons h1 h).pj) ?_⟩
  rintro σ H Q ⟨G, env, s, R, c, r, hw, q⟩
  exact joined_run (w :: ws) Str.empty σ G H env s _ _ c r hw fun y s' G' H' k1 k2 k3 => q _ s' _ G' H' k1 k2 k3 (.str y)
end
end L2.DD

set_option maxRecDepth 100000
set_option maxHeartbeats 4000000
namespace L2.DD
open PySem PySem.Spec PyProof.Rows
section
variable {S : Type} {B : Bx S} {X : Cx}

/-! ### what a for walks -/
def WalkD (B : Bx S) (J : It) (items : List Dv) (G1 H1 : Hp) : Prop := ∃ (Gd : Hp → Prop) (Y : Nat → Hp → V → Hp → Prop), Walk J items.length Gd Y ∧ (∀ G2 H2, Same G1 G2 → Same G2 H2 → Gd H2) ∧
  ∀ (i : Nat) (G2 H2 : Hp) (s : S) (x : V) (H3 : Hp), i < items.length → Cc B G2 H2 s → Same G1 G2 → Y i H2 x H3 → ∃ d G3, items[i]? = some d ∧ Cc B G3 H3 s ∧ Ex B G2 H2 G3 H3 ∧ RV B.K G3 x d
def tDi (B : Bx S) (w : En → Wp S (List Dv)) : TI := fun σ H R => ∃ G env s R0, Cc B G H s ∧ Rep B G H σ env ∧ w env R0 s ∧
  ∀ items s' G1 H1 J, R0 items s' → Cc B G1 H1 s' → Ex B G H G1 H1 → WalkD B J items G1 H1 → R J H1
structure DI (B : Bx S) (X : Cx) (tg iter : Expr) (w : En → Wp S (List Dv)) : Prop where
  k : X.K = B.K
  pi : PI X tg iter (tDi B w)
theorem pi_mono {X : Cx} {tg e : Expr} {t t' : TI} (h : PI X tg e t) (m : ∀ σ H Q, t' σ H Q → t σ H Q) : PI X tg e t' := ⟨fun pins s σ H Q I q => h.run pins s σ H Q I (m σ H Q q)⟩
def iAny (K : PySem.W.Frag) (tl : TE) : TI := fun σ H R => tl σ H fun x H1 => (∃ a, x = .ref a ∧ (∃ xs, SqL K H1 a xs) ∧ R (Itl K a) H1) ∨ (∃ a, x = .ref a ∧ (∃ xs, SqT K H1 a xs) ∧ R (Itt K a) H1) ∨ ∃ z, x = .str z ∧ R (Its z) H1
theorem pi_any {tg l : Expr} {tl : TE} (hl : PE X l tl) : PI X tg l (iAny X.K tl) := by
  refine ⟨fun pins s σ H R I h => ?_⟩
  refine thn (hl.run pins s σ H _ I h) fun v s1 ⟨x, H1, I1, r1, q1⟩ => ?_
  rcases q1 with ⟨a, e, ⟨xs, hq⟩, q⟩ | ⟨a, e, ⟨xs, hq⟩, q⟩ | ⟨z, e, q⟩
  · subst e
    cases r1
    obtain ⟨its, rv, p, hz⟩ := I1.list hq
    refine wpAny_pyIter_list p.isList ?_
    refine ⟨s1.heap.objs.size, [s1.heap.objs.size], _, _, H1, rfl, I1.kept (t' := s1.toks) fun b o e => Heap.get?_push_of_some _ e, turn_list a _, ⟨_, Heap.get?_push_size _ rfl, rfl, rfl⟩, fun b hb => ?_, q⟩
    have e : b = s1.heap.objs.size := by simpa using hb
    subst e
    exact I1.fpOk (Nat.le_refl _) (I1.hok.fresh (Nat.le_refl _))
  · subst e
    cases r1
    obtain ⟨its, rv, p, hz⟩ := I1.tuple hq
    refine wpAny_pyIter_tuple (show s1.heap.IsTuple a its.toArray from p) ?_
    refine ⟨s1.heap.objs.size, [s1.heap.objs.size], _, _, H1, rfl, I1.kept (t' := s1.toks) fun b o e => Heap.get?_push_of_some _ e, turn_tuple a _, ⟨_, Heap.get?_push_size _ rfl, rfl, rfl⟩, fun b hb => ?_, q⟩
    have e : b = s1.heap.objs.size := by simpa using hb
    subst e
    exact I1.fpOk (Nat.le_refl _) (I1.hok.fresh (Nat.le_refl _))
  · subst e
    obtain ⟨t, rfl⟩ := r1
    cases ha : z.cps.all (· < 128)
    · exact wpAny_pyIter_wide ha (pi_one (tk := s1.toks) I1 _ (turn_str _ z t "str_iterator" (.inr rfl)) ⟨_, Heap.get?_push_size _ rfl, rfl, rfl⟩ q)
    · exact wpAny_pyIter_ascii ha (pi_one (tk := s1.toks) I1 _ (turn_str _ z t "str_ascii_iterator" (.inl rfl)) ⟨_, Heap.get?_push_size _ rfl, rfl, rfl⟩ q)
def signsOf (z : Str) : List Dv := z.cps.toList.map fun c => .d (.str ⟨#[c]⟩)
def itemsOf : Dv → Option (List Dv)
  | .d (.list ds) => some (ds.map .d)
  | .d (.tuple ds) => some (ds.map .d)
  | .d (.str z) => some (signsOf z)
  | _ => none
theorem map_get {ds : List PyData} {i : Nat} {d : PyData} (h : ds[i]? = some d) : (ds.map Dv.d)[i]? = some (.d d) := by rw [List.getElem?_map, h]; rfl
theorem walkD_list {G1 H1 : Hp} {s : S} {a : Addr} {xs : List V} {ds : List PyData} (c : Cc B G1 H1 s) (e : G1 a = some (.lst xs)) (r : DRs B.K G1 xs ds) : WalkD B (Itl B.K a) (ds.map .d) G1 H1 := by
  have hl : (ds.map Dv.d).length = xs.length := by rw [List.length_map, r.length]
  refine ⟨fun H => SqL B.K H a xs, _, by rw [hl]; exact walk_list, fun G2 H2 g1 g2 => .inl (.inl (g2 _ _ (g1 _ _ e))), ?_⟩
  rintro i G2 H2 s2 x H3 hi c2 ex ⟨rfl, hx⟩
  have hi2 : i < ds.length := by rwa [List.length_map] at hi
  obtain ⟨v, e1, rv⟩ := r.get (List.getElem?_eq_getElem hi2)
  rw [hx] at e1
  obtain rfl := Option.some.inj e1
  exact ⟨_, G2, map_get (List.getElem?_eq_getElem hi2), c2, Ex.refl _ _, DR.same ex _ _ rv⟩
theorem walkD_tup {G1 H1 : Hp} {s : S} {a : Addr} {xs : List V} {ds : List PyData} (c : Cc B G1 H1 s) (e : SqT B.K G1 a xs) (r : DRs B.K G1 xs ds) : WalkD B (Itt B.K a) (ds.map .d) G1 H1 := by
  have hl : (ds.map Dv.d).length = xs.length := by rw [List.length_map, r.length]
  refine ⟨fun H => SqT B.K H a xs, _, by rw [hl]; exact walk_tup, fun G2 H2 g1 g2 => sqT_same (sqT_same e g1) g2, ?_⟩
  rintro i G2 H2 s2 x H3 hi c2 ex ⟨rfl, hx⟩
  have hi2 : i < ds.length := by rwa [List.length_map] at hi
  obtain ⟨v, e1, rv⟩ := r.get (List.getElem?_eq_getElem hi2)
  rw [hx] at e1
  obtain rfl := Option.some.inj e1
  exact ⟨_, G2, map_get (List.getElem?_eq_getElem hi2), c2, Ex.refl _ _, DR.same ex _ _ rv⟩
theorem walkD_str {G1 H1 : Hp} {z : Str} : WalkD B (Its z) (signsOf z) G1 H1 := by
  have hl : (signsOf z).length = z.cps.size := by unfold signsOf; rw [List.length_map, Array.length_toList]
  refine ⟨_, _, by rw [hl]; exact walk_str, fun _ _ _ _ => trivial, ?_⟩
  rintro i G2 H2 s2 x H3 hi c2 ex ⟨rfl, ch, hc, rfl⟩
  refine ⟨.d (.str ⟨#[ch]⟩), G2, ?_, c2, Ex.refl _ _, .str _⟩
  unfold signsOf
  rw [List.getElem?_map, Array.getElem?_toList, hc]
  rfl
theorem di_any {tg e : Expr} {we : En → Wp S Dv} (h : DE B X e we) : DI B X tg e (fun env => bnd (we env) fun x => get (itemsOf x)) := by
  refine ⟨h.k, pi_mono (pi_any h.pe) ?_⟩
  have hk := h.k
  rintro σ H Q ⟨G, env, s, R, c, r, hw, q⟩
  refine tD_of c r hw fun x s1 v G1 H1 h1 c1 e1 r1 rv => ?_
  obtain ⟨items, ei, h1⟩ := h1
  rw [hk]
  cases x with
  | o u => cases ei
  | d x =>
    cases rv with
    | lst e rr => cases ei; exact .inl ⟨_, rfl, ⟨_, .inl (.inl (c1.sub _ _ e))⟩, q _ s1 G1 H1 _ h1 c1 e1 (walkD_list c1 e rr)⟩
    | tup e rr => cases ei; exact .inr (.inl ⟨_, rfl, ⟨_, sqT_same e c1.sub⟩, q _ s1 G1 H1 _ h1 c1 e1 (walkD_tup c1 e rr)⟩)
    | str z => cases ei; exact .inr (.inr ⟨z, rfl, q _ s1 G1 H1 _ h1 c1 e1 walkD_str⟩)
    | _ => cases ei
@[irreducible] def rangeL (lo : Int) (n : Nat) : List Dv := (List.range n).map fun (i : Nat) => .d (.int (lo + i))
theorem walkD_range {G1 H1 : Hp} {lo : Int} {n : Nat} : WalkD B (Itr lo n) (rangeL lo n) G1 H1 := by
  have hl : (rangeL lo n).length = n := by unfold rangeL; rw [List.length_map, List.length_range]
  refine ⟨_, _, by rw [hl]; exact walk_range, fun _ _ _ _ => trivial, ?_⟩
  rintro i G2 H2 s2 x H3 hi c2 ex ⟨rfl, rfl⟩
  rw [hl] at hi
  refine ⟨.d (.int (lo + i)), G2, ?_, c2, Ex.refl _ _, .int _⟩
  unfold rangeL
  rw [List.getElem?_map, List.getElem?_range hi]
  rfl
def range1W : List Dv → Wp S (List Dv)
  | [x] => bnd (get (intOf x)) fun j => bnd (ask (-(2 ^ 62) ≤ j ∧ j < 2 ^ 62)) fun _ => ret (rangeL 0 j.toNat)
  | _ => get none
theorem di_range1 {tg a : Expr} {p pos : Pos} {w : En → Wp S (List Dv)} (hg : Gl X "range") (hm : X.mg "range" = none) (ha : DA B X [a] w) (hs : starEach [a] X.env = [(false, eval a X.env)] := by rfl) :
    DI B X tg (.Call (.Name "range" p) [a] [] pos) (fun env => bnd (w env) fun xs => range1W xs) := by
  refine ⟨ha.k, pi_mono (pi_range1 hg hm ha.pa hs) ?_⟩
  rintro σ H Q ⟨G, env, s, R, c, r, hw, q⟩
  refine tDa_of c r hw fun x s1 v G1 H1 h1 c1 e1 r1 rv => ?_
  match x, rv, h1 with
  | [x], .cons (a := v1) r1 .nil, ⟨j, e, ⟨hl, hh⟩, h1⟩ =>
    obtain rfl := intOf_rv e r1
    exact ⟨j, rfl, hl, hh, q _ s1 G1 H1 _ h1 c1 e1 walkD_range⟩
  | [], _, h => exact (nomatch h : False).elim
  | _ :: _ :: _, _, h => exact (nomatch h : False).elim
def range2W : List Dv → Wp S (List Dv)
  | [x, y] => bnd (get (intOf x)) fun i => bnd (get (intOf y)) fun j => bnd (ask (-(2 ^ 62) ≤ i ∧ i < 2 ^ 62 ∧ -(2 ^ 62) ≤ j ∧ j < 2 ^ 62)) fun _ => ret (rangeL i (j - i).toNat)
  | _ => get none
theorem range2W_some {x : List Dv} {R : List Dv → S → Prop} {s : S} (h : range2W x R s) : ∃ d e i j, x = [d, e] ∧ intOf d = some i ∧ intOf e = some j ∧ (-(2 ^ 62) ≤ i ∧ i < 2 ^ 62 ∧ -(2 ^ 62) ≤ j ∧ j < 2 ^ 62) ∧ R (rangeL i (j - i).toNat) s := by
  unfold range2W at h
  split at h
  · obtain ⟨i, e1, j, e2, hb, h⟩ := h
    exact ⟨_, _, i, j, rfl, e1, e2, hb, h⟩
  · exact (nomatch h : False).elim
theorem di_range2 {tg a b : Expr} {p pos : Pos} {w : En → Wp S (List Dv)} (hg : Gl X "range") (hm : X.mg "range" = none) (ha : DA B X [a, b] w) (hs : starEach [a, b] X.env = [(false, eval a X.env), (false, eval b X.env)] := by rfl) (hs2 : starEach [b] X.env = [(false, eval b X.env)] := by rfl) :
    DI B X tg (.Call (.Name "range" p) [a, b] [] pos) (fun env => bnd (w env) fun xs => range2W xs) := by
  refine ⟨ha.k, pi_mono (pi_range2 hg hm ha.pa hs hs2) ?_⟩
  rintro σ H Q ⟨G, env, s, R, c, r, hw, q⟩
  refine tDa_of c r hw fun x s1 v G1 H1 h1 c1 e1 r1 rv => ?_
  obtain ⟨d, e, i, j, rfl, ei, ej, hl, h1⟩ := range2W_some h1
  cases rv with
  | cons ra rb =>
    cases rb with
    | cons rb rc =>
      cases rc
      obtain rfl := intOf_rv ei ra
      obtain rfl := intOf_rv ej rb
      exact ⟨i, j, rfl, hl, q _ s1 G1 H1 _ h1 c1 e1 walkD_range⟩

/-! ### targets -/
theorem Rep.set {G H : Hp} {σ : L2.St} {env : En} {i : Nat} {v : V} {x : Dv} (r : Rep B G H σ env) (rv : RV B.K G v x) : Rep B G H (σ.set i (some v)) (env.set i (some (.v x))) := by
  have hlen := r.len
  have other : ∀ {j : Nat} {y : Option Sv}, j ≠ i → (env.set i (some (.v x)))[j]? = some y → env[j]? = some y := fun hj h => by rwa [List.getElem?_set_ne (Ne.symm hj)] at h
  have self : ∀ {y : Option Sv}, (env.set i (some (.v x)))[i]? = some y → i < env.length ∧ y = some (.v x) := fun {y} h => by
    by_cases hi : i < env.length
    · rw [List.getElem?_set_self hi] at h
      exact ⟨hi, (Option.some.inj h).symm⟩
    · rw [List.getElem?_eq_none (by rw [List.length_set]; omega)] at h
      cases h
  refine ⟨by rw [List.length_set, List.length_set, hlen], fun j y h => ?_, fun j xs h => ?_, fun j k xs ys p hjk h1 h2 h3 => ?_⟩
  · by_cases hj : j = i
    · subst hj
      obtain ⟨hi, e⟩ := self h
      cases e
      exact ⟨v, List.getElem?_set_self (by omega), rv⟩
    · obtain ⟨u, h1, h2⟩ := r.val j y (other hj h)
      exact ⟨u, by rw [List.getElem?_set_ne (Ne.symm hj)]; exact h1, h2⟩
  · by_cases hj : j = i
    · subst hj
      obtain ⟨hi, e⟩ := self h
      cases e
    · obtain ⟨u, h1, h2⟩ := r.own j xs (other hj h)
      exact ⟨u, by rw [List.getElem?_set_ne (Ne.symm hj)]; exact h1, h2⟩
  · have hj : j ≠ i := fun e => by
      subst e
      obtain ⟨_, e⟩ := self h1
      cases e
    have hk : k ≠ i := fun e => by
      subst e
      obtain ⟨_, e⟩ := self h2
      cases e
    rw [List.getElem?_set_ne (Ne.symm hj)] at h3
    rw [List.getElem?_set_ne (Ne.symm hk)]
    exact r.apart j k xs ys p hjk (other hj h1) (other hk h2) h3
def tDg (B : Bx S) (ts : List Nat) (g : Dv → En → Wp S En) : TG := fun v σ H Q => ∃ G env s R x, Cc B G H s ∧ Rep B G H σ env ∧ RV B.K G v x ∧ g x env R s ∧
  ∀ env' s' σ' G' H', R env' s' → Cc B G' H' s' → Ex B G H G' H' → Rep B G' H' σ' env' → σ'.length = σ.length → (∀ j, j ∉ ts → σ'[j]? = σ[j]?) → Q σ' H'
def tDgs (B : Bx S) (ts : List Nat) (g : List PyData → En → Wp S En) : TGs := fun v σ H Q => ∃ G env s R x, Cc B G H s ∧ Rep B G H σ env ∧ DRs B.K G v x ∧ g x env R s ∧
  ∀ env' s' σ' G' H', R env' s' → Cc B G' H' s' → Ex B G H G' H' → Rep B G' H' σ' env' → σ'.length = σ.length → (∀ j, j ∉ ts → σ'[j]? = σ[j]?) → Q σ' H'
structure DG (B : Bx S) (X : Cx) (tg : Expr) (ts : List Nat) (g : Dv → En → Wp S En) : Prop where
  k : X.K = B.K
  pg : PG X tg (tDg B ts g)
structure DGs (B : Bx S) (X : Cx) (tg : List Expr) (ts : List Nat) (g : List PyData → En → Wp S En) : Prop where
  k : X.K = B.K
  pgs : PGs X tg (tDgs B ts g)
theorem pg_mono {tg : Expr} {t t' : TG} (h : PG X tg t) (m : ∀ v σ H Q, t' v σ H Q → t v σ H Q) : PG X tg t' := by
  obtain ⟨h⟩ := h
  constructor
  intros
  apply h
  all_goals first | assumption | exact m _ _ _ _ (by assumption)
theorem pgs_mono {tg : List Expr} {t t' : TGs} (h : PGs X tg t) (m : ∀ v σ H Q, t' v σ H Q → t v σ H Q) : PGs X tg t' := by
  obtain ⟨h⟩ := h
  constructor
  intros
  apply h
  all_goals first | assumption | exact m _ _ _ _ (by assumption)
theorem dg_name {i : Nat} {x : Str} {pos : Pos} (hK : X.K = B.K) (hN : X.N.Nodup) (hi : X.N[i]? = some x) (hx : Loc X.env.scope x) (hf : X.fn x = true ∨ X.env.scope.names.lookup x = some .local := by first | exact .inl rfl | exact .inr rfl | assumption) :
    DG B X (.Name x pos) [i] (fun x env => ret (env.set i (some (.v x)))) := by
  refine ⟨hK, pg_mono (pg_name hN hi hx hf) ?_⟩
  rintro v σ H Q ⟨G, env, s, R, x, c, r, rv, h, q⟩
  refine q _ s _ G H h c (Ex.refl G H) (r.set rv) (List.length_set) fun j hj => ?_
  exact List.getElem?_set_ne fun e => hj (by rw [e]; exact List.mem_singleton.mpr rfl)
theorem dgs_nil (hK : X.K = B.K) : DGs B X [] [] (fun ds env => bnd (ask (ds = [])) fun _ => ret env) := by
  refine ⟨hK, pgs_mono pgs_nil ?_⟩
  rintro v σ H Q ⟨G, env, s, R, x, c, r, rv, ⟨e, h⟩, q⟩
  subst e
  cases rv
  exact ⟨rfl, q env s σ G H h c (Ex.refl G H) r rfl fun _ _ => rfl⟩
def headW (ds : List PyData) (f : PyData → List PyData → Wp S En) : Wp S En := match ds with
  | d :: ds => f d ds
  | [] => get none
theorem dgs_cons {e : Expr} {es : List Expr} {t u : List Nat} {g : Dv → En → Wp S En} {k : List PyData → En → Wp S En} (h1 : DG B X e t g) (h2 : DGs B X es u k) (hs : (assignEach (e :: es) X.env).map (·.2) = assign e X.env :: (assignEach es X.env).map (·.2) := by rfl) : DGs B X (e :: es) (t ++ u) (fun ds env => headW ds fun d ds => bnd (g (.d d) env) fun env1 => k ds env1) := by
  refine ⟨h1.k, pgs_mono (pgs_cons h1.pg h2.pgs hs) ?_⟩
  rintro v σ H Q ⟨G, env, s, R, x, c, r, rv, h, q⟩
  cases rv with
  | nil => exact (nomatch h : False).elim
  | cons r1 r2 =>
    refine ⟨_, _, rfl, G, env, s, _, .d _, c, r, r1, h, fun env1 s1 σ1 G1 H1 k1 c1 e1 p1 l1 n1 => ?_⟩
    refine ⟨G1, env1, s1, R, _, c1, p1, DRs.same e1.gg _ _ r2, k1, fun env2 s2 σ2 G2 H2 k2 c2 e2 p2 l2 n2 => ?_⟩
    refine q env2 s2 σ2 G2 H2 k2 c2 (e1.trans e2) p2 (l2.trans l1) fun j hj => ?_
    rw [n2 j fun z => hj (List.mem_append.mpr (.inr z)), n1 j fun z => hj (List.mem_append.mpr (.inl z))]
def tupOf : Dv → Option (List PyData)
  | .d (.tuple ds) => some ds
  | _ => none
theorem tupOf_rv {K : PySem.W.Frag} {G : Hp} {v : V} {x : Dv} {ds : List PyData} (h : tupOf x = some ds) (r : RV K G v x) : ∃ a vs, v = .ref a ∧ SqT K G a vs ∧ DRs K G vs ds := by
  cases x with
  | o u => cases h
  | d x =>
    cases r with
    | tup e r => cases h; exact ⟨_, _, rfl, e, r⟩
    | _ => cases h
theorem dg_tup {es : List Expr} {ts : List Nat} {k n : Nat} {pos : Pos} {g : List PyData → En → Wp S En} (hc : X.calm = true) (h : DGs B X es ts g) (hn : (assignEach es X.env).length = n := by rfl) (hst : (assignEach es X.env).findIdx? (·.1) = none := by rfl) :
    DG B X (.Tuple es k pos) ts (fun x env => bnd (get (tupOf x)) fun ds => bnd (ask (ds.length = n)) fun _ => g ds env) := by
  have hk := h.k
  refine ⟨h.k, pg_mono (pg_tup hc h.pgs hn hst) ?_⟩
  rintro v σ H Q ⟨G, env, s, R, x, c, r, rv, ⟨ds, ed, hl, h⟩, q⟩
  obtain ⟨a, vs, rfl, e, rd⟩ := tupOf_rv ed rv
  rw [hk]
  exact ⟨a, vs, rfl, sqT_same e c.sub, by rw [rd.length]; exact hl, G, env, s, R, ds, c, r, rd, h, q⟩

/-! ### comprehensions -/
structure DTs (B : Bx S) (X : Cx) (ifs : List Expr) (w : En → Wp S Bool) : Prop where
  k : X.K = B.K
  pts : PTs X ifs (tDb B w)
theorem dts_nil (hK : X.K = B.K) : DTs B X [] (fun _ => ret true) := by
  refine ⟨hK, ⟨fun pins s σ H Q I h => pts_nil.run pins s σ H Q I ?_⟩⟩
  obtain ⟨G, env, s1, R, c, r, h, q⟩ := h
  exact q true s1 G H h c (Ex.refl G H)
theorem dts_one {c : Expr} {w : En → Wp S Bool} (h : DT B X c w) : DTs B X [c] w := ⟨h.k, pts_one h.pt⟩
def wipeE (env : En) : List Nat → En
  | [] => env
  | v :: vs => (wipeE env vs).set v none
theorem Rep.drop {G H : Hp} {σ : L2.St} {env : En} {i : Nat} (r : Rep B G H σ env) : Rep B G H (σ.set i none) (env.set i none) := by
  have other : ∀ {j : Nat} {y : Sv}, (env.set i none)[j]? = some (some y) → j ≠ i ∧ env[j]? = some (some y) := fun {j y} h => by
    by_cases hj : j = i
    · subst hj
      by_cases hi : j < env.length
      · rw [List.getElem?_set_self hi] at h
        cases h
      · rw [List.getElem?_eq_none (by rw [List.length_set]; omega)] at h
        cases h
    · rw [List.getElem?_set_ne (Ne.symm hj)] at h
      exact ⟨hj, h⟩
  refine ⟨by rw [List.length_set, List.length_set, r.len], fun j y h => ?_, fun j xs h => ?_, fun j k xs ys p hjk h1 h2 h3 => ?_⟩
  · obtain ⟨hj, h⟩ := other h
    obtain ⟨u, h1, h2⟩ := r.val j y h
    exact ⟨u, by rw [List.getElem?_set_ne (Ne.symm hj)]; exact h1, h2⟩
  · obtain ⟨hj, h⟩ := other h
    obtain ⟨u, h1, h2⟩ := r.own j xs h
    exact ⟨u, by rw [List.getElem?_set_ne (Ne.symm hj)]; exact h1, h2⟩
  · obtain ⟨hj, h1⟩ := other h1
    obtain ⟨hk, h2⟩ := other h2
    rw [List.getElem?_set_ne (Ne.symm hj)] at h3
    rw [List.getElem?_set_ne (Ne.symm hk)]
    exact r.apart j k xs ys p hjk h1 h2 h3
theorem Rep.wipe {G H : Hp} {σ : L2.St} {env : En} (r : Rep B G H σ env) : ∀ vs : List Nat, Rep B G H (wipe σ vs) (wipeE env vs)
  | [] => r
  | v :: vs => (r.wipe vs).drop
theorem wipe_get {σ : L2.St} {j : Nat} : ∀ {vs : List Nat}, j ∈ vs → j < σ.length → (wipe σ vs)[j]? = some none
  | v :: vs, h, hl => by
    unfold wipe
    by_cases e : v = j
    · subst e
      exact List.getElem?_set_self (by rw [wipe_length]; exact hl)
    · rw [List.getElem?_set_ne e]
      rcases List.mem_cons.mp h with h | h
      · exact absurd h.symm e
      · exact wipe_get h hl
theorem wipe_eq {σ σ2 : L2.St} {vs ts : List Nat} (hts : ∀ j ∈ ts, j ∈ vs) (hl : σ2.length = (wipe σ vs).length) (h : ∀ j, j ∉ ts → σ2[j]? = (wipe σ vs)[j]?) : wipe σ2 vs = wipe σ vs := by
  rw [wipe_length] at hl
  refine List.ext_getElem? fun j => ?_
  by_cases hj : j ∈ vs
  · by_cases hz : j < σ.length
    · rw [wipe_get hj hz, wipe_get hj (by omega)]
    · rw [List.getElem?_eq_none (by rw [wipe_length]; omega), List.getElem?_eq_none (by rw [wipe_length]; omega)]
  · rw [wipe_out hj, h j fun z => hj (hts j z)]
def lcW (g : Dv → En → Wp S En) (t : En → Wp S Bool) (e : En → Wp S Dv) (env0 : En) : List Dv → List PyData → Wp S (List PyData)
  | [], acc => ret acc
  | x :: xs, acc => bnd (g x env0) fun env2 => bnd (t env2) fun b => if b = true then bnd (e env2) fun y => bnd (get (dataOf y)) fun d => bnd (ask (acc.length < sizeLine)) fun _ => lcW g t e env0 xs (acc ++ [d]) else lcW g t e env0 xs acc
theorem dataOf_rv {K : PySem.W.Frag} {G : Hp} {v : V} {x : Dv} {d : PyData} (h : dataOf x = some d) (r : RV K G v x) : DR K G v d := by
  cases x with
  | o u => cases h
  | d x => cases h; exact r
theorem lc_read {own : List (Str × Nat)} {wi : En → Wp S (List Dv)} {ts : List Nat} {g : Dv → En → Wp S En} {t : En → Wp S Bool} {e : En → Wp S Dv} (hts : ∀ j ∈ ts, j ∈ own.map (·.2)) {σ : L2.St} {H : Hp} {Q : VK}
    (h : tDf B (fun env => bnd (wi env) fun items => lcW g t e (wipeE env (own.map (·.2))) items []) σ H Q) : tLc (tDi B wi) (tDg B ts g) (tDb B t) (tD B e) (own.map (·.2)) σ H Q := by
  obtain ⟨G, env, s, R, c, r, hw, q⟩ := h
  refine ⟨G, env, s, _, c, r, hw, fun items s1 G1 H1 J h1 c1 e1 wk D hD => ?_⟩
  obtain ⟨Gd, Y, hwk, hgd, hy⟩ := wk
  have gD : G1 D = none := c1.gnone hD
  have oD : ¬ B.O D := c1.onone hD
  have h0D : B.H0 D = none := c1.hnone hD
  have HD : H D = none := by
    rcases z : H D with _ | u
    · rfl
    · exact absurd hD (e1.alive D (by rw [z]; simp))
  have exput : ∀ {G2 H2 : Hp} {o : HO}, Ex B G1 H1 G2 H2 → G2 D = none → Ex B G1 H1 G2 (upd H2 D o) := fun {G2 H2 o} ex g2 => ⟨ex.gg, fun b u hb eb => by
    rw [upd_ne (ne_of_none eb hD)]
    exact ex.keep b u hb eb, ex.fresh, fun b hb => by
    by_cases z : b = D
    · rw [z, upd_same]
      simp
    · rw [upd_ne z]
      exact ex.alive b hb⟩
  refine lc_it hwk (fun i Hi => ∃ Gi si vs acc, Cc B Gi Hi si ∧ Ex B G1 H1 Gi Hi ∧ Hi D = some (.lst vs) ∧ Gi D = none ∧ DRs B.K Gi vs acc ∧ lcW g t e (wipeE env (own.map (·.2))) (items.drop i) acc R si)
    ⟨G1, s1, [], [], c1.side hD, exput (Ex.refl _ _) gD, upd_same, gD, .nil, h1⟩ (fun i Hi _ ⟨Gi, si, vs, acc, ci, ei, _⟩ => hgd _ _ ei.gg ci.sub) ?_ ?_
  · rintro i x Hi H' hi ⟨Gi, si, vs, acc, ci, ei, hDi, gDi, rd, hl⟩ hY
    obtain ⟨d, G3, hd, c3, e3, rv⟩ := hy i Gi Hi si x H' hi ci ei.gg hY
    have hdrop : items.drop i = d :: items.drop (i + 1) := by
      rw [List.getElem?_eq_getElem hi] at hd
      rw [List.drop_eq_getElem_cons hi, Option.some.inj hd]
    rw [hdrop] at hl
    have r3 : Rep B G3 H' (wipe σ (own.map (·.2))) (wipeE env (own.map (·.2))) := (r.ex ((e1.trans ei).trans e3)).wipe _
    refine ⟨G3, _, si, _, d, c3, r3, rv, hl, fun env2 s2 σ2 G4 H4 k4 c4 e4 r4 l4 n4 => ⟨wipe_eq hts l4 n4, ?_⟩⟩
    refine tDb_of c4 r4 k4 fun b s5 G5 H5 k5 c5 e5 r5 => ?_
    have e15 := ((ei.trans e3).trans e4).trans e5
    have ei5 := (e3.trans e4).trans e5
    have hD5 : H5 D = some (.lst vs) := ei5.keep _ _ oD hDi
    have gD5 : G5 D = none := ei5.fresh _ (by rw [hDi]; simp) gDi
    have rd5 := DRs.same ei5.gg _ _ rd
    cases b with
    | false =>
      rw [if_neg Bool.false_ne_true]
      exact ⟨G5, s5, vs, acc, c5, e15, hD5, gD5, rd5, k5⟩
    | true =>
      rw [if_pos rfl]
      refine tD_of c5 r5 (show e env2 _ s5 from k5) fun y s6 v G6 H6 k6 c6 e6 r6 rv6 => ?_
      obtain ⟨dy, edy, hz, k6⟩ := k6
      have hD6 : H6 D = some (.lst vs) := e6.keep _ _ oD hD5
      have gD6 : G6 D = none := e6.fresh _ (by rw [hD5]; simp) gD5
      have rd6 := DRs.same e6.gg _ _ rd5
      refine ⟨vs, hD6, by rw [rd6.length]; exact hz, G6, s6, _, _, c6.put gD6 oD h0D, exput (e15.trans e6) gD6, upd_same, gD6, rd6.append (.cons (dataOf_rv edy rv6) .nil), k6⟩
  · rintro Hi ⟨Gi, si, vs, acc, ci, ei, hDi, gDi, rd, hl⟩
    rw [List.drop_eq_nil_of_le (Nat.le_refl _)] at hl
    exact q acc si D vs Gi Hi hl HD gDi hDi rd ci (e1.trans ei)

theorem df_lc {elt tg iter : Expr} {ifs : List Expr} {scope : Scope} {own : List (Str × Nat)} {pos : Pos} {wi : En → Wp S (List Dv)} {ts : List Nat} {g : Dv → En → Wp S En} {t : En → Wp S Bool} {e : En → Wp S Dv} (hc : X.calm = true) (hN : X.N.Nodup) (hi : DI B X tg iter wi) (ok : BlkOk X.N X.env.scope scope own)
    (hg : ∀ (s : Shared) (H : Hp) (C : Addr) (cl : List (Str × Addr)) (fp : List Addr), DG B (X.blk s H scope (compEnvC scope cl C X.env) fp) tg ts g) (ht : ∀ (s : Shared) (H : Hp) (C : Addr) (cl : List (Str × Addr)) (fp : List Addr), DTs B (X.blk s H scope (compEnvC scope cl C X.env) fp) ifs t)
    (he : ∀ (s : Shared) (H : Hp) (C : Addr) (cl : List (Str × Addr)) (fp : List Addr), DE B (X.blk s H scope (compEnvC scope cl C X.env) fp) elt e) (hts : ∀ j ∈ ts, j ∈ own.map (·.2) := by decide) (hs : ∀ x, foldedSetIterable iter X.env x = pure x := by intro _; rfl) :
    DF B X (.ListComp elt [⟨tg, iter, ifs, 0⟩] scope pos) (fun env => bnd (wi env) fun items => lcW g t e (wipeE env (own.map (·.2))) items []) := by
  exact ⟨hi.k, pe_mono (pe_lc hc hN hi.pi ok (fun s H C cl fp => (hg s H C cl fp).pg) (fun s H C cl fp => (ht s H C cl fp).pts) (fun s H C cl fp => (he s H C cl fp).pe) hs) fun σ H Q h => lc_read hts h⟩

/-! ### slices -/
structure DO (B : Bx S) (X : Cx) (e : Option Expr) (w : En → Wp S (Option Int)) : Prop where
  k : X.K = B.K
  po : ∃ t, PO X e t ∧ ∀ (G H : Hp) (s : S) (σ : L2.St) (env : En) (R : Option Int → S → Prop) (Q : Option Int → Hp → Prop), Cc B G H s → Rep B G H σ env → w env R s →
    (∀ x s1 G1 H1, R x s1 → Cc B G1 H1 s1 → Ex B G H G1 H1 → Rep B G1 H1 σ env → Q x H1) → t σ H Q
theorem do_none (hK : X.K = B.K) : DO B X none (fun _ => ret none) := ⟨hK, _, po_none, fun G H s σ env R Q c r h q => q none s G H h c (Ex.refl G H) r⟩
theorem do_some {e : Expr} {w : En → Wp S Dv} (h : DE B X e w) : DO B X (some e) (fun env => bnd (w env) fun x => bnd (get (intOf x)) fun i => ret (some i)) := by
  refine ⟨h.k, _, po_some h.pe, fun G H s σ env R Q c r hw q => ?_⟩
  refine tD_of c r hw fun x s1 v G1 H1 h1 c1 e1 r1 rv => ?_
  obtain ⟨i, ei, h1⟩ := h1
  exact ⟨i, intOf_rv ei rv, q _ s1 G1 H1 h1 c1 e1 r1⟩
def cutD (xs : List PyData) (lo hi : Option Int) : List PyData := (xs.drop (HT.sIx xs.length 0 lo)).take (HT.sIx xs.length xs.length hi - HT.sIx xs.length 0 lo)
theorem DRs.cut {K : PySem.W.Frag} {G : Hp} {vs : List V} {ds : List PyData} (h : DRs K G vs ds) (lo hi : Option Int) : DRs K G (cutV vs lo hi) (cutD ds lo hi) := by
  unfold cutV cutD
  rw [h.length]
  exact (h.drop _).take _
def sliceD (x : Dv) (lo hi : Option Int) : Option PyData := match x with
  | .d (.list ds) => some (.list (cutD ds lo hi))
  | .d (.tuple ds) => some (.tuple (cutD ds lo hi))
  | .d (.str z) => if z.length ≤ sizeLine then some (.str (cutS z lo hi)) else none
  | _ => none
def rSlAny (K : PySem.W.Frag) : V → Option Int → Option Int → Hp → VK → Prop := fun x lo hi H Q => rSlL K x lo hi H Q ∨ rSlA K x lo hi H Q ∨ rSlS x lo hi H Q
theorem sl_any : SlR X (rSlAny X.K) := by
  intro pins s σ H x v vl vu lo hi sl Q I rx hs pl pu h
  rcases h with h | h | h
  · exact sl_list pins s σ H x v vl vu lo hi sl Q I rx hs pl pu h
  · exact sl_tupA pins s σ H x v vl vu lo hi sl Q I rx hs pl pu h
  · exact sl_str pins s σ H x v vl vu lo hi sl Q I rx hs pl pu h
theorem cut_whole (ds : List PyData) {lo hi : Option Int} (h : HT.sIx ds.length 0 lo = 0 ∧ HT.sIx ds.length ds.length hi = ds.length) : cutD ds lo hi = ds := by
  unfold cutD
  rw [h.1, h.2]
  simp
theorem de_slice {e : Expr} {lo hi : Option Expr} {p2 pos : Pos} {we : En → Wp S Dv} {wl wh : En → Wp S (Option Int)} (he : DE B X e we) (hl : DO B X lo wl) (hh : DO B X hi wh) :
    DE B X (.Subscript e (.Slice lo hi none p2) pos) (fun env => bnd (we env) fun x => bnd (wl env) fun l => bnd (wh env) fun u => bnd (get (sliceD x l u)) fun d => ret (.d d)) := by
  obtain ⟨tl, pl, dl⟩ := hl.po
  obtain ⟨th, ph, dh⟩ := hh.po
  have hk := he.k
  refine ⟨he.k, pe_mono (pe_slice sl_any he.pe pl ph) ?_⟩
  rintro σ H Q ⟨G, env, s, R, c, r, hw, q⟩
  refine tD_of c r hw fun x s1 v G1 H1 h1 c1 e1 r1 rv => ?_
  refine dl G1 H1 s1 σ env _ _ c1 r1 h1 fun l s2 G2 H2 h2 c2 e2 r2 => ?_
  refine dh G2 H2 s2 σ env _ _ c2 r2 h2 fun u s3 G3 H3 h3 c3 e3 r3 => ?_
  obtain ⟨d, ed, h3⟩ := h3
  have ee := (e1.trans e2).trans e3
  have rv3 : RV B.K G3 v x := rv.same (e2.gg.trans e3.gg)
  rw [hk]
  cases x with
  | o z => cases ed
  | d x =>
    cases rv3 with
    | lst ea rd =>
      cases ed
      exact .inl ⟨_, _, rfl, .inl (.inl (c3.sub _ _ ea)), fun p hp => q _ s3 _ _ _ h3 (c3.new hp) (ee.trans (Ex.new c3 hp)) (.lst upd_same (DRs.same (Ex.new c3 hp).gg _ _ (rd.cut l u)))⟩
    | @tup a xs ds ea rd =>
      cases ed
      have hn := rd.length
      refine .inr (.inl ⟨_, _, rfl, sqT_same ea c3.sub, fun hw => ?_, fun hw p hp => ?_⟩)
      · have hw2 : HT.sIx ds.length 0 l = 0 ∧ HT.sIx ds.length ds.length u = ds.length := by rw [← hn]; exact hw
        refine q _ s3 _ G3 H3 h3 c3 ee ?_
        rw [cut_whole ds hw2]
        exact .tup ea rd
      · exact q _ s3 _ _ _ h3 (c3.new hp) (ee.trans (Ex.new c3 hp)) (.tup (.inl (.inl upd_same)) (DRs.same (Ex.new c3 hp).gg _ _ (rd.cut l u)))
    | str z =>
      have ed : (if z.length ≤ sizeLine then some (PyData.str (cutS z l u)) else none) = some d := ed
      split at ed
      · cases ed
        exact .inr (.inr ⟨z, rfl, by assumption, q _ s3 _ G3 H3 h3 c3 ee (.str _)⟩)
      · cases ed
    | _ => cases ed
end
end L2.DD

set_option maxRecDepth 100000
set_option maxHeartbeats 4000000
namespace L2.DD
open PySem PySem.Spec PyProof.Rows
section
variable {S : Type} {B : Bx S} {X : Cx}

/-! ### statements -/
def seqW (fl : Fl) (u : En → Wp S Fl) : Wp S Fl := match fl with
  | .nx env => u env
  | .rt x => ret (.rt x)
  | .bk env => ret (.bk env)
  | .ct env => ret (.ct env)
theorem dss_nil (hK : X.K = B.K) : DSs B X [] (fun env => ret (.nx env)) := by
  refine ⟨hK, pss_mono pss_nil ?_⟩
  rintro σ H D ⟨G, env, s, R, c, r, h, q, _⟩
  exact q env s σ G H h c (Same.refl G) r
theorem dss_cons {st : Stmt} {rest : List Stmt} {w u : En → Wp S Fl} (h1 : DS B X st w) (h2 : DSs B X rest u) : DSs B X (st :: rest) (fun env => bnd (w env) fun fl => seqW fl u) := by
  refine ⟨h1.k, pss_mono (pss_cons h1.ps h2.pss) ?_⟩
  rintro σ H D ⟨G, env, s, R, c, r, h, q1, q2, q3, q4⟩
  refine ⟨G, env, s, _, c, r, h, fun env1 s1 σ1 G1 H1 k1 c1 g1 r1 => ?_, fun x s1 v G1 H1 k1 c1 g1 rv => q2 x s1 v G1 H1 k1 c1 g1 rv, fun env1 s1 σ1 G1 H1 k1 c1 g1 r1 => q3 env1 s1 σ1 G1 H1 k1 c1 g1 r1, fun env1 s1 σ1 G1 H1 k1 c1 g1 r1 => q4 env1 s1 σ1 G1 H1 k1 c1 g1 r1⟩
  exact ⟨G1, env1, s1, R, c1, r1, k1, fun e s σ G H a b g d => q1 e s σ G H a b (g1.trans g) d, fun x s v G H a b g d => q2 x s v G H a b (g1.trans g) d, fun e s σ G H a b g d => q3 e s σ G H a b (g1.trans g) d, fun e s σ G H a b g d => q4 e s σ G H a b (g1.trans g) d⟩
theorem dss_one {st : Stmt} {w : En → Wp S Fl} (h : DS B X st w) : DSs B X [st] w := ⟨h.k, pss_one h.ps⟩
theorem ds_pass (hK : X.K = B.K) {pos : Pos} : DS B X (.Pass pos) (fun env => ret (.nx env)) := by
  refine ⟨hK, ps_mono ps_pass ?_⟩
  rintro σ H D ⟨G, env, s, R, c, r, h, q, _⟩
  exact q env s σ G H h c (Same.refl G) r
theorem ds_break (hK : X.K = B.K) {pos : Pos} : DS B X (.Break pos) (fun env => ret (.bk env)) := by
  refine ⟨hK, ps_mono ps_break ?_⟩
  rintro σ H D ⟨G, env, s, R, c, r, h, _, _, q, _⟩
  exact q env s σ G H h c (Same.refl G) r
theorem ds_continue (hK : X.K = B.K) {pos : Pos} : DS B X (.Continue pos) (fun env => ret (.ct env)) := by
  refine ⟨hK, ps_mono ps_continue ?_⟩
  rintro σ H D ⟨G, env, s, R, c, r, h, _, _, _, q⟩
  exact q env s σ G H h c (Same.refl G) r
theorem ds_ret {e : Expr} {w : En → Wp S Dv} {pos : Pos} (h : DE B X e w) : DS B X (.Return (some e) pos) (fun env => bnd (w env) fun x => ret (.rt x)) := by
  refine ⟨h.k, ps_mono (ps_ret h.pe) ?_⟩
  rintro σ H D ⟨G, env, s, R, c, r, hw, _, q, _⟩
  exact tD_of c r hw fun x s1 v G1 H1 h1 c1 e1 r1 rv => q x s1 v G1 H1 h1 c1 e1.gg rv
theorem ds_retN (hK : X.K = B.K) {pos : Pos} : DS B X (.Return none pos) (fun env => ret (.rt (.d .none))) := by
  refine ⟨hK, ps_mono ps_retN ?_⟩
  rintro σ H D ⟨G, env, s, R, c, r, hw, _, q, _⟩
  exact q _ s _ G H hw c (Same.refl G) .non
theorem ds_expr {e : Expr} {w : En → Wp S Dv} {pos : Pos} (h : DE B X e w) (hs : swapsWith e none pos.line X.env = pure false := by rfl) : DS B X (.Expr e pos) (fun env => bnd (w env) fun _ => ret (.nx env)) := by
  refine ⟨h.k, ps_mono (ps_expr h.pe hs) ?_⟩
  rintro σ H D ⟨G, env, s, R, c, r, hw, q, _⟩
  exact tD_of c r hw fun x s1 v G1 H1 h1 c1 e1 r1 rv => q env s1 σ G1 H1 h1 c1 e1.gg r1
theorem ds_if {t : Expr} {a b : List Stmt} {wt : En → Wp S Bool} {wa wb : En → Wp S Fl} {pos : Pos} (ht : DT B X t wt) (ha : DSs B X a wa) (hb : DSs B X b wb) : DS B X (.If t a b pos) (fun env => bnd (wt env) fun c => if c = true then wa env else wb env) := by
  refine ⟨ht.k, ps_mono (ps_if ht.pt ha.pss hb.pss) ?_⟩
  rintro σ H D ⟨G, env, s, R, c, r, hw, q1, q2, q3, q4⟩
  refine tDb_of c r hw fun b s1 G1 H1 h1 c1 e1 r1 => ?_
  have fin : ∀ w : En → Wp S Fl, w env R s1 → tDs B w D σ H1 := fun w hw => ⟨G1, env, s1, R, c1, r1, hw, fun e s σ G H a b g d => q1 e s σ G H a b (e1.gg.trans g) d, fun x s v G H a b g d => q2 x s v G H a b (e1.gg.trans g) d, fun e s σ G H a b g d => q3 e s σ G H a b (e1.gg.trans g) d, fun e s σ G H a b g d => q4 e s σ G H a b (e1.gg.trans g) d⟩
  cases b with
  | true => exact fin wa h1
  | false => exact fin wb h1
theorem ds_set {i : Nat} {x : Str} {e : Expr} {w : En → Wp S Dv} {pos' pos : Pos} (hN : X.N.Nodup) (hi : X.N[i]? = some x) (hx : Loc X.env.scope x) (h : DE B X e w) (hs : swapsWith e (some (.Name x pos')) pos.line X.env = pure false := by rfl) (hf : X.fn x = true ∨ X.env.scope.names.lookup x = some .local := by first | exact .inl rfl | exact .inr rfl | assumption) :
    DS B X (.Assign [.Name x pos'] e pos) (fun env => bnd (w env) fun x => ret (.nx (env.set i (some (.v x))))) := by
  refine ⟨h.k, ps_mono (ps_set hN hi hx h.pe hs hf) ?_⟩
  rintro σ H D ⟨G, env, s, R, c, r, hw, q, _⟩
  exact tD_of c r hw fun x s1 v G1 H1 h1 c1 e1 r1 rv => q _ s1 _ G1 H1 h1 c1 e1.gg (r1.set rv)
/-- a list that nothing else holds -/
theorem Rep.setOwn {G H H1 : Hp} {σ : L2.St} {env : En} {i : Nat} {p : Addr} {xs : List PyData} (r : Rep B G H σ env) (hp : ∀ (j : Nat) ys, j ≠ i → env[j]? = some (some (.own ys)) → σ[j]? ≠ some (some (.ref p)))
    (ho : ∀ (j : Nat) ys q, j ≠ i → env[j]? = some (some (.own ys)) → σ[j]? = some (some (.ref q)) → OwnAt B G H q ys → OwnAt B G H1 q ys) (w : OwnAt B G H1 p xs) : Rep B G H1 (σ.set i (some (.ref p))) (env.set i (some (.own xs))) := by
  have hlen := r.len
  have other : ∀ {j : Nat} {y : Option Sv}, j ≠ i → (env.set i (some (.own xs)))[j]? = some y → env[j]? = some y := fun hj h => by rwa [List.getElem?_set_ne (Ne.symm hj)] at h
  have self : ∀ {y : Option Sv}, (env.set i (some (.own xs)))[i]? = some y → i < env.length ∧ y = some (.own xs) := fun {y} h => by
    by_cases hi : i < env.length
    · rw [List.getElem?_set_self hi] at h
      exact ⟨hi, (Option.some.inj h).symm⟩
    · rw [List.getElem?_eq_none (by rw [List.length_set]; omega)] at h
      cases h
  refine ⟨by rw [List.length_set, List.length_set, hlen], fun j y h => ?_, fun j ys h => ?_, fun j k ys zs q hjk h1 h2 h3 => ?_⟩
  · by_cases hj : j = i
    · subst hj
      obtain ⟨hi, e⟩ := self h
      cases e
    · obtain ⟨u, h1, h2⟩ := r.val j y (other hj h)
      exact ⟨u, by rw [List.getElem?_set_ne (Ne.symm hj)]; exact h1, h2⟩
  · by_cases hj : j = i
    · subst hj
      obtain ⟨hi, e⟩ := self h
      cases e
      exact ⟨p, List.getElem?_set_self (by omega), w⟩
    · obtain ⟨u, h1, h2⟩ := r.own j ys (other hj h)
      exact ⟨u, by rw [List.getElem?_set_ne (Ne.symm hj)]; exact h1, ho j ys u hj (other hj h) h1 h2⟩
  · by_cases hj : j = i
    · subst hj
      obtain ⟨hi, e⟩ := self h1
      rw [List.getElem?_set_self (by omega)] at h3
      cases h3
      rw [List.getElem?_set_ne hjk]
      exact hp k zs (Ne.symm hjk) (other (Ne.symm hjk) h2)
    · rw [List.getElem?_set_ne (Ne.symm hj)] at h3
      by_cases hk : k = i
      · subst hk
        obtain ⟨hi, e⟩ := self h2
        rw [List.getElem?_set_self (by omega)]
        intro e2
        cases e2
        exact hp j ys hj (other hj h1) h3
      · rw [List.getElem?_set_ne (Ne.symm hk)]
        exact r.apart j k ys zs q hjk (other hj h1) (other hk h2) h3
theorem own_new {G H G1 H1 : Hp} {s : S} {σ : L2.St} {env : En} {i : Nat} {p : Addr} {vs : List V} {xs : List PyData} (r : Rep B G H σ env) (c : Cc B G H s) (e1 : Ex B G H G1 H1) (hp : H p = none) (gp : G1 p = none) (hp1 : H1 p = some (.lst vs)) (rd : DRs B.K G1 vs xs) :
    Rep B G1 H1 (σ.set i (some (.ref p))) (env.set i (some (.own xs))) := by
  refine (r.ex e1).setOwn (fun j ys hj he hs => ?_) (fun j ys q hj he hs w => w) ⟨vs, hp1, gp, c.onone hp, c.hnone hp, rd⟩
  obtain ⟨q, e2, vs2, e3, _⟩ := r.own j ys he
  rw [hs] at e2
  cases e2
  rw [hp] at e3
  cases e3
theorem ds_own {i : Nat} {x : Str} {e : Expr} {w : En → Wp S (List PyData)} {pos' pos : Pos} (hN : X.N.Nodup) (hi : X.N[i]? = some x) (hx : Loc X.env.scope x) (h : DF B X e w) (hs : swapsWith e (some (.Name x pos')) pos.line X.env = pure false := by rfl) (hf : X.fn x = true ∨ X.env.scope.names.lookup x = some .local := by first | exact .inl rfl | exact .inr rfl | assumption) :
    DS B X (.Assign [.Name x pos'] e pos) (fun env => bnd (w env) fun xs => ret (.nx (env.set i (some (.own xs))))) := by
  refine ⟨h.k, ps_mono (ps_set hN hi hx h.pe hs hf) ?_⟩
  rintro σ H D ⟨G, env, s, R, c, r, hw, q, _⟩
  exact ⟨G, env, s, _, c, r, hw, fun xs s1 p vs G1 H1 h1 hp gp hp1 rd c1 e1 => q _ s1 _ G1 H1 h1 c1 e1.gg (own_new r c e1 hp gp hp1 rd)⟩
/-- name = [.. for ..] on one line -/
theorem ds_setLc {i : Nat} {y : Str} {py : Pos} {elt tg iter : Expr} {ifs : List Expr} {scope : Scope} {own : List (Str × Nat)} {pos spos : Pos} {wi : En → Wp S (List Dv)} {ts : List Nat} {g : Dv → En → Wp S En} {t : En → Wp S Bool} {e : En → Wp S Dv} (hc : X.calm = true) (hN : X.N.Nodup) (hy : X.N[i]? = some y) (hyl : X.env.scope.names.lookup y = some .local)
    (hsw : swapsWith (.ListComp elt [⟨tg, iter, ifs, 0⟩] scope pos) (some (.Name y py)) spos.line X.env = pure true) (hi : DI B X tg iter wi) (ok : BlkOk X.N X.env.scope scope own)
    (hg : ∀ (s : Shared) (H : Hp) (C : Addr) (cl : List (Str × Addr)) (fp : List Addr), DG B (X.blk s H scope (compEnvC scope cl C X.env) fp) tg ts g) (ht : ∀ (s : Shared) (H : Hp) (C : Addr) (cl : List (Str × Addr)) (fp : List Addr), DTs B (X.blk s H scope (compEnvC scope cl C X.env) fp) ifs t)
    (he : ∀ (s : Shared) (H : Hp) (C : Addr) (cl : List (Str × Addr)) (fp : List Addr), DE B (X.blk s H scope (compEnvC scope cl C X.env) fp) elt e) (hts : ∀ j ∈ ts, j ∈ own.map (·.2) := by decide) (hs : ∀ x, foldedSetIterable iter X.env x = pure x := by intro _; rfl) :
    DS B X (.Assign [.Name y py] (.ListComp elt [⟨tg, iter, ifs, 0⟩] scope pos) spos) (fun env => bnd (bnd (wi env) fun items => lcW g t e (wipeE env (own.map (·.2))) items []) fun xs => ret (.nx (env.set i (some (.v (.d (.list xs))))))) := by
  have h := @lc_read S B own wi ts g t e hts
  refine ⟨hi.k, ps_mono (ps_setLc hc hN hy hyl hsw hi.pi ok (fun s H C cl fp => (hg s H C cl fp).pg) (fun s H C cl fp => (ht s H C cl fp).pts) (fun s H C cl fp => (he s H C cl fp).pe) hs) ?_⟩
  rintro σ H D ⟨G, env, s, R, c, r, hw, q, _⟩
  refine h ⟨G, env, s, _, c, r, hw, fun xs s1 p vs G1 H1 h1 hp gp hp1 rd c1 e1 => ?_⟩
  have no : ¬ B.O p := c.onone hp
  have sg : Same G1 (upd G1 p (.lst vs)) := fun b u e => by
    rw [upd_ne (ne_of_none e gp)]
    exact e
  have c2 := c1.grab hp1 no gp (c.hnone hp)
  have ex : Ex B G H (upd G1 p (.lst vs)) H1 := ⟨e1.gg.trans sg, e1.keep, fun b hb gb => by
    have h : b ≠ p := fun z => hb (by rw [z]; exact hp)
    rw [upd_ne h]
    exact e1.fresh b hb gb, e1.alive⟩
  exact q _ s1 _ _ H1 h1 c2 ex.gg ((r.ex ex).set (.lst upd_same (DRs.same sg _ _ rd)))
theorem ds_ownLc {i : Nat} {y : Str} {py : Pos} {elt tg iter : Expr} {ifs : List Expr} {scope : Scope} {own : List (Str × Nat)} {pos spos : Pos} {wi : En → Wp S (List Dv)} {ts : List Nat} {g : Dv → En → Wp S En} {t : En → Wp S Bool} {e : En → Wp S Dv} (hc : X.calm = true) (hN : X.N.Nodup) (hy : X.N[i]? = some y) (hyl : X.env.scope.names.lookup y = some .local)
    (hsw : swapsWith (.ListComp elt [⟨tg, iter, ifs, 0⟩] scope pos) (some (.Name y py)) spos.line X.env = pure true) (hi : DI B X tg iter wi) (ok : BlkOk X.N X.env.scope scope own)
    (hg : ∀ (s : Shared) (H : Hp) (C : Addr) (cl : List (Str × Addr)) (fp : List Addr), DG B (X.blk s H scope (compEnvC scope cl C X.env) fp) tg ts g) (ht : ∀ (s : Shared) (H : Hp) (C : Addr) (cl : List (Str × Addr)) (fp : List Addr), DTs B (X.blk s H scope (compEnvC scope cl C X.env) fp) ifs t)
    (he : ∀ (s : Shared) (H : Hp) (C : Addr) (cl : List (Str × Addr)) (fp : List Addr), DE B (X.blk s H scope (compEnvC scope cl C X.env) fp) elt e) (hts : ∀ j ∈ ts, j ∈ own.map (·.2) := by decide) (hs : ∀ x, foldedSetIterable iter X.env x = pure x := by intro _; rfl) :
    DS B X (.Assign [.Name y py] (.ListComp elt [⟨tg, iter, ifs, 0⟩] scope pos) spos) (fun env => bnd (bnd (wi env) fun items => lcW g t e (wipeE env (own.map (·.2))) items []) fun xs => ret (.nx (env.set i (some (.own xs))))) := by
  have h := @lc_read S B own wi ts g t e hts
  refine ⟨hi.k, ps_mono (ps_setLc hc hN hy hyl hsw hi.pi ok (fun s H C cl fp => (hg s H C cl fp).pg) (fun s H C cl fp => (ht s H C cl fp).pts) (fun s H C cl fp => (he s H C cl fp).pe) hs) ?_⟩
  rintro σ H D ⟨G, env, s, R, c, r, hw, q, _⟩
  exact h ⟨G, env, s, _, c, r, hw, fun xs s1 p vs G1 H1 h1 hp gp hp1 rd c1 e1 => q _ s1 _ G1 H1 h1 c1 e1.gg (own_new r c e1 hp gp hp1 rd)⟩
/-- a, b, .. = e -/
theorem ds_asg {tg e : Expr} {ts : List Nat} {w : En → Wp S Dv} {g : Dv → En → Wp S En} {pos : Pos} (h : DE B X e w) (hg : DG B X tg ts g) (hs : swapsWithSole [tg] e pos.line X.env = pure false := by rfl) (hw : swappedStores [tg] e X.env = pure none := by rfl) (h1 : (assignEach [tg] X.env).map (·.2) = [assign tg X.env] := by rfl) :
    DS B X (.Assign [tg] e pos) (fun env => bnd (w env) fun x => bnd (g x env) fun env1 => ret (.nx env1)) := by
  refine ⟨h.k, ps_mono (ps_asg h.pe hg.pg hs hw h1) ?_⟩
  rintro σ H D ⟨G, env, s, R, c, r, hw, q, _⟩
  refine tD_of c r hw fun x s1 v G1 H1 h1 c1 e1 r1 rv => ?_
  exact ⟨G1, env, s1, _, x, c1, r1, rv, h1, fun env2 s2 σ2 G2 H2 k2 c2 e2 r2 _ _ => q env2 s2 σ2 G2 H2 k2 c2 (e1.gg.trans e2.gg) r2⟩
def parW (env : En) (i j : Nat) (xs : List Dv) : Wp S Fl := match xs with
  | [u, v] => ret (.nx ((env.set i (some (.v u))).set j (some (.v v))))
  | _ => get none
/-- a, b = x, y -/
theorem ds_par {i j : Nat} {x y : Str} {a b : Expr} {w : En → Wp S (List Dv)} {px py pt pos : Pos} {kt k2 pt2} (hc : X.calm = true) (hN : X.N.Nodup) (hi : X.N[i]? = some x) (hj : X.N[j]? = some y) (hij : i ≠ j)
    (hx : X.env.scope.names.lookup x = some .local) (hy : X.env.scope.names.lookup y = some .local) (ha : DA B X [a, b] w)
    (hw : swappedStores [.Tuple [.Name x px, .Name y py] kt pt] (.Tuple [a, b] k2 pt2) X.env = pure (some [x, y]))
    (hs : swapsWithSole [.Tuple [.Name x px, .Name y py] kt pt] (.Tuple [a, b] k2 pt2) pos.line X.env = pure false := by rfl) :
    DS B X (.Assign [.Tuple [.Name x px, .Name y py] kt pt] (.Tuple [a, b] k2 pt2) pos) (fun env => bnd (w env) fun xs => parW env i j xs) := by
  refine ⟨ha.k, ps_mono (ps_par hc hN hi hj hij hx hy ha.pa hw hs) ?_⟩
  rintro σ H D ⟨G, env, s, R, c, r, hw, q, _⟩
  refine tDa_of c r hw fun xs s1 vs G1 H1 h1 c1 e1 r1 rv => ?_
  have h1 : parW env i j xs R s1 := h1
  unfold parW at h1
  split at h1
  · cases rv with
    | cons ra rb =>
      cases rb with
      | cons rb rc =>
        cases rc
        exact ⟨_, _, rfl, q _ s1 _ G1 H1 h1 c1 e1.gg ((r1.set ra).set rb)⟩
  · exact (nomatch h1 : False).elim
/-- the list of slot i is a value from now on -/
def freeze (env : En) (i : Nat) : En := match env[i]? with
  | some (some (.own xs)) => env.set i (some (.v (.d (.list xs))))
  | _ => env
theorem frozen {G H : Hp} {s : S} {σ : L2.St} {env : En} {i : Nat} (c : Cc B G H s) (r : Rep B G H σ env) : ∃ G', Same G G' ∧ Cc B G' H s ∧ Rep B G' H σ (freeze env i) := by
  unfold freeze
  split
  · rename_i xs he
    obtain ⟨p, hs, vs, h1, h2, h3, h4, h5⟩ := r.own i xs he
    have sg : Same G (upd G p (.lst vs)) := fun b u e => by
      rw [upd_ne (ne_of_none e h2)]
      exact e
    refine ⟨upd G p (.lst vs), sg, c.grab h1 h3 h2 h4, ?_⟩
    have rv : RV B.K (upd G p (.lst vs)) (.ref p) (.d (.list xs)) := .lst upd_same (DRs.same sg _ _ h5)
    have hi : i < σ.length := by
      rcases Nat.lt_or_ge i σ.length with h | h
      · exact h
      · rw [List.getElem?_eq_none h] at hs
        cases hs
    have hσ : σ.set i (some (.ref p)) = σ := by
      refine List.ext_getElem? fun j => ?_
      by_cases hj : j = i
      · subst hj
        rw [List.getElem?_set_self hi, hs]
      · rw [List.getElem?_set_ne (Ne.symm hj)]
    have other : ∀ {j : Nat} {y : Option Sv}, j ≠ i → (env.set i (some (.v (.d (.list xs)))))[j]? = some y → env[j]? = some y := fun hj h => by rwa [List.getElem?_set_ne (Ne.symm hj)] at h
    have self : ∀ {y : Option Sv}, (env.set i (some (.v (.d (.list xs)))))[i]? = some y → y = some (.v (.d (.list xs))) := fun {y} h => by
      rw [List.getElem?_set_self (by rw [r.len]; exact hi)] at h
      exact (Option.some.inj h).symm
    refine ⟨by rw [List.length_set]; exact r.len, fun j y h => ?_, fun j ys h => ?_, fun j k ys zs q hjk a b d => ?_⟩
    · by_cases hj : j = i
      · subst hj
        cases self h
        exact ⟨_, hs, rv⟩
      · obtain ⟨u, a, b⟩ := r.val j y (other hj h)
        exact ⟨u, a, b.same sg⟩
    · have hj : j ≠ i := fun e => by
        subst e
        cases self h
      obtain ⟨u, a, ws, b1, b2, b3, b4, b5⟩ := r.own j ys (other hj h)
      have hpu : u ≠ p := fun e => by
        subst e
        exact r.apart j i ys xs u hj (other hj h) he a hs
      exact ⟨u, a, ws, b1, by rw [upd_ne hpu]; exact b2, b3, b4, DRs.same sg _ _ b5⟩
    · have hj : j ≠ i := fun e => by
        subst e
        cases self a
      have hk : k ≠ i := fun e => by
        subst e
        cases self b
      exact r.apart j k ys zs q hjk (other hj a) (other hk b) d
  · exact ⟨G, Same.refl G, c, r⟩
theorem dss_freeze (i : Nat) {sts : List Stmt} {w : En → Wp S Fl} (h : DSs B X sts w) : DSs B X sts (fun env => w (freeze env i)) := by
  refine ⟨h.k, pss_mono h.pss ?_⟩
  rintro σ H D ⟨G, env, s, R, c, r, hw, q1, q2, q3, q4⟩
  obtain ⟨G1, g1, c1, r1⟩ := frozen (i := i) c r
  exact ⟨G1, _, s, R, c1, r1, hw, fun e s σ G H a b g d => q1 e s σ G H a b (g1.trans g) d, fun x s v G H a b g d => q2 x s v G H a b (g1.trans g) d, fun e s σ G H a b g d => q3 e s σ G H a b (g1.trans g) d, fun e s σ G H a b g d => q4 e s σ G H a b (g1.trans g) d⟩
/-- a test that reads lists of the def's own -/
def freezes (env : En) : List Nat → En
  | [] => env
  | i :: is => freezes (freeze env i) is
theorem frozenAll {G H : Hp} {s : S} {σ : L2.St} : ∀ (is : List Nat) {env : En} {G : Hp}, Cc B G H s → Rep B G H σ env → ∃ G', Same G G' ∧ Cc B G' H s ∧ Rep B G' H σ (freezes env is)
  | [], env, G, c, r => ⟨G, Same.refl G, c, r⟩
  | i :: is, env, G, c, r => by
    obtain ⟨G1, g1, c1, r1⟩ := frozen (i := i) c r
    obtain ⟨G2, g2, c2, r2⟩ := frozenAll (G := G) is c1 r1
    exact ⟨G2, g1.trans g2, c2, r2⟩
theorem Ex.thaw {G H G1 G2 H2 : Hp} {s1 s2 : S} (c : Cc B G H s1) (e : Ex B G1 H G2 H2) : Ex B G H G H2 := ⟨Same.refl G, e.keep, fun _ _ h => h, e.alive⟩
theorem Cc.thaw {G H G1 G2 H2 : Hp} {s1 s2 : S} (c : Cc B G H s1) (g : Same G G1) (e : Ex B G1 H G2 H2) (c2 : Cc B G2 H2 s2) : Cc B G H2 s2 :=
  ⟨fun b o h => c2.sub _ _ (e.gg _ _ (g _ _ h)), fun b hb => ⟨(c.off b hb).1, (c2.off b hb).2⟩, c2.st, c2.h0, c.g0, c2.k0, c.f0⟩
theorem dt_freeze (is : List Nat) {t : Expr} {w : En → Wp S Bool} (h : DT B X t w) : DT B X t (fun env => w (freezes env is)) := by
  refine ⟨h.k, pt_mono h.pt ?_⟩
  rintro σ H Q ⟨G, env, s, R, c, r, hw, q⟩
  obtain ⟨G1, g1, c1, r1⟩ := frozenAll (G := G) is c r
  exact ⟨G1, _, s, R, c1, r1, hw, fun x s2 G2 H2 k2 c2 e2 => q x s2 G H2 k2 (c.thaw g1 e2 c2) (Ex.thaw (s2 := s2) c e2)⟩
/-- a value without parts that comes of lists of the def's own -/
def flatD : Dv → Bool
  | .d (.list _) => false
  | .d (.tuple _) => false
  | .d (.dict _) => false
  | _ => true
theorem flat_rv {K : PySem.W.Frag} {G G' : Hp} {v : V} {x : Dv} (h : flatD x = true) (r : RV K G v x) : RV K G' v x := by
  cases x with
  | o u => exact r
  | d x =>
    cases r with
    | non => exact .non
    | bl b => exact .bl b
    | int i => exact .int i
    | str y => exact .str y
    | _ => cases h
theorem de_freeze (is : List Nat) {e : Expr} {w : En → Wp S Dv} (h : DE B X e w) : DE B X e (fun env => bnd (w (freezes env is)) fun x => bnd (ask (flatD x = true)) fun _ => ret x) := by
  refine ⟨h.k, pe_mono h.pe ?_⟩
  rintro σ H Q ⟨G, env, s, R, c, r, hw, q⟩
  obtain ⟨G1, g1, c1, r1⟩ := frozenAll (G := G) is c r
  exact ⟨G1, _, s, _, c1, r1, hw, fun x s2 v G2 H2 ⟨hf, k2⟩ c2 e2 rv => q x s2 v G H2 k2 (c.thaw g1 e2 c2) (Ex.thaw (s2 := s2) c e2) (flat_rv hf rv)⟩
def ownAt (env : En) (i : Nat) : Option (List PyData) := match env[i]? with
  | some (some (.own xs)) => some xs
  | _ => none
theorem ownAt_some {env : En} {i : Nat} {xs : List PyData} (h : ownAt env i = some xs) : env[i]? = some (some (.own xs)) := by
  unfold ownAt at h
  split at h
  · rename_i y e
    cases h
    exact e
  · cases h
theorem Rep.lt {G H : Hp} {σ : L2.St} {env : En} {i : Nat} {y : Option Sv} (r : Rep B G H σ env) (h : env[i]? = some y) : i < σ.length := by
  rcases Nat.lt_or_ge i env.length with h2 | h2
  · rw [← r.len]; exact h2
  · rw [List.getElem?_eq_none h2] at h
    cases h
/-- another list at the own list's place -/
theorem own_put {G H : Hp} {s : S} {σ : L2.St} {env : En} {i : Nat} {p : Addr} {vs : List V} {xs ys : List PyData} (c : Cc B G H s) (r : Rep B G H σ env) (he : env[i]? = some (some (.own xs))) (hs : σ[i]? = some (some (.ref p))) (rd : DRs B.K G vs ys) :
    Cc B G (upd H p (.lst vs)) s ∧ Rep B G (upd H p (.lst vs)) σ (env.set i (some (.own ys))) := by
  obtain ⟨p', hs', ws, h1, h2, h3, h4, h5⟩ := r.own i xs he
  rw [hs] at hs'
  cases hs'
  refine ⟨c.put h2 h3 h4, ?_⟩
  have hi := r.lt he
  have hσ : σ.set i (some (.ref p)) = σ := by
    refine List.ext_getElem? fun j => ?_
    by_cases hj : j = i
    · subst hj
      rw [List.getElem?_set_self hi, hs]
    · rw [List.getElem?_set_ne (Ne.symm hj)]
  have := r.setOwn (i := i) (p := p) (xs := ys) (H1 := upd H p (.lst vs)) (fun j zs hj he2 hs2 => r.apart i j xs zs p (Ne.symm hj) he he2 hs hs2) (fun j zs q hj he2 hs2 w => ?_) ⟨vs, upd_same, h2, h3, h4, rd⟩
  · rwa [hσ] at this
  · obtain ⟨us, w1, w2, w3, w4, w5⟩ := w
    have hqp : q ≠ p := fun e => by
      subst e
      exact r.apart i j xs zs q (Ne.symm hj) he he2 hs hs2
    exact ⟨us, by rw [upd_ne hqp]; exact w1, w2, w3, w4, w5⟩
theorem ds_append {i : Nat} {x : Str} {e : Expr} {w : En → Wp S Dv} {px pa pc pos : Pos} (hN : X.N[i]? = some x) (hv : Vis X.env.scope x) (h : DE B X e w)
    (hd : (x == ("__debug__" : Str)) = false := by decide) (hcd : (x == ("__classdict__" : Str)) = false := by decide)
    (hbase : attributeBase (.Name x px) "append" X.env (eval (.Name x px) X.env) = eval (.Name x px) X.env := by rfl)
    (hfew : ((backTo pc (starEach [e] X.env)).all (fun x => !x.1) && (backToKw pc (keywordEach [] X.env)).all (fun x => x.1.isSome)
      && decide ([e].length + ([] : List Keyword).length + (if ([] : List Keyword).isEmpty then 0 else 1) < 30)) = true := by rfl)
    (hline : (pa.endLine == pc.line) = true := by rfl) (hs : starEach [e] X.env = (false, eval e X.env) :: starEach [] X.env := by rfl) (hplain : (backTo pc (starEach [] X.env)).any (·.1) = false := by rfl)
    (hsw : swapsWith (.Call (.Attribute (.Name x px) "append" pa) [e] [] pc) none pos.line X.env = pure false := by rfl) :
    DS B X (.Expr (.Call (.Attribute (.Name x px) "append" pa) [e] [] pc) pos) (fun env => bnd (get (ownAt env i)) fun xs => bnd (w env) fun y => bnd (get (dataOf y)) fun d => bnd (ask (xs.length < sizeLine)) fun _ => ret (.nx (env.set i (some (.own (xs ++ [d])))))) := by
  refine ⟨h.k, ps_mono (ps_expr (pe_bm PySem.F.plainAttrs_list PySem.F.slot_list_append PySem.F.type_list_append mt_append (pe_var hN hv hd hcd) (pa_cons h.pe pa_nil hs) hbase hfew hline hs hplain) hsw) ?_⟩
  rintro σ H D ⟨G, env, s, R, c, r, ⟨xs, ex, hw⟩, q, _⟩
  have he := ownAt_some ex
  obtain ⟨p, hp, vs, h1, h2, h3, h4, h5⟩ := r.own i xs he
  refine ⟨_, hp, .inl ⟨rfl, _, .inl (.inl h1)⟩, ?_⟩
  refine tD_of c r hw fun y s1 v G1 H1 k1 c1 e1 r1 rv => ?_
  obtain ⟨d, ed, hz, k1⟩ := k1
  have h1' : H1 p = some (.lst vs) := e1.keep _ _ h3 h1
  have h5' := DRs.same e1.gg _ _ h5
  refine ⟨p, vs, v, rfl, rfl, h1', by rw [h5'.length]; exact hz, ?_⟩
  obtain ⟨c2, r2⟩ := own_put (vs := vs ++ [v]) (ys := xs ++ [d]) c1 r1 he hp (h5'.append (.cons (dataOf_rv ed rv) .nil))
  exact q _ s1 σ G1 _ k1 c2 e1.gg r2

/-! ### for -/
def forW (g : Dv → En → Wp S En) (b : En → Wp S Fl) : List Dv → En → Wp S Fl
  | [], env => ret (.nx env)
  | x :: xs, env => bnd (g x env) fun e1 => bnd (b e1) fun fl => match fl with
    | .nx e => forW g b xs e
    | .ct e => forW g b xs e
    | .bk e => ret (.nx e)
    | .rt d => ret (.rt d)
theorem ds_for {tg iter : Expr} {body : List Stmt} {wi : En → Wp S (List Dv)} {ts : List Nat} {g : Dv → En → Wp S En} {b : En → Wp S Fl} {pos : Pos} (hp : PassesOwn (model X.prog X.w) X.A X.env X.xe) (hc : X.calm = true) (hi : DI B X tg iter wi) (hg : DG B X tg ts g) (hb : DSs B X body b)
    (hs : ∀ x, foldedSetIterable iter X.env x = pure x := by intro _; rfl) : DS B X (.For tg iter body [] pos) (fun env => bnd (wi env) fun items => forW g b items env) := by
  refine ⟨hi.k, ps_mono (ps_for hp hc hi.pi hg.pg hb.pss hs) ?_⟩
  rintro σ H D ⟨G, env, s, R, c, r, hw, q1, q2, q3, q4⟩
  refine ⟨G, env, s, _, c, r, hw, fun items s1 G1 H1 J h1 c1 e1 wk => ?_⟩
  obtain ⟨Gd, Y, hwk, hgd, hy⟩ := wk
  refine for_it hwk (fun i σi Hi => ∃ Gi si ei, Cc B Gi Hi si ∧ Same G1 Gi ∧ Rep B Gi Hi σi ei ∧ forW g b (items.drop i) ei R si)
    ⟨G1, s1, env, c1, Same.refl _, r.ex e1, h1⟩ (fun i σi Hi _ ⟨Gi, si, ei, ci, gi, _⟩ => hgd _ _ gi ci.sub) ?_ ?_
  · rintro i x σi Hi H' hi ⟨Gi, si, ei, ci, gi, ri, hl⟩ hY
    obtain ⟨d, G3, hd, c3, e3, rv⟩ := hy i Gi Hi si x H' hi ci gi hY
    have hdrop : items.drop i = d :: items.drop (i + 1) := by
      rw [List.getElem?_eq_getElem hi] at hd
      rw [List.drop_eq_getElem_cons hi, Option.some.inj hd]
    rw [hdrop] at hl
    refine ⟨G3, ei, si, _, d, c3, ri.ex e3, rv, hl, fun env2 s2 σ2 G4 H4 k4 c4 e4 r4 _ _ => ?_⟩
    have g4 : Same G1 G4 := (gi.trans e3.gg).trans e4.gg
    refine ⟨G4, env2, s2, _, c4, r4, k4, fun e5 s5 σ5 G5 H5 k5 c5 g5 r5 => ⟨G5, s5, e5, c5, g4.trans g5, r5, k5⟩, fun z s5 v5 G5 H5 k5 c5 g5 r5 => ?_, fun e5 s5 σ5 G5 H5 k5 c5 g5 r5 => ?_, fun e5 s5 σ5 G5 H5 k5 c5 g5 r5 => ⟨G5, s5, e5, c5, g4.trans g5, r5, k5⟩⟩
    · exact q2 z s5 v5 G5 H5 k5 c5 ((e1.gg.trans g4).trans g5) r5
    · exact q1 e5 s5 σ5 G5 H5 k5 c5 ((e1.gg.trans g4).trans g5) r5
  · rintro σi Hi ⟨Gi, si, ei, ci, gi, ri, hl⟩
    rw [List.drop_eq_nil_of_le (Nat.le_refl _)] at hl
    exact q1 ei si σi Gi Hi hl ci (e1.gg.trans gi) ri
end
end L2.DD

set_option maxRecDepth 100000
set_option maxHeartbeats 4000000
namespace L2.DD
open PySem PySem.Spec PyProof.Rows

/-! ### a promise that holds where no repr is under way -/
structure FnG (P : Program) (w : World) (K : PySem.W.Frag) (mg : Str → Option Value) (base : Heap) (CX : CXT) (k : Nat) (f : Addr) (fd : FuncData) (ps : List Str) (sp : Sp) : Prop where
  len : ∀ vs H Q E, sp vs H Q E → vs.length = ps.length
  run : ∀ (A : Around) (outer : List Env) (s : Shared) (H : Hp) (args : Args) (us : List Value) (vs : List V) (Q : VK) (E : XK), A.guards = some [] → Room k A →
    Env0 P w K mg base A outer s H → BindsTo s fd args (ps.zip us) → Vals vs us → sp vs H Q E →
    codeAny (model P w) A (.call (.ref f) args) (CR CX outer P w H s Q E) s
theorem FnOk.g {P : Program} {w : World} {K : PySem.W.Frag} {mg : Str → Option Value} {base : Heap} {CX : CXT} {k : Nat} {f : Addr} {fd : FuncData} {ps : List Str} {sp : Sp} (F : FnOk P w K mg base CX k f fd ps sp) : FnG P w K mg base CX k f fd ps sp :=
  ⟨F.len, fun A outer s H args us vs Q E _ => F.run A outer s H args us vs Q E⟩
theorem FnG.imp {P : Program} {w : World} {K : PySem.W.Frag} {mg : Str → Option Value} {base : Heap} {CX : CXT} {k : Nat} {f : Addr} {fd : FuncData} {ps : List Str} {sp sp' : Sp} (F : FnG P w K mg base CX k f fd ps sp)
    (h : ∀ vs H Q E, sp' vs H Q E → sp vs H Q E) : FnG P w K mg base CX k f fd ps sp' :=
  ⟨fun vs H Q E q => F.len vs H Q E (h _ _ _ _ q), fun A outer s H args us vs Q E hg hr he hb hv hs => F.run A outer s H args us vs Q E hg hr he hb hv (h _ _ _ _ hs)⟩
theorem fnG_of {P : Program} {w : World} {K : PySem.W.Frag} {mg : Str → Option Value} {base : Heap} {x qual : Str} {st : Stmt} {f : Addr} {fd : FuncData} {N ps : List Str} {k : Nat} {sp : Sp}
    (F : Fun K x qual st f fd) (S : FnScope N ps (defScope st)) (len : ∀ vs H Q E, sp vs H Q E → vs.length = ps.length)
    (hbody : ∀ (cdv : Value) (A : Around) (outer : List Env) (s : Shared) (H : Hp) (vs : List V) (Q : VK) (E : XK), A.guards = some [] →
      Room k (A.deeper (envOfC qual (defScope st) s.heap.objs.size f cdv)) → sp vs H Q E →
      ∃ t, PSs (cxOf CX0 P w K mg base N qual (defScope st) f cdv A outer s H E).nox (defBody st) t ∧ t { nx := fun _ H' => Q .non H', rt := Q } (start N vs) H) :
    FnG P w K mg base CX0 (k + 1) f fd ps sp := by
  obtain ⟨oc, od, kV, doc, pm, an, cdv, ct, osl, rfl, lk, hcd⟩ := F.ex
  refine ⟨len, ?_⟩
  intro A outer s H args us vs Q E hG hr e0 hb r hsp
  have hl := len _ _ _ _ hsp
  have inS : ∀ b o, base.get? b = some o → s.heap.get? b = some o := fun b o e => (e0.bs b o e).1
  have KX := e0.mod.kin.keeps inS
  have noL := e0.mod.nolimit.keeps inS
  refine codeAny_call_function hr.depth (KX _ _ lk) rfl S.co S.gen rfl (PySem.W.codeRec_of KX hcd) (hb _ _ _ _ ?_)
  refine wpAny_newFunctionEnv_cells S.kind ?_ ?_
  · rintro ⟨n, v⟩ hy
    exact (S.par n (List.of_mem_zip hy).1).elim (fun q => .inl q) fun q => .inr ⟨q, PySem.W.cellsFrom_some _ _ _ (.inl q)⟩
  intro env he s1 x
  subst he
  refine ⟨noL.keeps x.toInCall.keep, codeAny_func ?_⟩
  obtain ⟨t, ht, hq⟩ := hbody cdv A outer s H vs Q E hG (hr.deeper _) hsp
  have I := inv_start (CX := CX0) (E := E) S hr.hd e0 hl r x
  refine wpAny_mono (ht.nox.run [] s1 _ H _ I hq) ?_ (fun _ _ z => z)
  intro fl s' hs
  match fl, hs with
  | .ret u, hs =>
    obtain ⟨v, σ', H', J, rv, q⟩ := hs
    exact ⟨v, H', J.os, J.bare, J.base, J.hok, rv, q⟩
  | .next, hs =>
    obtain ⟨σ', H', J, q⟩ := hs
    exact ⟨.non, H', J.os, J.bare, J.base, J.hok, rfl, q⟩
  | .brk, hs => exact hs.elim fun _ z => z.elim fun _ z => z.2.elim
  | .cont, hs => exact hs.elim fun _ z => z.elim fun _ z => z.2.elim
section
variable {X : Cx} {k : Nat} {f : Addr} {fd : FuncData} {ps : List Str} {sp : Sp} {x : Str} {p pos : Pos} {e : Expr} {es : List Expr} {t : TA}
theorem pe_callG (F : FnG X.prog X.w X.K X.mg X.base CX0 k f fd ps sp) (hG : X.A.guards = some []) (hr : Room k X.A) (hg : Gl X x) (hm : X.mg x = some (.ref f)) (hk : PySem.W.keepIn X.K (.ref f) = true) (hb : Binds X.K fd ps [])
    (ha : PA X (e :: es) t) (hdb : (x == ("__debug__" : Str)) = false := by decide) (he : starEach (e :: es) X.env = (false, eval e X.env) :: starEach es X.env := by rfl) (hpl : (backTo pos (starEach es X.env)).any (·.1) = false := by rfl) :
    PE X (.Call (.Name x p) (e :: es) [] pos) (tCall sp [] E0 t) := by
  constructor
  intro pins s σ H Q I h
  refine wpAny_Call_Name_kw (ld_glob I hg hm ?_ hdb)
  refine PySem.W.callWith_K (h₀ := X.base) I.ok.mod.kin hk (thn (ha.run pos pins s σ H _ I h) ?_) he hpl
  rintro us s1 ⟨vs, H1, I1, r, q⟩
  refine ⟨I1.kIn, ?_⟩
  rw [List.append_nil] at q
  have hl : us.length = ps.length := r.length.symm.trans (F.len _ _ _ _ q)
  have hbb := hb s1 us I1.kIn (by rw [List.append_nil]; exact hl)
  rw [List.append_nil] at hbb
  refine wpAny_call (codeAny_mono (F.run X.A X.stack s1 H1 ⟨us, []⟩ us vs Q E0 hG hr I1.env0 hbb r q) ?_)
  intro rr s' hq
  match rr, hq with
  | .error _, hq => exact False.elim hq
  | .ok (.ret u), hq => exact I1.after hq
  | .ok .next, hq => exact False.elim hq
  | .ok .brk, hq => exact False.elim hq
  | .ok .cont, hq => exact False.elim hq
end

/-! ### repr -/
def reprOk (x : PyData) : Prop := noDict x = true ∧ x.showable = true ∧ x.depth ≤ 60 ∧ x.shown.length ≤ sizeLine
def rRepr (K : PySem.W.Frag) : List V → Hp → VK → Prop := fun xs H Q => ∃ (v : V) (d : PyData), xs = [v] ∧ Dp K H v d ∧ d.showable = true ∧ d.depth ≤ 60 ∧ d.shown.length ≤ sizeLine ∧ Q (.str d.shown) H
mutual
theorem Dp.noDict {K : PySem.W.Frag} {H : Hp} : ∀ (d : PyData) (v : V), Dp K H v d → d.hasDict = false
  | .none, _, _ => rfl
  | .bool _, _, _ => rfl
  | .int _, _, _ => rfl
  | .str _, _, _ => rfl
  | .list ds, _, h => by cases h with | lst e q => exact Dp.noDicts ds _ q
  | .tuple ds, _, h => by cases h with | tup e q => exact Dp.noDicts ds _ q
  | .dict _, _, h => by cases h
theorem Dp.noDicts {K : PySem.W.Frag} {H : Hp} : ∀ (ds : List PyData) (vs : List V), DpAll K H vs ds → PyData.hasDictAll ds = false
  | [], _, _ => rfl
  | d :: ds, _, h => by
    cases h with
    | cons a b =>
      show (PyData.hasDict d || PyData.hasDictAll ds) = false
      rw [Dp.noDict d _ a, Dp.noDicts ds _ b]
      rfl
end
theorem call_repr {X : Cx} (hG : X.A.guards = some []) (hu : X.A.units + 64 < cLine) : CallR X (.builtin "repr") (rRepr X.K) := by
  intro pins s σ H xs us Q I r h
  obtain ⟨v, d, rfl, hd, hs, hde, hl, q⟩ := h
  cases r with
  | cons r1 r2 =>
    cases r2
    obtain ⟨as, hr⟩ := Dp.reads I d _ _ hd r1
    have hnd : d.hasDict = false := Dp.noDict _ _ hd
    cases hd with
    | non => cases r1; exact PySem.P.repr_of_none ⟨.str "None", H, I.tok _, ⟨_, rfl⟩, q⟩
    | bl b => cases r1; exact PySem.P.repr_of_bool ⟨.str _, H, I.tok _, ⟨_, rfl⟩, q⟩
    | int i =>
      obtain ⟨t, rfl⟩ := r1
      exact PySem.P.repr_of_int (of_decide_eq_true hs) ⟨.str _, H, I.tok _, ⟨_, rfl⟩, q⟩
    | str x =>
      obtain ⟨t, rfl⟩ := r1
      exact PySem.P.repr_of_str ⟨.str _, H, I.tok _, ⟨_, rfl⟩, q⟩ hl
    | lst e qq =>
      cases r1
      exact repr_of_reads' hr hs (fun z => by rw [hnd] at z; cases z) hG (by omega) (fun _ _ e => e) (fun h' u tk hk => ⟨.str _, H, I.kept hk, ⟨_, rfl⟩, q⟩) hl
    | tup e qq =>
      cases r1
      exact repr_of_reads' hr hs (fun z => by rw [hnd] at z; cases z) hG (by omega) (fun _ _ e => e) (fun h' u tk hk => ⟨.str _, H, I.kept hk, ⟨_, rfl⟩, q⟩) hl
section
variable {S : Type} {B : Bx S} {X : Cx}
def reprW : List Dv → Wp S Dv
  | [.d x] => bnd (ask (reprOk x)) fun _ => ret (.d (.str x.shown))
  | _ => get none
theorem reprW_some {x : List Dv} {R : Dv → S → Prop} {s : S} (h : reprW x R s) : ∃ d, x = [.d d] ∧ reprOk d ∧ R (.d (.str d.shown)) s := by
  unfold reprW at h
  split at h
  · exact ⟨_, rfl, h.1, h.2⟩
  · exact (nomatch h : False).elim
theorem cd_repr (hK : X.K = B.K) (hG : X.A.guards = some []) (hu : X.A.units + 64 < cLine) : CallD B X (.builtin "repr") reprW := by
  refine ⟨_, call_repr hG hu, ?_⟩
  rw [hK]
  intro x v G H s R Q c rv h q
  obtain ⟨d, rfl, ⟨h1, h2, h3, h4⟩, h⟩ := reprW_some h
  cases rv with
  | cons r1 r2 =>
    cases r2
    exact ⟨_, d, rfl, DR.dp _ _ h1 (DR.same c.sub _ _ r1), h2, h3, h4, q _ s _ G H h c (Ex.refl G H) (.str _)⟩
end

/-! ### defs of data -/
def pureB (K : PySem.W.Frag) (G0 H0 : Hp) : Bx Unit := ⟨K, fun _ => False, fun _ _ => True, G0, H0, fun _ _ _ _ _ => trivial⟩
def spP (K : PySem.W.Frag) (n : Nat) (m : List Dv → Option Dv) : Sp := fun vs H Q _ => ∃ G ds d, vs.length = n ∧ Same G H ∧ RVs K G vs ds ∧ m ds = some d ∧
  ∀ v G' H', Same H H' → Same G G' → Same G' H' → (∀ b, H b ≠ none → G b = none → G' b = none) → RV K G' v d → Q v H'
def startE (N : List Str) (ds : List Dv) : En := (ds.map fun d => some (.v d)) ++ List.replicate (N.length - ds.length) none
theorem RVs.get {K : PySem.W.Frag} {G : Hp} : ∀ {vs : List V} {ds : List Dv} {i : Nat} {d : Dv}, RVs K G vs ds → ds[i]? = some d → ∃ v, vs[i]? = some v ∧ RV K G v d
  | _, _, _, _, .nil, e => by simp at e
  | _, _, 0, _, .cons r _, e => by simp at e; subst e; exact ⟨_, rfl, r⟩
  | _, _, i + 1, d, .cons _ t, e => by
    obtain ⟨v, h1, h2⟩ := RVs.get (i := i) (d := d) t (by simpa using e)
    exact ⟨v, by simpa using h1, h2⟩
theorem rep_start {S : Type} {B : Bx S} {G H : Hp} {N : List Str} {vs : List V} {ds : List Dv} (r : RVs B.K G vs ds) : Rep B G H (start N vs) (startE N ds) := by
  have hl : vs.length = ds.length := Paired.length r
  have key : ∀ (i : Nat) (y : Sv), (startE N ds)[i]? = some (some y) → ∃ d, ds[i]? = some d ∧ y = .v d := fun i y h => by
    unfold startE at h
    by_cases hi : i < ds.length
    · rw [List.getElem?_append_left (by simpa using hi), List.getElem?_map] at h
      cases e : ds[i]? with
      | none => rw [e] at h; cases h
      | some d => rw [e] at h; cases h; exact ⟨d, rfl, rfl⟩
    · rw [List.getElem?_append_right (by simpa using hi), List.getElem?_replicate] at h
      split at h <;> cases h
  refine ⟨?_, fun i x h => ?_, fun i xs h => ?_, fun i j xs ys p _ h => ?_⟩
  · unfold startE start
    simp only [List.length_append, List.length_map, List.length_replicate, hl]
  · obtain ⟨d, e, e2⟩ := key i _ h
    cases e2
    obtain ⟨v, e3, rv⟩ := r.get e
    refine ⟨v, ?_, rv⟩
    have hi : i < vs.length := by
      rcases Nat.lt_or_ge i vs.length with z | z
      · exact z
      · rw [List.getElem?_eq_none z] at e3
        cases e3
    unfold start
    rw [List.getElem?_append_left (by simpa using hi), List.getElem?_map, e3]
    rfl
  · obtain ⟨d, e, e2⟩ := key i _ h
    cases e2
  · obtain ⟨d, e, e2⟩ := key i _ h
    cases e2
section
variable {P : Program} {w : World} {K : PySem.W.Frag} {mg : Str → Option Value} {base : Heap}
/-- what a body of data has to give -/
def Gives {S : Type} (d : Dv) : Fl → S → Prop := fun fl _ => fl = .rt d ∨ ((∃ env, fl = .nx env) ∧ d = .d .none)
theorem fnP {x qual : Str} {st : Stmt} {f : Addr} {fd : FuncData} {N ps : List Str} {k : Nat} {m : List Dv → Option Dv} {wb : En → Wp Unit Fl} (F : Fun K x qual st f fd) (Sc : FnScope N ps (defScope st))
    (hb : ∀ (cdv : Value) (A : Around) (outer : List Env) (s : Shared) (H : Hp) (E : XK) (G0 : Hp), Room k (A.deeper (envOfC qual (defScope st) s.heap.objs.size f cdv)) →
      DSs (pureB K G0 H) (cxOf CX0 P w K mg base N qual (defScope st) f cdv A outer s H E).nox (defBody st) wb)
    (hm : ∀ ds d, ds.length = ps.length → m ds = some d → wb (startE N ds) (Gives d) ()) : FnOk P w K mg base CX0 (k + 1) f fd ps (spP K ps.length m) := by
  refine F.ok Sc (fun vs H Q E h => ?_) (fun cdv A outer s H vs Q E hr h => ?_)
  · obtain ⟨G, ds, d, hl, _⟩ := h
    exact hl
  · obtain ⟨G, ds, d, hl, sg, rv, hd, q⟩ := h
    have hl2 : ds.length = ps.length := by rw [← Paired.length rv]; exact hl
    refine ⟨_, (hb cdv A outer s H E G hr).pss, G, startE N ds, (), Gives d, ?_, rep_start rv, hm ds d hl2 hd, ?_, ?_, ?_, ?_⟩
    · exact ⟨sg, fun _ z => z.elim, trivial, fun _ h => h, Same.refl G, fun _ _ _ e => e, fun _ _ g => g⟩
    · rintro env' s' σ' G' H' (e | ⟨_, e⟩) c g r
      · cases e
      · subst e
        exact q _ G' H' (fun b o e => c.k0 b o (fun z => z) e) g c.sub c.f0 .non
    · rintro y s' v G' H' (e | ⟨⟨_, e⟩, _⟩) c g r
      · cases e
        exact q v G' H' (fun b o e => c.k0 b o (fun z => z) e) g c.sub c.f0 r
      · cases e
    · rintro env' s' σ' G' H' (e | ⟨⟨_, e⟩, _⟩) c g r <;> cases e
    · rintro env' s' σ' G' H' (e | ⟨⟨_, e⟩, _⟩) c g r <;> cases e
end
section
variable {S : Type} {B : Bx S} {X : Cx} {k n : Nat} {f : Addr} {fd : FuncData} {ps : List Str} {x : Str} {p pos : Pos} {e : Expr} {es : List Expr}
def callW (n : Nat) (m : List Dv → Option Dv) (xs : List Dv) : Wp S Dv := bnd (ask (xs.length = n)) fun _ => get (m xs)
theorem de_callP {m : List Dv → Option Dv} {w : En → Wp S (List Dv)} (F : FnOk X.prog X.w X.K X.mg X.base CX0 k f fd ps (spP X.K n m)) (hr : Room k X.A) (hg : Gl X x) (hm : X.mg x = some (.ref f)) (hk : PySem.W.keepIn X.K (.ref f) = true) (hb : Binds X.K fd ps [])
    (ha : DA B X (e :: es) w) (hdb : (x == ("__debug__" : Str)) = false := by decide) (he : starEach (e :: es) X.env = (false, eval e X.env) :: starEach es X.env := by rfl) (hpl : (backTo pos (starEach es X.env)).any (·.1) = false := by rfl) :
    DE B X (.Call (.Name x p) (e :: es) [] pos) (fun env => bnd (w env) fun xs => callW n m xs) := by
  refine ⟨ha.k, pe_mono (pe_call F hr hg hm hk hb .nil pass0 ha.pa hdb he hpl) ?_⟩
  have hK := ha.k
  rintro σ H Q ⟨G, env, s, R, c, r, hw, q⟩
  refine tDa_of c r hw fun xs s1 vs G1 H1 h1 c1 e1 r1 rv => ?_
  obtain ⟨hl, d, hd, h1⟩ := h1
  rw [hK]
  refine ⟨G1, xs, d, by rw [List.append_nil, Paired.length rv]; exact hl, c1.sub, by rw [List.append_nil]; exact rv, hd, fun v G2 H2 hh gg gh fr rv2 => ?_⟩
  have ex : Ex B G1 H1 G2 H2 := ⟨gg, fun b o _ e => hh _ _ e, fr, fun b h => by
    rcases z : H1 b with _ | u
    · exact absurd z h
    · rw [hh _ _ z]
      simp⟩
  refine q d s1 v G2 H2 h1 ⟨gh, fun b hb => ⟨fr b (c1.off b hb).2 (c1.off b hb).1, ex.alive b (c1.off b hb).2⟩, B.stable _ _ _ c1.st fun b hb => ?_, fun b hb => ex.alive b (c1.h0 b hb), c1.g0.trans gg, fun b o hb e => hh _ _ (c1.k0 b o hb e), fun b hb g => fr b (c1.h0 b hb) (c1.f0 b hb g)⟩ (e1.trans ex) rv2
  rcases z : H1 b with _ | u
  · exact absurd z (c1.off b hb).2
  · exact hh _ _ z
end

/-! ### a pot of numbers that are drawn -/
/-- at p the three numbers of a pot, the middle one mm, n draws at most so far -/
def PotAt (H : Hp) (p : Addr) (m : Int) (n : Nat) : Prop := ∃ o c : Int, H p = some (.lst [.int o, .int m, .int c]) ∧ 0 ≤ o ∧ 0 ≤ c ∧ c ≤ n
theorem PotAt.mono {H : Hp} {p : Addr} {m : Int} {n k : Nat} (h : PotAt H p m n) (hk : n ≤ k) : PotAt H p m k := by
  obtain ⟨o, c, a, b, d, e⟩ := h
  exact ⟨o, c, a, b, d, by omega⟩
structure Pot (p : Addr) (mm : Int) (n : Nat) (H : Hp) : Prop where
  at_ : PotAt H p mm n
  lo : 0 ≤ mm
  hi : mm < 2 ^ 61
def potB (K : PySem.W.Frag) (p : Addr) (mm : Int) (G0 H0 : Hp) : Bx Nat := ⟨K, fun b => b = p, fun n H => Pot p mm n H, G0, H0, fun n H H' h e => ⟨by
  obtain ⟨o, c, a, r⟩ := h.at_
  exact ⟨o, c, by rw [e p rfl]; exact a, r⟩, h.lo, h.hi⟩⟩
def spD (K : PySem.W.Frag) (n : Nat) (m : List Dv → Wp Nat Dv) : Sp := fun vs H Q _ => ∃ p mm G ds s R, vs.length = n ∧ Pot p mm s H ∧ G p = none ∧ Same G H ∧ RVs K G vs (.o (.ref p) :: ds) ∧ m ds R s ∧
  ∀ d s' v G' H', R d s' → (∀ b o, b ≠ p → H b = some o → H' b = some o) → Pot p mm s' H' → Same G G' → Same G' H' → G' p = none → (∀ b, H b ≠ none → G b = none → G' b = none) → RV K G' v d → Q v H'
section
variable {P : Program} {w : World} {K : PySem.W.Frag} {mg : Str → Option Value} {base : Heap}
def GivesR {S : Type} (R : Dv → S → Prop) : Fl → S → Prop := fun fl s => (∃ d, fl = .rt d ∧ R d s) ∨ ((∃ env, fl = .nx env) ∧ R (.d .none) s)
theorem Pot.some {p : Addr} {mm : Int} {n : Nat} {H : Hp} (h : Pot p mm n H) : H p ≠ none := by
  obtain ⟨o, c, a, r⟩ := h.at_
  rw [a]
  simp
theorem potBody {qual : Str} {st : Stmt} {f : Addr} {N ps : List Str} {m : List Dv → Wp Nat Dv} {wb : Addr → En → Wp Nat Fl} {cdv : Value} {A : Around} {outer : List Env} {s : Shared} {H : Hp} {E : XK} {vs : List V} {Q : VK}
    (hb : ∀ (p : Addr) (mm : Int) (G0 : Hp), DSs (potB K p mm G0 H) (cxOf CX0 P w K mg base N qual (defScope st) f cdv A outer s H E).nox (defBody st) (wb p))
    (hm : ∀ p ds R s, ds.length + 1 = ps.length → m ds R s → wb p (startE N (.o (.ref p) :: ds)) (GivesR R) s) (h : spD K ps.length m vs H Q E) :
    ∃ t, PSs (cxOf CX0 P w K mg base N qual (defScope st) f cdv A outer s H E).nox (defBody st) t ∧ t { nx := fun _ H' => Q .non H', rt := Q } (start N vs) H := by
  obtain ⟨p, mm, G, ds, n, R, hl, hp, gp, sg, rv, hd, q⟩ := h
  have hl2 : ds.length + 1 = ps.length := by
    have := Paired.length rv
    rw [List.length_cons] at this
    omega
  have keep : ∀ {G' H' s'}, Cc (potB K p mm G H) G' H' s' → ∀ b o, b ≠ p → H b = some o → H' b = some o := fun c b o hb e => c.k0 b o hb e
  refine ⟨_, (hb p mm G).pss, G, startE N (.o (.ref p) :: ds), n, GivesR R, ?_, rep_start rv, hm p ds R n hl2 hd, ?_, ?_, ?_, ?_⟩
  · exact ⟨sg, fun b z => by rw [show b = p from z]; exact ⟨gp, hp.some⟩, hp, fun _ h => h, Same.refl G, fun _ _ _ e => e, fun _ _ g => g⟩
  · rintro env' s' σ' G' H' (⟨_, e, _⟩ | ⟨_, e⟩) c g r
    · cases e
    · exact q _ s' _ G' H' e (keep c) c.st g c.sub (c.off p rfl).1 c.f0 .non
  · rintro y s' v G' H' (⟨_, e, e2⟩ | ⟨⟨_, e⟩, _⟩) c g r
    · cases e
      exact q _ s' v G' H' e2 (keep c) c.st g c.sub (c.off p rfl).1 c.f0 r
    · cases e
  · rintro env' s' σ' G' H' (⟨_, e, _⟩ | ⟨⟨_, e⟩, _⟩) c g r <;> cases e
  · rintro env' s' σ' G' H' (⟨_, e, _⟩ | ⟨⟨_, e⟩, _⟩) c g r <;> cases e
theorem fnD {x qual : Str} {st : Stmt} {f : Addr} {fd : FuncData} {N ps : List Str} {k : Nat} {m : List Dv → Wp Nat Dv} {wb : Addr → En → Wp Nat Fl} (F : Fun K x qual st f fd) (Sc : FnScope N ps (defScope st))
    (hb : ∀ (cdv : Value) (A : Around) (outer : List Env) (s : Shared) (H : Hp) (E : XK), Room k (A.deeper (envOfC qual (defScope st) s.heap.objs.size f cdv)) → ∀ (p : Addr) (mm : Int) (G0 : Hp),
      DSs (potB K p mm G0 H) (cxOf CX0 P w K mg base N qual (defScope st) f cdv A outer s H E).nox (defBody st) (wb p))
    (hm : ∀ p ds R s, ds.length + 1 = ps.length → m ds R s → wb p (startE N (.o (.ref p) :: ds)) (GivesR R) s) : FnOk P w K mg base CX0 (k + 1) f fd ps (spD K ps.length m) := by
  refine F.ok Sc (fun vs H Q E h => ?_) (fun cdv A outer s H vs Q E hr h => potBody (hb cdv A outer s H E hr) hm h)
  obtain ⟨p, mm, G, ds, n, R, hl, _⟩ := h
  exact hl
theorem fnDG {x qual : Str} {st : Stmt} {f : Addr} {fd : FuncData} {N ps : List Str} {k : Nat} {m : List Dv → Wp Nat Dv} {wb : Addr → En → Wp Nat Fl} (F : Fun K x qual st f fd) (Sc : FnScope N ps (defScope st))
    (hb : ∀ (cdv : Value) (A : Around) (outer : List Env) (s : Shared) (H : Hp) (E : XK), (A.deeper (envOfC qual (defScope st) s.heap.objs.size f cdv)).guards = some [] → Room k (A.deeper (envOfC qual (defScope st) s.heap.objs.size f cdv)) → ∀ (p : Addr) (mm : Int) (G0 : Hp),
      DSs (potB K p mm G0 H) (cxOf CX0 P w K mg base N qual (defScope st) f cdv A outer s H E).nox (defBody st) (wb p))
    (hm : ∀ p ds R s, ds.length + 1 = ps.length → m ds R s → wb p (startE N (.o (.ref p) :: ds)) (GivesR R) s) : FnG P w K mg base CX0 (k + 1) f fd ps (spD K ps.length m) := by
  refine fnG_of F Sc (fun vs H Q E h => ?_) (fun cdv A outer s H vs Q E hG hr h => potBody (hb cdv A outer s H E hG hr) hm h)
  obtain ⟨p, mm, G, ds, n, R, hl, _⟩ := h
  exact hl
end
section
variable {X : Cx} {k n : Nat} {f : Addr} {fd : FuncData} {ps : List Str} {x : Str} {p pos : Pos} {e : Expr} {es : List Expr} {K : PySem.W.Frag} {pp : Addr} {mm : Int} {G0 H0 : Hp}
def isPot (p : Addr) : List Dv → Option (List Dv)
  | .o (.ref q) :: ds => if q = p then some ds else none
  | _ => none
theorem isPot_some {p : Addr} {xs ds : List Dv} (h : isPot p xs = some ds) : xs = .o (.ref p) :: ds := by
  unfold isPot at h
  split at h
  · split at h
    · cases h
      rename_i e
      rw [e]
    · cases h
  · cases h
def callDW (p : Addr) (n : Nat) (m : List Dv → Wp Nat Dv) (xs : List Dv) : Wp Nat Dv := bnd (ask (xs.length = n)) fun _ => bnd (get (isPot p xs)) fun ds => m ds
theorem callD_ok {m : List Dv → Wp Nat Dv} {w : En → Wp Nat (List Dv)} {ta : TA} {σ : L2.St} {H : Hp} {Q : VK} (hK : X.K = K) (ha : ta = tDa (potB K pp mm G0 H0) w)
    (h : tD (potB K pp mm G0 H0) (fun env => bnd (w env) fun xs => callDW pp n m xs) σ H Q) : tCall (spD X.K n m) [] E0 ta σ H Q := by
  subst ha
  obtain ⟨G, env, s, R, c, r, hw, q⟩ := h
  refine tDa_of c r hw fun xs s1 vs G1 H1 h1 c1 e1 r1 rv => ?_
  obtain ⟨hl, ds, hd, h1⟩ := h1
  obtain rfl := isPot_some hd
  rw [hK]
  refine ⟨pp, mm, G1, ds, s1, R, by rw [List.append_nil, Paired.length rv]; exact hl, c1.st, (c1.off pp rfl).1, c1.sub, by rw [List.append_nil]; exact rv, h1, fun d s2 v G2 H2 k2 hh pt gg gh gp fr rv2 => ?_⟩
  have alive : ∀ b, H1 b ≠ none → H2 b ≠ none := fun b h => by
    by_cases z : b = pp
    · rw [z]
      exact pt.some
    · rcases y : H1 b with _ | u
      · exact absurd y h
      · rw [hh _ _ z y]
        simp
  have ex : Ex (potB K pp mm G0 H0) G1 H1 G2 H2 := ⟨gg, fun b o hb e => hh _ _ hb e, fr, alive⟩
  exact q d s2 v G2 H2 k2 ⟨gh, fun b hb => by rw [show b = pp from hb]; exact ⟨gp, pt.some⟩, pt, fun b hb => alive b (c1.h0 b hb), c1.g0.trans gg, fun b o hb e => hh _ _ hb (c1.k0 b o hb e), fun b hb g => fr b (c1.h0 b hb) (c1.f0 b hb g)⟩ (e1.trans ex) rv2
theorem de_callD {m : List Dv → Wp Nat Dv} {w : En → Wp Nat (List Dv)} (F : FnOk X.prog X.w X.K X.mg X.base CX0 k f fd ps (spD X.K n m)) (hr : Room k X.A) (hg : Gl X x) (hm : X.mg x = some (.ref f)) (hk : PySem.W.keepIn X.K (.ref f) = true) (hb : Binds X.K fd ps [])
    (ha : DA (potB K pp mm G0 H0) X (e :: es) w) (hdb : (x == ("__debug__" : Str)) = false := by decide) (he : starEach (e :: es) X.env = (false, eval e X.env) :: starEach es X.env := by rfl) (hpl : (backTo pos (starEach es X.env)).any (·.1) = false := by rfl) :
    DE (potB K pp mm G0 H0) X (.Call (.Name x p) (e :: es) [] pos) (fun env => bnd (w env) fun xs => callDW pp n m xs) :=
  ⟨ha.k, pe_mono (pe_call F hr hg hm hk hb .nil pass0 ha.pa hdb he hpl) fun σ H Q h => callD_ok ha.k rfl h⟩
theorem de_callDG {m : List Dv → Wp Nat Dv} {w : En → Wp Nat (List Dv)} (F : FnG X.prog X.w X.K X.mg X.base CX0 k f fd ps (spD X.K n m)) (hG : X.A.guards = some []) (hr : Room k X.A) (hg : Gl X x) (hm : X.mg x = some (.ref f)) (hk : PySem.W.keepIn X.K (.ref f) = true) (hb : Binds X.K fd ps [])
    (ha : DA (potB K pp mm G0 H0) X (e :: es) w) (hdb : (x == ("__debug__" : Str)) = false := by decide) (he : starEach (e :: es) X.env = (false, eval e X.env) :: starEach es X.env := by rfl) (hpl : (backTo pos (starEach es X.env)).any (·.1) = false := by rfl) :
    DE (potB K pp mm G0 H0) X (.Call (.Name x p) (e :: es) [] pos) (fun env => bnd (w env) fun xs => callDW pp n m xs) :=
  ⟨ha.k, pe_mono (pe_callG F hG hr hg hm hk hb ha.pa hdb he hpl) fun σ H Q h => callD_ok ha.k rfl h⟩
end
/-- a statement that is never reached -/
theorem ds_never {S : Type} {B : Bx S} {X : Cx} {st : Stmt} (hK : X.K = B.K) : DS B X st (fun _ => get none) := by
  refine ⟨hK, ps_mono ps_never ?_⟩
  rintro σ H D ⟨G, env, s, R, c, r, ⟨_, e, _⟩, _⟩
  cases e
end L2.DD

set_option maxRecDepth 100000
set_option maxHeartbeats 4000000
namespace L2.DD
open PySem PySem.Spec PyProof.Rows

/-! ### a def of the text by its name -/
structure Df (K : PySem.W.Frag) (mg : Str → Option Value) (x : Str) (st : Stmt) (ps : List Str) : Prop where
  ex : ∃ f fd, mg x = some (.ref f) ∧ PySem.W.keepIn K (.ref f) = true ∧ Binds K fd ps [] ∧ Fun K x x st f fd
structure DefOk (P : Program) (w : World) (K : PySem.W.Frag) (mg : Str → Option Value) (base : Heap) (k : Nat) (x : Str) (ps : List Str) (sp : Sp) : Prop where
  ex : ∃ f fd, mg x = some (.ref f) ∧ PySem.W.keepIn K (.ref f) = true ∧ Binds K fd ps [] ∧ FnOk P w K mg base CX0 k f fd ps sp
structure DefG (P : Program) (w : World) (K : PySem.W.Frag) (mg : Str → Option Value) (base : Heap) (k : Nat) (x : Str) (ps : List Str) (sp : Sp) : Prop where
  ex : ∃ f fd, mg x = some (.ref f) ∧ PySem.W.keepIn K (.ref f) = true ∧ Binds K fd ps [] ∧ FnG P w K mg base CX0 k f fd ps sp
section
variable {P : Program} {w : World} {K : PySem.W.Frag} {mg : Str → Option Value} {base : Heap}
theorem DefOk.g {k : Nat} {x : Str} {ps : List Str} {sp : Sp} (F : DefOk P w K mg base k x ps sp) : DefG P w K mg base k x ps sp := by
  obtain ⟨f, fd, a, b, c, d⟩ := F.ex
  exact ⟨f, fd, a, b, c, L2.DD.FnOk.g d⟩
theorem DefOk.imp {k : Nat} {x : Str} {ps : List Str} {sp sp' : Sp} (F : DefOk P w K mg base k x ps sp) (h : ∀ vs H Q E, sp' vs H Q E → sp vs H Q E) : DefOk P w K mg base k x ps sp' := by
  obtain ⟨f, fd, a, b, c, d⟩ := F.ex
  exact ⟨f, fd, a, b, c, d.imp h⟩
theorem defP {x : Str} {st : Stmt} {N ps : List Str} {k : Nat} {m : List Dv → Option Dv} {wb : En → Wp Unit Fl} (D : Df K mg x st ps) (Sc : FnScope N ps (defScope st))
    (hb : ∀ (f : Addr) (cdv : Value) (A : Around) (outer : List Env) (s : Shared) (H : Hp) (E : XK) (G0 : Hp), Room k (A.deeper (envOfC x (defScope st) s.heap.objs.size f cdv)) →
      DSs (pureB K G0 H) (cxOf CX0 P w K mg base N x (defScope st) f cdv A outer s H E).nox (defBody st) wb)
    (hm : ∀ ds d, ds.length = ps.length → m ds = some d → wb (startE N ds) (Gives d) ()) : DefOk P w K mg base (k + 1) x ps (spP K ps.length m) := by
  obtain ⟨f, fd, a, b, c, F⟩ := D.ex
  exact ⟨f, fd, a, b, c, fnP F Sc (hb f) hm⟩
theorem defD {x : Str} {st : Stmt} {N ps : List Str} {k : Nat} {m : List Dv → Wp Nat Dv} {wb : Addr → En → Wp Nat Fl} (D : Df K mg x st ps) (Sc : FnScope N ps (defScope st))
    (hb : ∀ (f : Addr) (cdv : Value) (A : Around) (outer : List Env) (s : Shared) (H : Hp) (E : XK), Room k (A.deeper (envOfC x (defScope st) s.heap.objs.size f cdv)) → ∀ (p : Addr) (mm : Int) (G0 : Hp),
      DSs (potB K p mm G0 H) (cxOf CX0 P w K mg base N x (defScope st) f cdv A outer s H E).nox (defBody st) (wb p))
    (hm : ∀ p ds R s, ds.length + 1 = ps.length → m ds R s → wb p (startE N (.o (.ref p) :: ds)) (GivesR R) s) : DefOk P w K mg base (k + 1) x ps (spD K ps.length m) := by
  obtain ⟨f, fd, a, b, c, F⟩ := D.ex
  exact ⟨f, fd, a, b, c, fnD F Sc (hb f) hm⟩
theorem defDG {x : Str} {st : Stmt} {N ps : List Str} {k : Nat} {m : List Dv → Wp Nat Dv} {wb : Addr → En → Wp Nat Fl} (D : Df K mg x st ps) (Sc : FnScope N ps (defScope st))
    (hb : ∀ (f : Addr) (cdv : Value) (A : Around) (outer : List Env) (s : Shared) (H : Hp) (E : XK), (A.deeper (envOfC x (defScope st) s.heap.objs.size f cdv)).guards = some [] → Room k (A.deeper (envOfC x (defScope st) s.heap.objs.size f cdv)) → ∀ (p : Addr) (mm : Int) (G0 : Hp),
      DSs (potB K p mm G0 H) (cxOf CX0 P w K mg base N x (defScope st) f cdv A outer s H E).nox (defBody st) (wb p))
    (hm : ∀ p ds R s, ds.length + 1 = ps.length → m ds R s → wb p (startE N (.o (.ref p) :: ds)) (GivesR R) s) : DefG P w K mg base (k + 1) x ps (spD K ps.length m) := by
  obtain ⟨f, fd, a, b, c, F⟩ := D.ex
  exact ⟨f, fd, a, b, c, fnDG F Sc (hb f) hm⟩
end
section
variable {S : Type} {B : Bx S} {X : Cx} {k n : Nat} {ps : List Str} {x : Str} {p pos : Pos} {e : Expr} {es : List Expr}
theorem dcP {m : List Dv → Option Dv} {w : En → Wp S (List Dv)} (F : DefOk X.prog X.w X.K X.mg X.base k x ps (spP X.K n m)) (hr : Room k X.A) (hg : Gl X x)
    (ha : DA B X (e :: es) w) (hdb : (x == ("__debug__" : Str)) = false := by decide) (he : starEach (e :: es) X.env = (false, eval e X.env) :: starEach es X.env := by rfl) (hpl : (backTo pos (starEach es X.env)).any (·.1) = false := by rfl) :
    DE B X (.Call (.Name x p) (e :: es) [] pos) (fun env => bnd (w env) fun xs => callW n m xs) := by
  obtain ⟨f, fd, a, b, c, d⟩ := F.ex
  exact de_callP d hr hg a b c ha hdb he hpl
end
section
variable {X : Cx} {k n : Nat} {ps : List Str} {x : Str} {p pos : Pos} {e : Expr} {es : List Expr} {K : PySem.W.Frag} {pp : Addr} {mm : Int} {G0 H0 : Hp}
theorem dcD {m : List Dv → Wp Nat Dv} {w : En → Wp Nat (List Dv)} (F : DefOk X.prog X.w X.K X.mg X.base k x ps (spD X.K n m)) (hr : Room k X.A) (hg : Gl X x)
    (ha : DA (potB K pp mm G0 H0) X (e :: es) w) (hdb : (x == ("__debug__" : Str)) = false := by decide) (he : starEach (e :: es) X.env = (false, eval e X.env) :: starEach es X.env := by rfl) (hpl : (backTo pos (starEach es X.env)).any (·.1) = false := by rfl) :
    DE (potB K pp mm G0 H0) X (.Call (.Name x p) (e :: es) [] pos) (fun env => bnd (w env) fun xs => callDW pp n m xs) := by
  obtain ⟨f, fd, a, b, c, d⟩ := F.ex
  exact de_callD d hr hg a b c ha hdb he hpl
theorem dcDG {m : List Dv → Wp Nat Dv} {w : En → Wp Nat (List Dv)} (F : DefG X.prog X.w X.K X.mg X.base k x ps (spD X.K n m)) (hG : X.A.guards = some []) (hr : Room k X.A) (hg : Gl X x)
    (ha : DA (potB K pp mm G0 H0) X (e :: es) w) (hdb : (x == ("__debug__" : Str)) = false := by decide) (he : starEach (e :: es) X.env = (false, eval e X.env) :: starEach es X.env := by rfl) (hpl : (backTo pos (starEach es X.env)).any (·.1) = false := by rfl) :
    DE (potB K pp mm G0 H0) X (.Call (.Name x p) (e :: es) [] pos) (fun env => bnd (w env) fun xs => callDW pp n m xs) := by
  obtain ⟨f, fd, a, b, c, d⟩ := F.ex
  exact de_callDG d hG hr hg a b c ha hdb he hpl
end
section
variable {S : Type} {B : Bx S} {X : Cx}
/-- a name by its slot -/
theorem dv (i : Nat) {x : Str} {pos : Pos} (hK : X.K = B.K := by rfl) (hN : X.N[i]? = some x := by rfl) (hv : Vis X.env.scope x := by first | exact Or.inl rfl | exact Or.inr (Or.inl rfl) | exact Or.inr (Or.inr rfl)) (hd : (x == ("__debug__" : Str)) = false := by decide) (hcd : (x == ("__classdict__" : Str)) = false := by decide) :
    DE B X (.Name x pos) (fun env => get (valAt env i)) := de_var hK hN hv hd hcd
theorem de_neg {a : Expr} {w : En → Wp S Dv} {pos : Pos} (h : DE B X a w) : DE B X (.UnaryOp .USub a pos) (fun env => bnd (w env) fun x => bnd (get (intOf x)) fun i => ret (.d (.int (-i)))) := by
  refine ⟨h.k, pe_mono (pe_un un_neg h.pe) ?_⟩
  rintro σ H Q ⟨G, env, s, R, c, r, hw, q⟩
  refine tD_of c r hw fun x s1 v G1 H1 h1 c1 e1 r1 rv => ?_
  obtain ⟨i, ei, h1⟩ := h1
  exact ⟨i, intOf_rv ei rv, q _ s1 _ G1 H1 h1 c1 e1 (.int _)⟩
end
theorem u64 {k : Nat} {A : Around} (r : Room k A) : A.units + 64 < cLine := by have := r.un; omega
theorem u65 {k : Nat} {A : Around} (r : Room k A) : A.units + 65 < cLine := by have := r.un; omega
end L2.DD

set_option maxRecDepth 100000
set_option maxHeartbeats 4000000
namespace L2.DD
open PySem PySem.Spec PyProof.Rows

/-! ### loops of data -/
section
variable {S : Type}
abbrev gSet (i : Nat) : Dv → En → Wp S En := fun x env => ret (env.set i (some (.v x)))
abbrev tAll : En → Wp S Bool := fun _ => ret true
/-- [f d for d in ds] -/
theorem lcW_map {i : Nat} {e : En → Wp S Dv} {env0 : En} (f : PyData → PyData) : ∀ (ds acc : List PyData) (R : List PyData → S → Prop) (s : S), acc.length + ds.length ≤ sizeLine →
    (∀ d ∈ ds, ∀ (R : Dv → S → Prop) (s : S), R (.d (f d)) s → e (env0.set i (some (.v (.d d)))) R s) → R (acc ++ ds.map f) s → lcW (gSet i) tAll e env0 (ds.map .d) acc R s
  | [], acc, R, s, _, _, h => by rw [List.map_nil, List.append_nil] at h; exact h
  | d :: ds, acc, R, s, hl, he, h => by
    refine he d List.mem_cons_self _ s ⟨f d, rfl, ?_, ?_⟩
    · rw [List.length_cons] at hl
      omega
    · refine lcW_map f ds (acc ++ [f d]) R s ?_ (fun x hx => he x (List.mem_cons_of_mem _ hx)) ?_
      · rw [List.length_append, List.length_singleton]
        rw [List.length_cons] at hl
        omega
      · rw [List.append_assoc]
        exact h
/-- the same over any items -/
theorem lcW_mapV {i : Nat} {e : En → Wp S Dv} {env0 : En} (f : Dv → PyData) : ∀ (xs : List Dv) (acc : List PyData) (R : List PyData → S → Prop) (s : S), acc.length + xs.length ≤ sizeLine →
    (∀ d ∈ xs, ∀ (R : Dv → S → Prop) (s : S), R (.d (f d)) s → e (env0.set i (some (.v d))) R s) → R (acc ++ xs.map f) s → lcW (gSet i) tAll e env0 xs acc R s
  | [], acc, R, s, _, _, h => by rw [List.map_nil, List.append_nil] at h; exact h
  | d :: ds, acc, R, s, hl, he, h => by
    refine he d List.mem_cons_self _ s ⟨f d, rfl, ?_, ?_⟩
    · rw [List.length_cons] at hl
      omega
    · refine lcW_mapV f ds (acc ++ [f d]) R s ?_ (fun x hx => he x (List.mem_cons_of_mem _ hx)) ?_
      · rw [List.length_append, List.length_singleton]
        rw [List.length_cons] at hl
        omega
      · rw [List.append_assoc]
        exact h
/-- with a state, by an invariant -/
theorem lcW_inv {i : Nat} {e : En → Wp S Dv} {env0 : En} {R : List PyData → S → Prop} (P : Nat → List PyData → S → Prop) : ∀ (xs : List Dv) (j : Nat) (acc : List PyData) (s : S), P j acc s → acc.length + xs.length ≤ sizeLine →
    (∀ (m : Nat) (d : Dv) (acc : List PyData) (s : S), xs[m]? = some d → P (j + m) acc s → e (env0.set i (some (.v d))) (fun y s' => ∃ z, y = .d z ∧ P (j + m + 1) (acc ++ [z]) s') s) →
    (∀ acc s, P (j + xs.length) acc s → R acc s) →
    (hm : ∀ (env : En) (R R' : Dv → S → Prop) (s : S), (∀ d s, R d s → R' d s) → e env R s → e env R' s) → lcW (gSet i) tAll e env0 xs acc R s
  | [], j, acc, s, hp, _, _, hd, _ => hd acc s hp
  | x :: xs, j, acc, s, hp, hl, hs, hd, hm => by
    refine hm _ _ _ _ ?_ (hs 0 x acc s rfl hp)
    rintro y s' ⟨z, rfl, hz⟩
    refine ⟨z, rfl, ?_, ?_⟩
    · rw [List.length_cons] at hl
      omega
    · refine lcW_inv P xs (j + 1) (acc ++ [z]) s' hz ?_ (fun m d acc s hd2 h => ?_) (fun acc s h => hd acc s ?_) hm
      · rw [List.length_append, List.length_singleton]
        rw [List.length_cons] at hl
        omega
      · have := hs (m + 1) d acc s (by simpa using hd2) (by rw [show j + (m + 1) = j + 1 + m by omega]; exact h)
        rw [show j + 1 + m + 1 = j + (m + 1) + 1 by omega]
        exact this
      · rw [List.length_cons, show j + (xs.length + 1) = j + 1 + xs.length by omega]
        exact h
/-- for x in xs: by an invariant of the names and the state; a turn may return -/
theorem forW_inv {g : Dv → En → Wp S En} {b : En → Wp S Fl} {R : Fl → S → Prop} (P : Nat → En → S → Prop) : ∀ (xs : List Dv) (j : Nat) (env : En) (s : S), P j env s →
    (∀ (m : Nat) (d : Dv) (env : En) (s : S), xs[m]? = some d → P (j + m) env s → bnd (g d env) (fun e1 => b e1) (fun fl s' => match fl with
      | .nx e => P (j + m + 1) e s'
      | .ct e => P (j + m + 1) e s'
      | .bk e => R (.nx e) s'
      | .rt x => R (.rt x) s') s) →
    (∀ env s, P (j + xs.length) env s → R (.nx env) s) →
    (hm : ∀ (d : Dv) (env : En) (R R' : Fl → S → Prop) (s : S), (∀ d s, R d s → R' d s) → bnd (g d env) (fun e1 => b e1) R s → bnd (g d env) (fun e1 => b e1) R' s) → forW g b xs env R s
  | [], j, env, s, hp, _, hd, _ => hd env s hp
  | x :: xs, j, env, s, hp, hs, hd, hm => by
    refine hm _ _ _ _ _ ?_ (hs 0 x env s rfl hp)
    have go : ∀ e s', P (j + 1) e s' → forW g b xs e R s' := fun e s' h => by
      refine forW_inv P xs (j + 1) e s' h (fun m d env s hd2 h2 => ?_) (fun env s h2 => hd env s ?_) hm
      · have := hs (m + 1) d env s (by simpa using hd2) (by rw [show j + (m + 1) = j + 1 + m by omega]; exact h2)
        rw [show j + 1 + m + 1 = j + (m + 1) + 1 by omega]
        exact this
      · rw [List.length_cons, show j + (xs.length + 1) = j + 1 + xs.length by omega]
        exact h2
    intro fl s' h
    cases fl with
    | nx e => exact go e s' h
    | ct e => exact go e s' h
    | bk e => exact h
    | rt x => exact h
end
theorem rangeL_len (lo : Int) (n : Nat) : (rangeL lo n).length = n := by unfold rangeL; rw [List.length_map, List.length_range]
theorem rangeL_get {lo : Int} {n i : Nat} {d : Dv} (h : (rangeL lo n)[i]? = some d) : i < n ∧ d = .d (.int (lo + i)) := by
  have hi : i < n := by
    rcases Nat.lt_or_ge i n with z | z
    · exact z
    · rw [List.getElem?_eq_none (by rw [rangeL_len]; exact z)] at h
      cases h
  refine ⟨hi, ?_⟩
  unfold rangeL at h
  rw [List.getElem?_map, List.getElem?_range hi] at h
  exact (Option.some.inj h).symm

/-! ### parts of texts -/
open TL in
theorem spl_len (S : List Nat) : ∀ (l : List Nat) (k : Nat) (acc : List Nat), ∀ p ∈ spl S k acc l, p.length ≤ acc.length + l.length
  | [], k, acc, p, h => by
    rw [spl_nil] at h
    simp only [List.mem_cons, List.not_mem_nil, or_false] at h
    rw [h, List.length_nil]
    omega
  | c :: l, k + 1, acc, p, h => by
    have h : p ∈ spl S k acc l := h
    have := spl_len S l k acc p h
    rw [List.length_cons]
    omega
  | c :: l, 0, acc, p, h => by
    cases hp : pre S (c :: l) with
    | true =>
      rw [spl_hit hp] at h
      rcases List.mem_cons.mp h with h | h
      · rw [h]
        omega
      · have := spl_len S l _ [] p h
        rw [List.length_cons]
        rw [List.length_nil] at this
        omega
    | false =>
      rw [spl_miss hp] at h
      have := spl_len S l 0 _ p h
      rw [List.length_append, List.length_singleton] at this
      rw [List.length_cons]
      omega
open TL in
theorem split_part {x y : Str} (hy : tl y ≠ []) (hk : y.cps.all (· < 256) = true) : ∀ p ∈ Txt.split x y, p.length ≤ x.length := by
  intro p hp
  have h := split_spl x y hy (kind_ok hk)
  have hm : tl p ∈ (Txt.split x y).map tl := List.mem_map_of_mem hp
  rw [h] at hm
  have := spl_len _ _ _ _ _ hm
  rw [List.length_nil] at this
  rw [len_tl, len_tl x]
  omega

/-! ### how long a thing is shown -/
theorem textFrom_piled : ∀ (ts : List Str) (k : Nat) (acc : Str), (textFrom k acc ts).length ≤ acc.length + piled ts
  | [], _, acc => by
    show acc.length ≤ acc.length + piled []
    omega
  | t :: ts, k, acc => by
    have h := textFrom_piled ts (k + 1) (acc ++ (if k > 0 then ", " else "" : String) ++ t)
    have e : (acc ++ (if k > 0 then ", " else "" : String) ++ t).length ≤ acc.length + 2 + t.length := by
      rw [strLen_append, strLen_append]
      split
      · show acc.length + 2 + t.length ≤ _
        omega
      · show acc.length + 0 + t.length ≤ _
        omega
    rw [piled_cons]
    show (textFrom (k + 1) _ ts).length ≤ _
    omega
theorem listText_le (ts : List Str) : (listText ts).length ≤ piled ts + 2 := by
  unfold listText
  rw [strLen_append]
  have h := textFrom_piled ts 0 "["
  have e1 : (("[" : String) : Str).length = 1 := rfl
  have e2 : (("]" : String) : Str).length = 1 := rfl
  omega
theorem tupleText_le (ts : List Str) : (tupleText ts).length ≤ piled ts + 3 := by
  unfold tupleText
  rw [strLen_append, strLen_append]
  have e1 : (("(" : String) : Str).length = 1 := rfl
  have e3 : (((if ts.length == 1 then ",)" else ")" : String) : Str)).length ≤ 2 := by split <;> decide +kernel
  by_cases h : ts = []
  · subst h
    decide +kernel
  · have := join_length_add ts h
    omega
/-- shown, without dicts, of so many levels and signs at most -/
structure Shw (n k : Nat) (d : PyData) : Prop where
  nd : noDict d = true
  sh : d.showable = true
  dp : d.depth ≤ n
  ln : d.shown.length ≤ k
structure Shws (n k : Nat) (ds : List PyData) : Prop where
  nd : noDicts ds = true
  sh : PyData.showableAll ds = true
  dp : PyData.depthAll ds ≤ n
  ln : piled (PyData.shownAll ds) ≤ k
theorem Shw.ok {n k : Nat} {d : PyData} (h : Shw n k d) (hn : n ≤ 60) (hk : k ≤ sizeLine) : reprOk d := ⟨h.nd, h.sh, Nat.le_trans h.dp hn, Nat.le_trans h.ln hk⟩
theorem Shw.mono {n k n' k' : Nat} {d : PyData} (h : Shw n k d) (hn : n ≤ n') (hk : k ≤ k') : Shw n' k' d := ⟨h.nd, h.sh, Nat.le_trans h.dp hn, Nat.le_trans h.ln hk⟩
theorem Shw.none : Shw 0 4 .none := ⟨rfl, rfl, Nat.zero_le _, by decide +kernel⟩
theorem Shw.bool (b : Bool) : Shw 0 5 (.bool b) := by
  cases b
  · exact ⟨rfl, rfl, Nat.zero_le _, by decide +kernel⟩
  · exact ⟨rfl, rfl, Nat.zero_le _, by decide +kernel⟩
theorem Shw.str {x : Str} {k : Nat} (h : ∀ c ∈ x.cps.toList, c < 16 ^ 8) (hk : 10 * x.length + 2 ≤ k) : Shw 0 k (.str x) := ⟨rfl, rfl, Nat.zero_le _, by
  rw [PyData.shown_str]
  exact Nat.le_trans (StrLaws.reprText_len x h) hk⟩
theorem Shws.nil : Shws 0 0 [] := ⟨rfl, rfl, Nat.zero_le _, Nat.le_refl _⟩
theorem Shws.cons {n n' k k' : Nat} {d : PyData} {ds : List PyData} (h : Shw n k d) (hs : Shws n' k' ds) : Shws (max n n') (k + k' + 2) (d :: ds) := by
  obtain ⟨a, b, c, e⟩ := h
  obtain ⟨a', b', c', e'⟩ := hs
  refine ⟨by show (noDict d && noDicts ds) = true; rw [a, a']; rfl, by simp [PyData.showableAll, b, b'], by simp only [PyData.depthAll]; omega, ?_⟩
  rw [show PyData.shownAll (d :: ds) = d.shown :: PyData.shownAll ds from rfl, piled_cons]
  omega
theorem Shws.of {n k : Nat} : ∀ {ds : List PyData}, (∀ d ∈ ds, Shw n k d) → Shws n ((k + 2) * ds.length) ds
  | [], _ => ⟨rfl, rfl, Nat.zero_le _, Nat.zero_le _⟩
  | d :: ds, h => by
    have := Shws.cons (h d List.mem_cons_self) (Shws.of (ds := ds) fun x hx => h x (List.mem_cons_of_mem _ hx))
    refine ⟨this.nd, this.sh, Nat.le_trans this.dp (by omega), Nat.le_trans this.ln ?_⟩
    rw [List.length_cons, Nat.mul_succ]
    omega
theorem Shw.tup {n k : Nat} {ds : List PyData} (h : Shws n k ds) : Shw (n + 1) (k + 3) (.tuple ds) := by
  obtain ⟨a, b, c, e⟩ := h
  refine ⟨a, by simpa [PyData.showable] using b, by simp only [PyData.depth]; omega, ?_⟩
  have := tupleText_le (PyData.shownAll ds)
  show (tupleText (PyData.shownAll ds)).length ≤ _
  omega
theorem Shw.lst {n k : Nat} {ds : List PyData} (h : Shws n k ds) : Shw (n + 1) (k + 2) (.list ds) := by
  obtain ⟨a, b, c, e⟩ := h
  refine ⟨a, by simpa [PyData.showable] using b, by simp only [PyData.depth]; omega, ?_⟩
  have := listText_le (PyData.shownAll ds)
  show (listText (PyData.shownAll ds)).length ≤ _
  omega
end L2.DD

set_option maxRecDepth 100000
set_option maxHeartbeats 4000000
namespace L2.DD
open PySem PySem.Spec PyProof.Rows

/-! ### what the defs of texts tell -/
abbrev L6 : Nat := 1000000
theorem L6_size : L6 + 2 ≤ sizeLine := by decide
def lets : Str := "abcdefghijklmnopqrstuvwxyz"
def digs : Str := "0123456789"
def isWhole : PyData → Bool
  | .int _ => true
  | _ => false
def m_is_whole : List Dv → Option Dv
  | [.d x] => some (.d (.bool (isWhole x)))
  | _ => none
def btw (x : PyData) (lo hi : Int) : Bool := match x with
  | .int i => decide (lo ≤ i) && decide (i ≤ hi)
  | _ => false
def m_is_between : List Dv → Option Dv
  | [.d x, .d (.int lo), .d (.int hi)] => some (.d (.bool (btw x lo hi)))
  | _ => none
def isName (s : Str) : Bool := decide (1 ≤ (s.length : Int)) && decide ((s.length : Int) ≤ 8) && s.cps.toList.all fun c => decide (c ∈ lets.cps.toList)
def m_is_name : List Dv → Option Dv
  | [.d (.str s)] => if s.length ≤ L6 then some (.d (.bool (isName s))) else none
  | [.d _] => some (.d (.bool false))
  | _ => none
def isTupN (x : PyData) (n : Int) : Bool := match x with
  | .tuple ds => ((ds.length : Int) == n)
  | _ => false
def m_is_tuple_of : List Dv → Option Dv
  | [.d x, .d (.int n)] => some (.d (.bool (isTupN x n)))
  | _ => none
def isWorth (x : PyData) : Bool := match x with
  | .none => true
  | _ => btw x 0 3
def areValues (x : PyData) : Bool := match x with
  | .tuple ds => if ds.length ≤ 2 then ds.all isWorth else false
  | _ => false
def m_are_values : List Dv → Option Dv
  | [.d x] => some (.d (.bool (areValues x)))
  | _ => none
def nameOrNone (x : PyData) : Bool := match x with
  | .none => true
  | .str s => isName s
  | _ => false
def noneOrValues (x : PyData) : Bool := match x with
  | .none => true
  | _ => areValues x
def isItem (x : PyData) : Bool := match x with
  | .none => true
  | .int i => decide (1 ≤ i) && decide (i ≤ 9)
  | .tuple [h, w, v] => nameOrNone h && nameOrNone w && noneOrValues v
  | _ => false
def strLe (x : PyData) : Bool := match x with
  | .str s => decide (s.length ≤ L6)
  | _ => true
def partsLe (x : PyData) : Bool := match x with
  | .tuple [h, w, _] => strLe h && strLe w
  | _ => true
def m_is_item : List Dv → Option Dv
  | [.d x] => if partsLe x = true then some (.d (.bool (isItem x))) else none
  | _ => none

/-- numbers of texts -/
def inDigits (w : Str) : Bool := decide (1 ≤ (w.length : Int)) && decide ((w.length : Int) ≤ 3) && w.cps.toList.all fun c => decide (c ∈ digs.cps.toList)
def zeroLed (w : Str) : Bool := match w.cps.toList with
  | [] => false
  | c :: _ => ((⟨#[c]⟩ : Str) == ("0" : Str)) && !(w == ("0" : Str))
def numVal (w : Str) : Int := ((NumText.digitsVal w.cps.toList : Nat) : Int)
def numIn (w : Str) : List PyData := if inDigits w = true then (if zeroLed w = true then [] else [.int (numVal w)]) else []
def strM (f : Str → List PyData) : List Dv → Option Dv
  | [.d (.str w)] => if w.length ≤ L6 then some (.d (.list (f w))) else none
  | _ => none
def m_number_in : List Dv → Option Dv := strM numIn
def nameIn (w : Str) (n : PyData) : List PyData := if PyData.eqv (.str w) n = true then [.none] else if isName w = true then [.str w] else []
def m_name_in : List Dv → Option Dv
  | [.d (.str w), .d n] => if w.length ≤ L6 ∧ scalD (.str w) n = true then some (.d (.list (nameIn w n))) else none
  | _ => none
def valueIn (w : Str) : List PyData := if (w == ("?" : Str)) = true then [.none] else numIn w
def m_value_in : List Dv → Option Dv := strM valueIn
def firsts (f : List (List PyData)) : List PyData := f.map fun l => l.headD .none
def allIn (f : List (List PyData)) : List PyData := if f.any (·.isEmpty) = true then [] else [.tuple (firsts f)]
def valuesIn (w : Str) : List PyData := if (w == ("*" : Str)) = true then [.none] else if (w == ("-" : Str)) = true then [.tuple []] else allIn ((Txt.split w ("," : String)).map valueIn)
def m_values_in : List Dv → Option Dv := strM valuesIn
def itemParts (ws : List Str) : List PyData := match ws with
  | [a, b] => if (a == ("gap" : Str)) = true then valueIn b else []
  | [a, b, c] => allIn [nameIn a (.str ("-" : String)), nameIn b (.str ("?" : String)), valuesIn c]
  | _ => []
def itemKeep (l : List PyData) : List PyData := match l with
  | [] => []
  | x :: r => if isItem x = true then x :: r else []
def itemIn (t : Str) : List PyData := itemKeep (itemParts (Txt.split t (" " : String)))
def m_item_in : List Dv → Option Dv := strM itemIn
def itemsIn (t : Str) : List PyData := if (t == ("-" : Str)) = true then [.tuple []] else allIn ((Txt.split t (" / " : String)).map itemIn)
def m_items_in : List Dv → Option Dv := strM itemsIn

/-- items as texts -/
def showValue (x : PyData) : Str := match x with
  | .int i => toString i
  | _ => ("?" : String)
def okV (x : PyData) : Bool := match x with
  | .none => true
  | _ => btw x 0 9
def m_show_value : List Dv → Option Dv
  | [.d x] => if okV x = true then some (.d (.str (showValue x))) else none
  | _ => none
def showValues (x : PyData) : Str := match x with
  | .tuple [] => ("-" : String)
  | .tuple ds => Txt.join ("," : String) (ds.map showValue)
  | _ => ("*" : String)
def m_show_values : List Dv → Option Dv
  | [.d x] => if noneOrValues x = true then some (.d (.str (showValues x))) else none
  | _ => none
def showN (x : PyData) (n : Str) : Str := match x with
  | .str s => s
  | _ => n
def showItem (x : PyData) : Str := match x with
  | .tuple [h, w, v] => Txt.join (" " : String) [showN h ("-" : String), showN w ("?" : String), showValues v]
  | _ => ("gap " : Str) ++ showValue x
def m_show_item : List Dv → Option Dv
  | [.d x] => if isItem x = true then some (.d (.str (showItem x))) else none
  | _ => none
def showItems (ds : List PyData) : Str := match ds with
  | [] => ("-" : String)
  | ds => Txt.join (" / " : String) (ds.map showItem)
def m_show_items : List Dv → Option Dv
  | [.d (.tuple ds)] => if ds.all isItem = true ∧ ds.length ≤ 1000 then some (.d (.str (showItems ds))) else none
  | _ => none
def m_the_one : List Dv → Option Dv
  | [.d (.list (x :: _)), .d _] => some (.d x)
  | _ => none
def oneOf (f : Str → List PyData) : List Dv → Option Dv
  | [.d (.str t)] => if t.length ≤ L6 then (f t).head?.map .d else none
  | _ => none
def m_read_item : List Dv → Option Dv := oneOf itemIn
def m_read_items : List Dv → Option Dv := oneOf itemsIn

/-! ### lengths -/
theorem signsOf_len (z : Str) : (signsOf z).length = z.length := by unfold signsOf; rw [List.length_map, Array.length_toList]; rfl
theorem str_eqv (a b : Str) : PyData.eqv (.str a) (.str b) = (a == b) := rfl
theorem isName_len {s : Str} (h : isName s = true) : 1 ≤ s.length ∧ s.length ≤ 8 := by
  unfold isName at h
  simp only [Bool.and_eq_true, decide_eq_true_eq] at h
  omega
theorem isName_sign {s : Str} (h : isName s = true) : ∀ c ∈ s.cps.toList, 97 ≤ c ∧ c ≤ 122 := by
  intro c hc
  unfold isName at h
  rw [Bool.and_eq_true] at h
  have h2 := List.all_eq_true.mp h.2 c hc
  have h3 : c ∈ lets.cps.toList := of_decide_eq_true h2
  have key : ∀ c ∈ lets.cps.toList, 97 ≤ c ∧ c ≤ 122 := by decide +kernel
  exact key c h3
theorem join_len_le (y : Str) : ∀ (ps : List Str) (k : Nat), (∀ p ∈ ps, p.length ≤ k) → (Txt.join y ps).length ≤ (k + y.length) * ps.length := by
  intro ps k h
  rw [TL.join_eq]
  induction ps with
  | nil => exact Nat.zero_le _
  | cons x r ih =>
    have hx := h x List.mem_cons_self
    have ih := ih fun p hp => h p (List.mem_cons_of_mem _ hp)
    cases r with
    | nil =>
      show x.length ≤ _
      rw [List.length_singleton]
      omega
    | cons z r =>
      show (x ++ y ++ Str.join y (z :: r)).length ≤ _
      rw [strLen_append, strLen_append, List.length_cons, Nat.mul_succ]
      omega
theorem sum_len_le : ∀ (ps : List Str) (k : Nat), (∀ p ∈ ps, p.length ≤ k) → (ps.map (·.length)).sum ≤ k * ps.length
  | [], k, _ => by simp
  | x :: r, k, h => by
    have hx := h x List.mem_cons_self
    have ih := sum_len_le r k fun p hp => h p (List.mem_cons_of_mem _ hp)
    rw [List.map_cons, List.sum_cons, List.length_cons, Nat.mul_succ]
    omega
theorem small_int {i : Int} (h0 : 0 ≤ i) (h9 : i ≤ 9) : ∃ n : Nat, i = (n : Int) ∧ n ≤ 9 := ⟨i.toNat, by omega, by omega⟩
theorem digit_cases {P : Int → Prop} (h : ∀ n : Nat, n ≤ 9 → P (n : Int)) {i : Int} (h0 : 0 ≤ i) (h9 : i ≤ 9) : P i := by
  obtain ⟨n, rfl, hn⟩ := small_int h0 h9
  exact h n hn
theorem nine {P : Nat → Prop} (h0 : P 0) (h1 : P 1) (h2 : P 2) (h3 : P 3) (h4 : P 4) (h5 : P 5) (h6 : P 6) (h7 : P 7) (h8 : P 8) (h9 : P 9) : ∀ n, n ≤ 9 → P n := by
  intro n hn
  have : n = 0 ∨ n = 1 ∨ n = 2 ∨ n = 3 ∨ n = 4 ∨ n = 5 ∨ n = 6 ∨ n = 7 ∨ n = 8 ∨ n = 9 := by omega
  rcases this with rfl | rfl | rfl | rfl | rfl | rfl | rfl | rfl | rfl | rfl <;> assumption
theorem okV_cases {x : PyData} (h : okV x = true) : x = .none ∨ ∃ i : Int, x = .int i ∧ 0 ≤ i ∧ i ≤ 9 := by
  cases x with
  | none => exact .inl rfl
  | int i =>
    have h : (decide (0 ≤ i) && decide (i ≤ 9)) = true := h
    simp only [Bool.and_eq_true, decide_eq_true_eq] at h
    exact .inr ⟨i, rfl, h⟩
  | _ => cases h
theorem showInt_len {i : Int} (h0 : 0 ≤ i) (h9 : i ≤ 9) : (toString i : Str).length = 1 := by
  refine digit_cases (P := fun i => (toString i : Str).length = 1) (nine ?_ ?_ ?_ ?_ ?_ ?_ ?_ ?_ ?_ ?_) h0 h9 <;> decide +kernel
theorem showValue_len {x : PyData} (h : okV x = true) : (showValue x).length = 1 := by
  rcases okV_cases h with rfl | ⟨i, rfl, h0, h9⟩
  · decide +kernel
  · exact showInt_len h0 h9
theorem isWorth_okV {x : PyData} (h : isWorth x = true) : okV x = true := by
  cases x with
  | none => rfl
  | int i =>
    have h : (decide (0 ≤ i) && decide (i ≤ 3)) = true := h
    show (decide (0 ≤ i) && decide (i ≤ 9)) = true
    simp only [Bool.and_eq_true, decide_eq_true_eq] at h ⊢
    omega
  | _ => cases h
theorem values_cases {x : PyData} (h : noneOrValues x = true) : x = .none ∨ ∃ ds : List PyData, x = .tuple ds ∧ ds.length ≤ 2 ∧ ∀ d ∈ ds, isWorth d = true := by
  cases x with
  | none => exact .inl rfl
  | tuple ds =>
    have h : (if ds.length ≤ 2 then ds.all isWorth else false) = true := h
    split at h
    · exact .inr ⟨ds, rfl, by assumption, fun d hd => List.all_eq_true.mp h d hd⟩
    · cases h
  | _ => cases h
theorem showValues_len {x : PyData} (h : noneOrValues x = true) : (showValues x).length ≤ 4 := by
  rcases values_cases h with rfl | ⟨ds, rfl, hl, hd⟩
  · decide +kernel
  · cases ds with
    | nil => decide +kernel
    | cons a r =>
      show (Txt.join ("," : String) ((a :: r).map showValue)).length ≤ 4
      have e := join_len_le ("," : String) ((a :: r).map showValue) 1 (fun p hp => by
        obtain ⟨z, hz, rfl⟩ := List.mem_map.mp hp
        exact Nat.le_of_eq (showValue_len (isWorth_okV (hd z hz))))
      rw [List.length_map] at e
      have e2 : (("," : String) : Str).length = 1 := rfl
      rw [e2] at e
      omega
theorem showN_len {x : PyData} {n : Str} (h : nameOrNone x = true) (hn : n.length = 1) : (showN x n).length ≤ 8 := by
  cases x with
  | str s => exact (isName_len h).2
  | _ => show n.length ≤ 8; omega
theorem name_cases {x : PyData} (h : nameOrNone x = true) : x = .none ∨ ∃ s : Str, x = .str s ∧ isName s = true := by
  cases x with
  | none => exact .inl rfl
  | str s => exact .inr ⟨s, rfl, h⟩
  | _ => cases h
theorem item_cases {x : PyData} (h : isItem x = true) : x = .none ∨ (∃ i : Int, x = .int i ∧ 1 ≤ i ∧ i ≤ 9) ∨ ∃ a b v, x = .tuple [a, b, v] ∧ nameOrNone a = true ∧ nameOrNone b = true ∧ noneOrValues v = true := by
  cases x with
  | none => exact .inl rfl
  | int i =>
    have h : (decide (1 ≤ i) && decide (i ≤ 9)) = true := h
    simp only [Bool.and_eq_true, decide_eq_true_eq] at h
    exact .inr (.inl ⟨i, rfl, h⟩)
  | tuple ds =>
    match ds, h with
    | [a, b, v], h =>
      have h : (nameOrNone a && nameOrNone b && noneOrValues v) = true := h
      simp only [Bool.and_eq_true] at h
      exact .inr (.inr ⟨a, b, v, rfl, h.1.1, h.1.2, h.2⟩)
    | [], h => cases h
    | [_], h => cases h
    | [_, _], h => cases h
    | _ :: _ :: _ :: _ :: _, h => cases h
  | _ => cases h
theorem showItem_len {x : PyData} (h : isItem x = true) : (showItem x).length ≤ 30 := by
  rcases item_cases h with rfl | ⟨i, rfl, h0, h9⟩ | ⟨a, b, v, rfl, ha, hb, hv⟩
  · decide +kernel
  · show (("gap " : Str) ++ showValue (.int i)).length ≤ 30
    rw [strLen_append]
    have e : (showValue (.int i)).length = 1 := showInt_len (by omega) h9
    have e2 : (("gap " : String) : Str).length = 4 := rfl
    omega
  · show (Txt.join (" " : String) [showN a ("-" : String), showN b ("?" : String), showValues v]).length ≤ 30
    have e := join_len_le (" " : String) [showN a ("-" : String), showN b ("?" : String), showValues v] 8 (fun p hp => by
      simp only [List.mem_cons, List.not_mem_nil, or_false] at hp
      rcases hp with rfl | rfl | rfl
      · exact showN_len ha rfl
      · exact showN_len hb rfl
      · exact Nat.le_trans (showValues_len hv) (by decide))
    exact Nat.le_trans e (by show (8 + 1) * 3 ≤ 30; decide)
theorem showItems_len {ds : List PyData} (h : ds.all isItem = true) (hl : ds.length ≤ 1000) : (showItems ds).length ≤ 33000 := by
  cases ds with
  | nil => decide +kernel
  | cons a r =>
    show (Txt.join (" / " : String) ((a :: r).map showItem)).length ≤ 33000
    have e := join_len_le (" / " : String) ((a :: r).map showItem) 30 (fun p hp => by
      obtain ⟨z, hz, rfl⟩ := List.mem_map.mp hp
      exact showItem_len (List.all_eq_true.mp h z hz))
    rw [List.length_map] at e
    have e2 : ((" / " : String) : Str).length = 3 := rfl
    rw [e2] at e
    omega

/-! ### lists that are compared -/
theorem empty_eqv (l : List PyData) : PyData.eqv (.list l) (.list []) = l.isEmpty := by cases l <;> rfl
theorem inD_empty : ∀ (f : List (List PyData)), inD (.list []) (f.map PyData.list) = f.any (·.isEmpty)
  | [] => rfl
  | l :: f => by
    have ih := inD_empty f
    unfold inD at ih ⊢
    rw [List.map_cons, List.any_cons, List.any_cons, ih, empty_eqv]
/-- small things that are laid -/
structure Laid (n : Nat) (d : PyData) : Prop where
  ok : d.canLay0 = true
  dp : d.depth ≤ n
theorem laids {n : Nat} : ∀ {ds : List PyData}, (∀ d ∈ ds, Laid n d) → PyData.canLayAll0 ds = true ∧ PyData.depthAll ds ≤ n
  | [], _ => ⟨rfl, Nat.zero_le _⟩
  | d :: ds, h => by
    obtain ⟨a, b⟩ := laids (ds := ds) fun x hx => h x (List.mem_cons_of_mem _ hx)
    obtain ⟨c, e⟩ := h d List.mem_cons_self
    exact ⟨by show (d.canLay0 && PyData.canLayAll0 ds) = true; rw [c, a]; rfl, by simp only [PyData.depthAll]; omega⟩
theorem Laid.list {n : Nat} {ds : List PyData} (h : ∀ d ∈ ds, Laid n d) : Laid (n + 1) (.list ds) := by
  obtain ⟨a, b⟩ := laids h
  exact ⟨a, by simp only [PyData.depth]; omega⟩
theorem Laid.tuple {n : Nat} {ds : List PyData} (h : ∀ d ∈ ds, Laid n d) : Laid (n + 1) (.tuple ds) := by
  obtain ⟨a, b⟩ := laids h
  exact ⟨a, by simp only [PyData.depth]; omega⟩
theorem Laid.shaped {n : Nat} {d : PyData} (h : Laid n d) (hn : n ≤ 64) : SeqAt.shaped d = true := by
  unfold SeqAt.shaped
  rw [h.ok, Bool.true_and]
  exact decide_eq_true (Nat.le_trans h.dp hn)
theorem Laid.mono {n m : Nat} {d : PyData} (h : Laid n d) (hn : n ≤ m) : Laid m d := ⟨h.ok, Nat.le_trans h.dp hn⟩
theorem Laid.none : Laid 0 .none := ⟨rfl, Nat.zero_le _⟩
theorem Laid.int (i : Int) : Laid 0 (.int i) := ⟨rfl, Nat.zero_le _⟩
theorem Laid.str {s : Str} (h : ∀ c ∈ s.cps.toList, c < 0x110000) : Laid 0 (.str s) := ⟨by
  show s.cps.all (· < 0x110000) = true
  rw [← Array.all_toList, List.all_eq_true]
  intro c hc
  exact decide_eq_true (h c hc), Nat.zero_le _⟩
theorem Laid.name {s : Str} (h : isName s = true) : Laid 0 (.str s) := .str fun c hc => by have := isName_sign h c hc; omega
theorem inOk_empty {n : Nat} {f : List (List PyData)} (h : ∀ l ∈ f, ∀ d ∈ l, Laid n d) (hn : n + 2 ≤ 64) : inOk (.list []) (f.map PyData.list) := .inr ⟨by decide +kernel, (Laid.list (n := n + 1) fun d hd => by
  obtain ⟨l, hl, rfl⟩ := List.mem_map.mp hd
  exact Laid.list (h l hl)).shaped (by omega)⟩
theorem numIn_laid {w : Str} : ∀ d ∈ numIn w, Laid 0 d := by
  intro d hd
  unfold numIn at hd
  split at hd
  · split at hd
    · cases hd
    · rw [List.mem_singleton.mp hd]
      exact .int _
  · cases hd
theorem valueIn_laid {w : Str} : ∀ d ∈ valueIn w, Laid 0 d := by
  intro d hd
  unfold valueIn at hd
  split at hd
  · rw [List.mem_singleton.mp hd]
    exact .none
  · exact numIn_laid d hd
theorem nameIn_laid {w : Str} {n : PyData} : ∀ d ∈ nameIn w n, Laid 0 d := by
  intro d hd
  unfold nameIn at hd
  split at hd
  · rw [List.mem_singleton.mp hd]
    exact .none
  · split at hd
    · rw [List.mem_singleton.mp hd]
      exact .name (by assumption)
    · cases hd
theorem allIn_laid {n : Nat} {f : List (List PyData)} (h : ∀ l ∈ f, ∀ d ∈ l, Laid n d) : ∀ d ∈ allIn f, Laid (n + 1) d := by
  intro d hd
  unfold allIn at hd
  split at hd
  · cases hd
  · rw [List.mem_singleton.mp hd]
    refine Laid.tuple fun x hx => ?_
    unfold firsts at hx
    obtain ⟨l, hl, rfl⟩ := List.mem_map.mp hx
    cases l with
    | nil => exact Laid.none.mono (Nat.zero_le _)
    | cons y r => exact h _ hl y List.mem_cons_self
theorem valuesIn_laid {w : Str} : ∀ d ∈ valuesIn w, Laid 1 d := by
  intro d hd
  unfold valuesIn at hd
  split at hd
  · rw [List.mem_singleton.mp hd]
    exact Laid.none.mono (Nat.zero_le _)
  · split at hd
    · rw [List.mem_singleton.mp hd]
      exact Laid.tuple (n := 0) fun x hx => by cases hx
    · refine allIn_laid (n := 0) (fun l hl => ?_) d hd
      obtain ⟨z, hz, rfl⟩ := List.mem_map.mp hl
      exact valueIn_laid
theorem itemParts_laid {ws : List Str} : ∀ d ∈ itemParts ws, Laid 2 d := by
  intro d hd
  unfold itemParts at hd
  split at hd
  · split at hd
    · exact (valueIn_laid d hd).mono (by decide)
    · cases hd
  · refine allIn_laid (n := 1) (fun l hl => ?_) d hd
    simp only [List.mem_cons, List.not_mem_nil, or_false] at hl
    rcases hl with rfl | rfl | rfl
    · exact fun d hd => (nameIn_laid d hd).mono (by decide)
    · exact fun d hd => (nameIn_laid d hd).mono (by decide)
    · exact valuesIn_laid
  · cases hd
theorem itemIn_laid {t : Str} : ∀ d ∈ itemIn t, Laid 2 d := by
  intro d hd
  unfold itemIn at hd
  have key := itemParts_laid (ws := Txt.split t (" " : String))
  revert hd key
  cases itemParts (Txt.split t (" " : String)) with
  | nil => intro hd _; cases hd
  | cons x r =>
    intro hd key
    have hd : d ∈ (if isItem x = true then x :: r else []) := hd
    split at hd
    · exact key d hd
    · cases hd
theorem itemParts_le {ws : List Str} (hw : ∀ w ∈ ws, w.length ≤ L6) : ∀ d ∈ itemParts ws, partsLe d = true := by
  intro d hd
  unfold itemParts at hd
  split at hd
  · split at hd
    · unfold valueIn at hd
      split at hd
      · rw [List.mem_singleton.mp hd]; rfl
      · unfold numIn at hd
        split at hd
        · split at hd
          · cases hd
          · rw [List.mem_singleton.mp hd]; rfl
        · cases hd
    · cases hd
  · rename_i a b c
    unfold allIn at hd
    split at hd
    · cases hd
    · rw [List.mem_singleton.mp hd]
      have key : ∀ (w : Str) (n : PyData), w.length ≤ L6 → strLe ((nameIn w n).headD .none) = true := by
        intro w n h
        unfold nameIn
        split
        · rfl
        · split
          · exact decide_eq_true h
          · rfl
      show (strLe _ && strLe _) = true
      rw [Bool.and_eq_true]
      exact ⟨key _ _ (hw _ (by simp)), key _ _ (hw _ (by simp))⟩
  · cases hd
/-- the first of each -/
def firstD (d : PyData) : PyData := match d with
  | .list l => l.headD .none
  | _ => .none
theorem firsts_map (f : List (List PyData)) : (f.map PyData.list).map firstD = firsts f := by
  rw [List.map_map]
  rfl
theorem first_at {l : List PyData} (h : l.isEmpty = false) : ixD (.d (.list l)) 0 = some (firstD (.list l)) := by
  cases l with
  | nil => cases h
  | cons x r => exact atI_nat (xs := x :: r) (j := 0) (v := x) rfl
theorem inDigits_all {w : Str} (h : inDigits w = true) : NumText.AllDigits w.cps.toList ∧ w.cps.toList ≠ [] ∧ w.length ≤ 3 := by
  unfold inDigits at h
  simp only [Bool.and_eq_true, decide_eq_true_eq, List.all_eq_true] at h
  obtain ⟨⟨h1, h2⟩, h3⟩ := h
  have key : ∀ c ∈ digs.cps.toList, 48 ≤ c ∧ c ≤ 57 := by decide +kernel
  refine ⟨fun c hc => ?_, fun e => ?_, by omega⟩
  · have := key c (h3 c hc)
    exact this
  · have : w.length = w.cps.toList.length := by rw [Array.length_toList]; rfl
    rw [e, List.length_nil] at this
    omega
theorem numVal_text {w : Str} (h : inDigits w = true) : intD (.d (.str w)) = some (numVal w) := by
  obtain ⟨h1, h2, h3⟩ := inDigits_all h
  show (if w.length ≤ 640 then PySem.intText? w else none) = _
  rw [if_pos (by omega)]
  exact PySem.intText_digits h1 h2 (by omega)

/-! ### read back -/
/-- parts without the second sign of the separator -/
theorem pre_mid {a b : Nat} {S p q : List Nat} (hab : a ≠ b) (h : b ∉ p) : ∀ i, i < p.length → TL.pre (a :: b :: S) ((p ++ (a :: q)).drop i) = false := fun i hi => by
  have hlt : i < (p ++ (a :: q)).length := by rw [List.length_append]; omega
  have e : (p ++ (a :: q)).drop i = (p ++ (a :: q))[i] :: (p ++ (a :: q)).drop (i + 1) := List.drop_eq_getElem_cons hlt
  rw [e]
  unfold TL.pre
  rcases Nat.lt_or_ge (i + 1) p.length with h1 | h1
  · have hlt2 : i + 1 < (p ++ (a :: q)).length := by rw [List.length_append]; omega
    have e2 : (p ++ (a :: q)).drop (i + 1) = (p ++ (a :: q))[i + 1] :: (p ++ (a :: q)).drop (i + 1 + 1) := List.drop_eq_getElem_cons hlt2
    rw [e2]
    have e3 : (p ++ (a :: q))[i + 1] = p[i + 1] := List.getElem_append_left h1
    rw [e3]
    simp only [List.length_cons, List.take_succ_cons, beq_eq_false_iff_ne, ne_eq, List.cons.injEq, not_and]
    intro _ z
    exact fun _ => h (by rw [← z]; exact List.getElem_mem h1)
  · have hi2 : i + 1 = p.length := by omega
    have e2 : (p ++ (a :: q)).drop (i + 1) = a :: q := by rw [hi2]; exact List.drop_left
    rw [e2]
    simp only [List.length_cons, List.take_succ_cons, beq_eq_false_iff_ne, ne_eq, List.cons.injEq, not_and]
    intro _ z
    exact absurd z hab
theorem pre_mid_last {a b : Nat} {S p : List Nat} (h : b ∉ p) : ∀ i, i < p.length → TL.pre (a :: b :: S) (p.drop i) = false := fun i hi => by
  have e : p.drop i = p[i] :: p.drop (i + 1) := List.drop_eq_getElem_cons hi
  rw [e]
  unfold TL.pre
  rcases Nat.lt_or_ge (i + 1) p.length with h1 | h1
  · have e2 : p.drop (i + 1) = p[i + 1] :: p.drop (i + 1 + 1) := List.drop_eq_getElem_cons h1
    rw [e2]
    simp only [List.length_cons, List.take_succ_cons, beq_eq_false_iff_ne, ne_eq, List.cons.injEq, not_and]
    intro _ z
    exact fun _ => h (by rw [← z]; exact List.getElem_mem h1)
  · have e2 : p.drop (i + 1) = [] := List.drop_eq_nil_of_le h1
    rw [e2]
    simp only [List.length_cons, List.take_succ_cons, List.take_nil, beq_eq_false_iff_ne, ne_eq, List.cons.injEq, not_and]
    intro _ z
    cases z
theorem spl_joinM {a b : Nat} {S : List Nat} (hab : a ≠ b) : ∀ {parts : List (List Nat)}, parts ≠ [] → (∀ p ∈ parts, b ∉ p) → TL.spl (a :: b :: S) 0 [] (TL.joinL (a :: b :: S) parts) = parts
  | [], h, _ => absurd rfl h
  | [p], _, hp => by
    show TL.spl (a :: b :: S) 0 [] p = [p]
    rw [TL.spl_last (pre_mid_last (hp p (List.mem_singleton.mpr rfl))), List.nil_append]
  | p :: q :: r, _, hp => by
    show TL.spl (a :: b :: S) 0 [] (p ++ (a :: b :: S ++ TL.joinL (a :: b :: S) (q :: r))) = p :: q :: r
    rw [TL.spl_part (by simp) (pre_mid hab (hp p List.mem_cons_self)), List.nil_append, spl_joinM hab (by simp) fun z hz => hp z (List.mem_cons_of_mem _ hz)]
/-- a joined text, split, by the separator's second sign -/
theorem split_joinM {y : Str} {a b : Nat} {S : List Nat} (ey : TL.tl y = a :: b :: S) (hab : a ≠ b) (hk : y.cps.all (· < 256) = true) {parts : List Str} (hne : parts ≠ []) (hp : ∀ p ∈ parts, b ∉ TL.tl p) :
    Txt.split (Txt.join y parts) y = parts := by
  refine TL.map_tl_inj ?_
  rw [TL.split_spl _ y (by rw [ey]; simp) (TL.kind_ok hk), TL.join_eq, TL.tl_join, ey]
  refine spl_joinM hab (fun e => hne (List.map_eq_nil_iff.mp e)) fun p h => ?_
  obtain ⟨z, hz, rfl⟩ := List.mem_map.mp h
  exact hp z hz
theorem joinL_mem {S : List Nat} {c : Nat} : ∀ {ps : List (List Nat)}, c ∈ TL.joinL S ps → c ∈ S ∨ ∃ p ∈ ps, c ∈ p
  | [], h => by cases h
  | [p], h => .inr ⟨p, List.mem_singleton.mpr rfl, h⟩
  | p :: q :: r, h => by
    have h : c ∈ p ++ (S ++ TL.joinL S (q :: r)) := h
    rcases List.mem_append.mp h with h | h
    · exact .inr ⟨p, List.mem_cons_self, h⟩
    · rcases List.mem_append.mp h with h | h
      · exact .inl h
      · rcases joinL_mem h with h | ⟨z, hz, h⟩
        · exact .inl h
        · exact .inr ⟨z, List.mem_cons_of_mem _ hz, h⟩
theorem join_mem {y : Str} {ps : List Str} {c : Nat} (h : c ∈ TL.tl (Txt.join y ps)) : c ∈ TL.tl y ∨ ∃ p ∈ ps, c ∈ TL.tl p := by
  rw [TL.join_eq, TL.tl_join] at h
  rcases joinL_mem h with h | ⟨z, hz, h⟩
  · exact .inl h
  · obtain ⟨p, hp, rfl⟩ := List.mem_map.mp hz
    exact .inr ⟨p, hp, h⟩
theorem value_back {x : PyData} (h : okV x = true) : valueIn (showValue x) = [x] ∧ (∀ c ∈ TL.tl (showValue x), c = 63 ∨ (48 ≤ c ∧ c ≤ 57)) := by
  rcases okV_cases h with rfl | ⟨i, rfl, h0, h9⟩
  · exact ⟨by rfl, by decide +kernel⟩
  · refine digit_cases (P := fun i => valueIn (showValue (.int i)) = [.int i] ∧ (∀ c ∈ TL.tl (showValue (.int i)), c = 63 ∨ (48 ≤ c ∧ c ≤ 57))) (nine ?_ ?_ ?_ ?_ ?_ ?_ ?_ ?_ ?_ ?_) h0 h9 <;> exact ⟨by rfl, by decide +kernel⟩
theorem allIn_map {α : Type} (f : α → List PyData) (g : PyData → α) : ∀ (ds : List PyData), (∀ d ∈ ds, f (g d) = [d]) → allIn ((ds.map g).map f) = [.tuple ds] := by
  intro ds h
  have e1 : ((ds.map g).map f) = ds.map fun d => [d] := by
    rw [List.map_map]
    exact List.map_congr_left h
  rw [e1]
  unfold allIn firsts
  have e2 : ((ds.map fun d => [d]).any (·.isEmpty)) = false := by
    rw [List.any_map, List.any_eq_false]
    intro x _
    simp
  rw [e2, if_neg Bool.false_ne_true, List.map_map]
  congr 1
  rw [PyData.tuple.injEq]
  exact List.map_id' ds
theorem values_back {x : PyData} (h : noneOrValues x = true) : valuesIn (showValues x) = [x] ∧ 32 ∉ TL.tl (showValues x) ∧ 47 ∉ TL.tl (showValues x) := by
  rcases values_cases h with rfl | ⟨ds, rfl, hl, hd⟩
  · exact ⟨by rfl, by decide +kernel, by decide +kernel⟩
  · cases ds with
    | nil => exact ⟨by rfl, by decide +kernel, by decide +kernel⟩
    | cons a r =>
      have hv : ∀ d ∈ a :: r, okV d = true := fun d hz => isWorth_okV (hd d hz)
      have free : ∀ c ∈ TL.tl (showValues (.tuple (a :: r))), c = 44 ∨ c = 63 ∨ (48 ≤ c ∧ c ≤ 57) := by
        intro c hc
        rcases join_mem hc with h1 | ⟨p, hp, h1⟩
        · have : TL.tl ("," : String) = [44] := by decide +kernel
          rw [this] at h1
          exact .inl (List.mem_singleton.mp h1)
        · obtain ⟨z, hz, rfl⟩ := List.mem_map.mp hp
          exact .inr ((value_back (hv z hz)).2 c h1)
      have no : ∀ s : Nat, s ≠ 44 → s ≠ 63 → (s < 48 ∨ 57 < s) → s ∉ TL.tl (showValues (.tuple (a :: r))) := fun s h1 h2 h3 hm => by
        rcases free s hm with e | e | ⟨e1, e2⟩ <;> omega
      have ne : ∀ (y : Str) (s : Nat), TL.tl y = [s] → s ≠ 44 → s ≠ 63 → (s < 48 ∨ 57 < s) → (showValues (.tuple (a :: r)) == y) = false := fun y s ey h1 h2 h3 => by
        rw [beq_eq_false_iff_ne]
        intro e
        have := no s h1 h2 h3
        rw [e, ey] at this
        exact this (List.mem_singleton.mpr rfl)
      refine ⟨?_, no 32 (by decide) (by decide) (by decide), no 47 (by decide) (by decide) (by decide)⟩
      unfold valuesIn
      rw [ne ("*" : String) 42 (by decide +kernel) (by decide) (by decide) (by decide), ne ("-" : String) 45 (by decide +kernel) (by decide) (by decide) (by decide), if_neg Bool.false_ne_true, if_neg Bool.false_ne_true]
      have es : Txt.split (showValues (.tuple (a :: r))) ("," : String) = (a :: r).map showValue := by
        refine TL.split_join (s := 44) (S := []) (by decide +kernel) (by decide +kernel) (by simp) fun p hp hm => ?_
        obtain ⟨z, hz, rfl⟩ := List.mem_map.mp hp
        rcases (value_back (hv z hz)).2 44 hm with e | ⟨e1, e2⟩ <;> omega
      rw [es]
      exact allIn_map valueIn showValue (a :: r) fun d hz => (value_back (hv d hz)).1
theorem name_back {x : PyData} {n : Str} {s : Nat} (h : nameOrNone x = true) (en : TL.tl n = [s]) (hs : s < 97) (h32 : s ≠ 32) (h47 : s ≠ 47) : nameIn (showN x n) (.str n) = [x] ∧ 32 ∉ TL.tl (showN x n) ∧ 47 ∉ TL.tl (showN x n) := by
  cases x with
  | none =>
    refine ⟨?_, ?_, ?_⟩
    · show (if (n == n) = true then _ else _) = _
      rw [if_pos (by simp)]
    · show 32 ∉ TL.tl n
      rw [en]
      simp only [List.mem_singleton]
      omega
    · show 47 ∉ TL.tl n
      rw [en]
      simp only [List.mem_singleton]
      omega
  | str z =>
    have sg := isName_sign (s := z) h
    refine ⟨?_, fun hm => by have := sg 32 hm; omega, fun hm => by have := sg 47 hm; omega⟩
    show (if (z == n) = true then _ else if isName z = true then _ else _) = _
    have e : (z == n) = false := by
      rw [beq_eq_false_iff_ne]
      intro e
      subst e
      have := sg s (by show s ∈ TL.tl z; rw [en]; exact List.mem_singleton.mpr rfl)
      omega
    have h : isName z = true := h
    rw [e, if_neg Bool.false_ne_true, if_pos h]
    rfl
  | _ => cases h
theorem gap_back {x : PyData} (hv : okV x = true) (h : isItem x = true) (hs : showItem x = ("gap " : Str) ++ showValue x) : itemIn (showItem x) = [x] ∧ 47 ∉ TL.tl (showItem x) ∧ 32 ∈ TL.tl (showItem x) := by
  obtain ⟨v1, v2⟩ := value_back hv
  have e4 : TL.tl ("gap " : String) = [103, 97, 112, 32] := by decide +kernel
  have e3 : TL.tl ("gap" : String) = [103, 97, 112] := by decide +kernel
  have e1 : TL.tl (" " : String) = [32] := by decide +kernel
  have et : TL.tl (showItem x) = [103, 97, 112, 32] ++ TL.tl (showValue x) := by rw [hs, TL.tl_append, e4]
  have ej : showItem x = Txt.join (" " : String) [("gap" : Str), showValue x] := by
    refine TL.ext_tl ?_
    rw [et, TL.join_eq, TL.tl_join]
    show _ = TL.tl _ ++ (TL.tl _ ++ TL.tl _)
    rw [e3, e1]
    rfl
  refine ⟨?_, ?_, ?_⟩
  · unfold itemIn
    have es : Txt.split (showItem x) (" " : String) = [("gap" : Str), showValue x] := by
      rw [ej]
      refine TL.split_join (s := 32) (S := []) e1 (by decide +kernel) (by simp) fun p hp => ?_
      simp only [List.mem_cons, List.not_mem_nil, or_false] at hp
      rcases hp with rfl | rfl
      · decide +kernel
      · intro hm
        rcases v2 32 hm with e | ⟨e1, e2⟩ <;> omega
    rw [es]
    have ep : itemParts [("gap" : Str), showValue x] = [x] := by
      show (if (("gap" : Str) == ("gap" : Str)) = true then valueIn (showValue x) else []) = _
      rw [if_pos (by decide +kernel), v1]
    rw [ep]
    show (if isItem x = true then _ else _) = _
    rw [if_pos h]
  · rw [et]
    intro hm
    rcases List.mem_append.mp hm with h1 | h1
    · exact absurd h1 (by decide)
    · rcases v2 47 h1 with e | ⟨e1, e2⟩ <;> omega
  · rw [et]
    exact List.mem_append.mpr (.inl (by decide))
theorem item_back {x : PyData} (h : isItem x = true) : itemIn (showItem x) = [x] ∧ 47 ∉ TL.tl (showItem x) ∧ 32 ∈ TL.tl (showItem x) := by
  rcases item_cases h with rfl | ⟨i, rfl, h0, h9⟩ | ⟨a, b, v, rfl, ha, hb, hv⟩
  · exact gap_back rfl h rfl
  · refine gap_back ?_ h rfl
    show (decide (0 ≤ i) && decide (i ≤ 9)) = true
    simp only [Bool.and_eq_true, decide_eq_true_eq]
    omega
  · obtain ⟨a1, a2, a3⟩ := name_back (n := ("-" : String)) (s := 45) ha (by decide +kernel) (by decide) (by decide) (by decide)
    obtain ⟨b1, b2, b3⟩ := name_back (n := ("?" : String)) (s := 63) hb (by decide +kernel) (by decide) (by decide) (by decide)
    obtain ⟨v1, v2, v3⟩ := values_back hv
    have e32 : TL.tl (" " : String) = [32] := by decide +kernel
    have mem : ∀ p ∈ [showN a ("-" : String), showN b ("?" : String), showValues v], 32 ∉ TL.tl p ∧ 47 ∉ TL.tl p := by
      intro p hp
      simp only [List.mem_cons, List.not_mem_nil, or_false] at hp
      rcases hp with rfl | rfl | rfl
      · exact ⟨a2, a3⟩
      · exact ⟨b2, b3⟩
      · exact ⟨v2, v3⟩
    refine ⟨?_, ?_, ?_⟩
    · unfold itemIn
      have es : Txt.split (showItem (.tuple [a, b, v])) (" " : String) = [showN a ("-" : String), showN b ("?" : String), showValues v] := TL.split_join (s := 32) (S := []) e32 (by decide +kernel) (by simp) fun p hp => (mem p hp).1
      rw [es]
      have ep : itemParts [showN a ("-" : String), showN b ("?" : String), showValues v] = [.tuple [a, b, v]] := by
        show allIn [nameIn (showN a ("-" : String)) (.str ("-" : String)), nameIn (showN b ("?" : String)) (.str ("?" : String)), valuesIn (showValues v)] = _
        rw [a1, b1, v1]
        rfl
      rw [ep]
      show (if isItem (.tuple [a, b, v]) = true then _ else _) = _
      rw [if_pos h]
    · intro hm
      rcases join_mem hm with h1 | ⟨p, hp, h1⟩
      · rw [e32] at h1
        exact absurd (List.mem_singleton.mp h1) (by decide)
      · exact (mem p hp).2 h1
    · show 32 ∈ TL.tl (Txt.join _ _)
      rw [TL.join_eq, TL.tl_join]
      show 32 ∈ TL.tl _ ++ (TL.tl (" " : String) ++ _)
      rw [e32]
      exact List.mem_append.mpr (.inr (List.mem_append.mpr (.inl (List.mem_singleton.mpr rfl))))
theorem items_back {ds : List PyData} (h : ds.all isItem = true) : itemsIn (showItems ds) = [.tuple ds] := by
  cases ds with
  | nil => rfl
  | cons a r =>
    have hv : ∀ d ∈ a :: r, isItem d = true := fun d hz => List.all_eq_true.mp h d hz
    have e3 : TL.tl (" / " : String) = [32, 47, 32] := by decide +kernel
    have ne : (showItems (a :: r) == ("-" : Str)) = false := by
      rw [beq_eq_false_iff_ne]
      intro e
      have m : 32 ∈ TL.tl (showItems (a :: r)) := by
        cases r with
        | nil => exact (item_back (hv a List.mem_cons_self)).2.2
        | cons b r =>
          show 32 ∈ TL.tl (Txt.join _ _)
          rw [TL.join_eq, TL.tl_join, e3]
          show 32 ∈ TL.tl _ ++ ([32, 47, 32] ++ _)
          exact List.mem_append.mpr (.inr (List.mem_append.mpr (.inl (by simp))))
      rw [e] at m
      exact absurd m (by decide +kernel)
    unfold itemsIn
    rw [ne, if_neg Bool.false_ne_true]
    have es : Txt.split (showItems (a :: r)) (" / " : String) = (a :: r).map showItem := by
      refine split_joinM (a := 32) (b := 47) (S := [32]) e3 (by decide) (by decide +kernel) (by simp) fun p hp => ?_
      obtain ⟨z, hz, rfl⟩ := List.mem_map.mp hp
      exact (item_back (hv z hz)).2.1
    rw [es]
    exact allIn_map itemIn showItem (a :: r) fun d hz => (item_back (hv d hz)).1
end L2.DD

set_option maxRecDepth 100000
set_option maxHeartbeats 4000000
namespace L2.DD
open PySem PySem.Spec PyProof.Rows

/-! ### what the law's own defs tell: draws -/
abbrev dmax : Nat := 1000000
def m__law_take : List Dv → Wp Nat Dv := fun ds R s => ∃ u : Int, ds = [.d (.int u)] ∧ s ≤ dmax ∧ 1 ≤ u ∧ u < 536870912 ∧ ∀ d : Int, 0 ≤ d → d < u → R (.d (.int d)) (s + 1)
def m__law_of : List Dv → Wp Nat Dv := fun ds R s => ∃ (x : Dv) (n : Nat), ds = [x] ∧ lenD x = some n ∧ 1 ≤ n ∧ n < 536870912 ∧ s ≤ dmax ∧ ∀ (j : Nat) (d : PyData), j < n → ixD x (j : Int) = some d → R (.d d) (s + 1)
def m__law_name : List Dv → Wp Nat Dv := fun ds R s => ds = [] ∧ s + 20 ≤ dmax ∧ ∀ (x : Str) (s' : Nat), isName x = true → s' ≤ s + 10 → R (.d (.str x)) s'
theorem of_mono {ds : List Dv} {R R' : Dv → Nat → Prop} {s : Nat} (h : ∀ d s, R d s → R' d s) (m : m__law_of ds R s) : m__law_of ds R' s := by
  obtain ⟨x, n, a, b, c, d, e, f⟩ := m
  exact ⟨x, n, a, b, c, d, e, fun j z h1 h2 => h _ _ (f j z h1 h2)⟩
theorem isPot_self (p : Addr) (ds : List Dv) : isPot p (.o (.ref p) :: ds) = some ds := if_pos rfl
theorem atI_mem {α : Type} {ds : List α} {j : Nat} {d : α} (h : atI ds (j : Int) = some d) : d ∈ ds := by
  unfold atI at h
  cases e : ixN ds.length (j : Int) with
  | none => rw [e] at h; cases h
  | some k =>
    rw [e] at h
    exact List.mem_of_getElem? h
theorem ix_mem {ds : List PyData} {j : Nat} {d : PyData} (h : ixD (.d (.list ds)) (j : Int) = some d) : d ∈ ds := atI_mem h
theorem ix_memT {ds : List PyData} {j : Nat} {d : PyData} (h : ixD (.d (.tuple ds)) (j : Int) = some d) : d ∈ ds := atI_mem h
theorem ix_sign {z : Str} {j : Nat} {d : PyData} (h : ixD (.d (.str z)) (j : Int) = some d) : ∃ c, d = .str ⟨#[c]⟩ ∧ c ∈ z.cps.toList := by
  have h : (if z.length ≤ sizeLine then (atI z.cps.toList (j : Int)).map fun c => PyData.str ⟨#[c]⟩ else none) = some d := h
  split at h
  · cases e : atI z.cps.toList (j : Int) with
    | none => rw [e] at h; cases h
    | some c =>
      rw [e] at h
      exact ⟨c, (Option.some.inj h).symm, atI_mem e⟩
  · cases h
/-- signs one behind the other -/
def sign (c : Nat) : PyData := .str ⟨#[c]⟩
theorem tl_signs : ∀ cs : List Nat, TL.tl (Txt.join ("" : String) (cs.map fun c => (⟨#[c]⟩ : Str))) = cs := by
  intro cs
  rw [TL.join_eq, TL.tl_join]
  have e0 : TL.tl ("" : String) = [] := by decide +kernel
  rw [e0]
  induction cs with
  | nil => rfl
  | cons c r ih =>
    cases r with
    | nil => rfl
    | cons d r =>
      show [c] ++ ([] ++ TL.joinL [] (List.map TL.tl (List.map (fun c => (⟨#[c]⟩ : Str)) (d :: r)))) = _
      rw [ih]
      rfl
theorem signs_name {cs : List Nat} (h : ∀ c ∈ cs, c ∈ lets.cps.toList) (h1 : 1 ≤ cs.length) (h8 : cs.length ≤ 8) : isName (Txt.join ("" : String) (cs.map fun c => (⟨#[c]⟩ : Str))) = true := by
  have e := tl_signs cs
  unfold isName
  have el : (Txt.join ("" : String) (cs.map fun c => (⟨#[c]⟩ : Str))).length = cs.length := by rw [TL.len_tl, e]
  rw [el, show (Txt.join ("" : String) (cs.map fun c => (⟨#[c]⟩ : Str))).cps.toList = cs from e]
  simp only [Bool.and_eq_true, decide_eq_true_eq, List.all_eq_true]
  exact ⟨⟨by omega, by omega⟩, h⟩
theorem strs_signs (cs : List Nat) : strsOf (cs.map sign) = some (cs.map fun c => (⟨#[c]⟩ : Str)) := by
  rw [← strsOf_map, List.map_map]
  rfl
theorem worth_cases {P : PyData → Prop} (hn : P .none) (h0 : P (.int 0)) (h1 : P (.int 1)) (h2 : P (.int 2)) (h3 : P (.int 3)) {x : PyData} (h : isWorth x = true) : P x := by
  cases x with
  | none => exact hn
  | int i =>
    have h : (decide (0 ≤ i) && decide (i ≤ 3)) = true := h
    simp only [Bool.and_eq_true, decide_eq_true_eq] at h
    have : i = 0 ∨ i = 1 ∨ i = 2 ∨ i = 3 := by omega
    rcases this with rfl | rfl | rfl | rfl <;> assumption
  | _ => cases h
theorem isItem_laid {x : PyData} (h : isItem x = true) : Laid 2 x := by
  rcases item_cases h with rfl | ⟨i, rfl, h0, h9⟩ | ⟨a, b, v, rfl, ha, hb, hv⟩
  · exact Laid.none.mono (by decide)
  · exact (Laid.int i).mono (by decide)
  · have nm : ∀ {x : PyData}, nameOrNone x = true → Laid 1 x := fun {x} hx => by
      rcases name_cases hx with rfl | ⟨s, rfl, hs⟩
      · exact Laid.none.mono (by decide)
      · exact (Laid.name hs).mono (by decide)
    refine Laid.tuple fun d hd => ?_
    simp only [List.mem_cons, List.not_mem_nil, or_false] at hd
    rcases hd with rfl | rfl | rfl
    · exact nm ha
    · exact nm hb
    · rcases values_cases hv with rfl | ⟨ds, rfl, hl, hd⟩
      · exact Laid.none.mono (by decide)
      · refine Laid.tuple fun d hz => ?_
        exact worth_cases (P := fun d => Laid 0 d) .none (.int _) (.int _) (.int _) (.int _) (hd d hz)
theorem int_shw {i : Int} (h0 : 0 ≤ i) (h9 : i ≤ 9) : Shw 0 4 (.int i) := by
  refine ⟨rfl, ?_, Nat.zero_le _, ?_⟩
  · refine decide_eq_true (Nat.lt_of_le_of_lt (Nat.log2_le_self _) ?_)
    omega
  · show (toString i : Str).length ≤ 4
    rw [showInt_len h0 h9]
    decide
theorem name_shw {s : Str} (h : isName s = true) : Shw 0 82 (.str s) := Shw.str (fun c hc => by
  have := isName_sign h c hc
  have e : (16 : Nat) ^ 8 = 4294967296 := by decide
  omega) (by
  have := (isName_len h).2
  omega)
theorem item_shw {x : PyData} (h : isItem x = true) : Shw 2 280 x := by
  rcases item_cases h with rfl | ⟨i, rfl, h0, h9⟩ | ⟨a, b, v, rfl, ha, hb, hv⟩
  · exact Shw.none.mono (by decide) (by decide)
  · exact (int_shw (by omega) h9).mono (by decide) (by decide)
  · have nm : ∀ {x : PyData}, nameOrNone x = true → Shw 1 82 x := fun {x} hx => by
      rcases name_cases hx with rfl | ⟨s, rfl, hs⟩
      · exact Shw.none.mono (by decide) (by decide)
      · exact (name_shw hs).mono (by decide) (by decide)
    have vs : Shw 1 82 v := by
      rcases values_cases hv with rfl | ⟨ds, rfl, hl, hd⟩
      · exact Shw.none.mono (by decide) (by decide)
      · refine (Shw.tup (n := 0) (k := 6 * ds.length) (Shws.of (n := 0) (k := 4) fun d hz => ?_)).mono (by decide) (by omega)
        exact worth_cases (P := fun d => Shw 0 4 d) .none (int_shw (by decide) (by decide)) (int_shw (by decide) (by decide)) (int_shw (by decide) (by decide)) (int_shw (by decide) (by decide)) (hd d hz)
    refine (Shw.tup (n := 1) (k := (82 + 2) * [a, b, v].length) (Shws.of (n := 1) (k := 82) fun d hd => ?_)).mono (by decide) (by show 84 * 3 + 3 ≤ 280; decide)
    simp only [List.mem_cons, List.not_mem_nil, or_false] at hd
    rcases hd with rfl | rfl | rfl
    · exact nm ha
    · exact nm hb
    · exact vs
theorem name_sign {x : PyData} {n : Str} (h : nameOrNone x = true) (hn : ∀ c ∈ TL.tl n, c < 128) : ∀ c ∈ TL.tl (showN x n), c < 128 := by
  rcases name_cases h with rfl | ⟨s, rfl, hs⟩
  · exact hn
  · intro c hc
    have := isName_sign hs c hc
    omega
theorem values_sign {x : PyData} (h : noneOrValues x = true) : ∀ c ∈ TL.tl (showValues x), c < 128 := by
  rcases values_cases h with rfl | ⟨ds, rfl, hl, hd⟩
  · decide +kernel
  · cases ds with
    | nil => decide +kernel
    | cons a r =>
      intro c hc
      rcases join_mem hc with h1 | ⟨p, hp, h1⟩
      · have : TL.tl ("," : String) = [44] := by decide +kernel
        rw [this] at h1
        rw [List.mem_singleton.mp h1]
        decide
      · obtain ⟨z, hz, rfl⟩ := List.mem_map.mp hp
        rcases (value_back (isWorth_okV (hd z hz))).2 c h1 with e | ⟨e1, e2⟩ <;> omega
theorem item_sign {x : PyData} (h : isItem x = true) : ∀ c ∈ TL.tl (showItem x), c < 128 := by
  have gap : ∀ y : PyData, okV y = true → ∀ c ∈ TL.tl (("gap " : Str) ++ showValue y), c < 128 := fun y hy c hc => by
    rw [TL.tl_append] at hc
    rcases List.mem_append.mp hc with h1 | h1
    · have : ∀ c ∈ TL.tl ("gap " : Str), c < 128 := by decide +kernel
      exact this c h1
    · rcases (value_back hy).2 c h1 with e | ⟨e1, e2⟩ <;> omega
  rcases item_cases h with rfl | ⟨i, rfl, h0, h9⟩ | ⟨a, b, v, rfl, ha, hb, hv⟩
  · exact gap .none rfl
  · refine gap (.int i) ?_
    show (decide (0 ≤ i) && decide (i ≤ 9)) = true
    simp only [Bool.and_eq_true, decide_eq_true_eq]
    omega
  · intro c hc
    rcases join_mem hc with h1 | ⟨p, hp, h1⟩
    · have : TL.tl (" " : String) = [32] := by decide +kernel
      rw [this] at h1
      rw [List.mem_singleton.mp h1]
      decide
    · simp only [List.mem_cons, List.not_mem_nil, or_false] at hp
      rcases hp with rfl | rfl | rfl
      · exact name_sign ha (by decide +kernel) c h1
      · exact name_sign hb (by decide +kernel) c h1
      · exact values_sign hv c h1
theorem items_sign {ds : List PyData} (h : ds.all isItem = true) : ∀ c ∈ TL.tl (showItems ds), c < 128 := by
  cases ds with
  | nil => decide +kernel
  | cons a r =>
    intro c hc
    rcases join_mem hc with h1 | ⟨p, hp, h1⟩
    · have : TL.tl (" / " : String) = [32, 47, 32] := by decide +kernel
      rw [this] at h1
      simp only [List.mem_cons, List.not_mem_nil, or_false] at h1
      omega
    · obtain ⟨z, hz, rfl⟩ := List.mem_map.mp hp
      exact item_sign (List.all_eq_true.mp h z hz) c h1
theorem text_ok {t : Str} (h : ∀ c ∈ TL.tl t, c < 128) (hl : t.length ≤ L6) : reprOk (.str t) := by
  refine (Shw.str (k := 10 * L6 + 2) (fun c hc => ?_) (by omega)).ok (by decide) (by decide)
  have := h c hc
  have e : (16 : Nat) ^ 8 = 4294967296 := by decide
  omega
theorem items_ok {ds : List PyData} (h : ds.all isItem = true) (hl : ds.length ≤ 1000) : reprOk (.tuple ds) := by
  refine (Shw.tup (n := 2) (k := 282 * ds.length) (Shws.of (n := 2) (k := 280) fun d hd => item_shw (List.all_eq_true.mp h d hd))).ok (by decide) ?_
  have : sizeLine = 16777216 := sizeLine_eq
  omega
theorem eqv_self_str (a : Str) : PyData.eqv (.str a) (.str a) = true := beq_self_eq_true a
end L2.DD

set_option maxRecDepth 100000
set_option maxHeartbeats 4000000
namespace L2.DD
open PySem PySem.Spec PyProof.Rows

/-! ### what is done with data is monotone -/
def Mono {S α : Type} (w : Wp S α) : Prop := ∀ (R R' : α → S → Prop) (s : S), (∀ a s, R a s → R' a s) → w R s → w R' s
section
variable {S α β : Type}
theorem mo_ret {a : α} : Mono (ret a : Wp S α) := fun _ _ _ h m => h _ _ m
theorem mo_get {o : Option α} : Mono (get o : Wp S α) := fun _ _ _ h ⟨a, e, m⟩ => ⟨a, e, h _ _ m⟩
theorem mo_ask {p : Prop} : Mono (ask p : Wp S Unit) := fun _ _ _ h ⟨a, m⟩ => ⟨a, h _ _ m⟩
theorem mo_bnd {w : Wp S α} {k : α → Wp S β} (hw : Mono w) (hk : ∀ a, Mono (k a)) : Mono (bnd w k) := fun R R' s h m => hw _ _ s (fun a s m => hk a R R' s h m) m
theorem mo_ite {c : Prop} [Decidable c] {w u : Wp S α} (hw : Mono w) (hu : Mono u) : Mono (if c then w else u) := by
  split
  · exact hw
  · exact hu
theorem mo_callW {n : Nat} {m : List Dv → Option Dv} {xs : List Dv} : Mono (callW n m xs : Wp S Dv) := mo_bnd mo_ask fun _ => mo_get
theorem mo_intW {C : Int → Int → Prop} {g : Int → Int → PyData} {x y : Dv} : Mono (intW C g x y : Wp S Dv) := mo_bnd mo_get fun _ => mo_bnd mo_get fun _ => mo_bnd mo_ask fun _ => mo_ret
theorem mo_plusW {x y : Dv} : Mono (plusW x y : Wp S Dv) := by
  unfold plusW
  split
  · exact mo_ret
  · exact mo_bnd mo_ask fun _ => mo_ret
  · exact mo_bnd mo_ask fun _ => mo_ret
  · exact mo_bnd mo_ask fun _ => mo_ret
  · exact mo_get
theorem mo_eqW {x y : Dv} : Mono (eqW x y : Wp S Dv) := by
  unfold eqW
  split
  · exact mo_bnd mo_ask fun _ => mo_ret
  · exact mo_get
theorem mo_neW {x y : Dv} : Mono (neW x y : Wp S Dv) := by
  unfold neW
  split
  · exact mo_bnd mo_ask fun _ => mo_ret
  · exact mo_get
theorem mo_isW {k : Bool} {x y : Dv} : Mono (isW k x y : Wp S Dv) := mo_bnd mo_ask fun _ => mo_ret
theorem mo_inW {k : Bool} {x y : Dv} : Mono (inW k x y : Wp S Dv) := by
  unfold inW
  split
  · exact mo_bnd mo_ask fun _ => mo_ret
  · exact mo_bnd mo_ask fun _ => mo_ret
  · exact fun _ _ _ h ⟨c, e, m⟩ => ⟨c, e, h _ _ m⟩
  · exact mo_get
theorem mo_ixW {x y : Dv} : Mono (ixW x y : Wp S Dv) := mo_bnd mo_get fun _ => mo_bnd mo_get fun _ => mo_ret
theorem mo_isiW {xs : List Dv} : Mono (isiW xs : Wp S Dv) := by
  unfold isiW
  split
  · exact mo_bnd mo_get fun _ => mo_ret
  · exact mo_get
theorem mo_lenW {xs : List Dv} : Mono (lenW xs : Wp S Dv) := by
  unfold lenW
  split
  · exact mo_bnd mo_get fun _ => mo_ret
  · exact mo_get
theorem mo_strW {xs : List Dv} : Mono (strW xs : Wp S Dv) := by
  unfold strW
  split
  · exact mo_bnd mo_get fun _ => mo_ret
  · exact mo_get
theorem mo_intCW {xs : List Dv} : Mono (intCW xs : Wp S Dv) := by
  unfold intCW
  split
  · exact mo_bnd mo_get fun _ => mo_ret
  · exact mo_get
theorem mo_allW {xs : List Dv} : Mono (allW xs : Wp S Dv) := by
  unfold allW
  split
  · exact mo_bnd mo_get fun _ => mo_ret
  · exact mo_get
theorem mo_anyW {xs : List Dv} : Mono (anyW xs : Wp S Dv) := by
  unfold anyW
  split
  · exact mo_bnd mo_get fun _ => mo_ret
  · exact mo_get
theorem mo_tupW {xs : List Dv} : Mono (tupW xs : Wp S Dv) := by
  unfold tupW
  split
  · exact mo_ret
  · exact mo_ret
  · exact mo_get
theorem mo_reprW {xs : List Dv} : Mono (reprW xs : Wp S Dv) := by
  unfold reprW
  split
  · exact mo_bnd mo_ask fun _ => mo_ret
  · exact mo_get
theorem mo_splitW {a : Str} {y : Dv} : Mono (splitW a y : Wp S (List PyData)) := mo_bnd mo_get fun _ => mo_bnd mo_ask fun _ => mo_ret
theorem mo_joinW {a : Str} {y : Dv} : Mono (joinW a y : Wp S Dv) := mo_bnd mo_get fun _ => mo_bnd mo_get fun _ => mo_bnd mo_ask fun _ => mo_ret
theorem mo_fmtW {x : Dv} : Mono (fmtW x : Wp S Dv) := mo_bnd mo_get fun _ => mo_ret
theorem mo_headW {ds : List PyData} {f : PyData → List PyData → Wp S En} (h : ∀ d ds, Mono (f d ds)) : Mono (headW ds f) := by
  unfold headW
  split
  · exact h _ _
  · exact mo_get
theorem mo_range1W {xs : List Dv} : Mono (range1W xs : Wp S (List Dv)) := by
  unfold range1W
  split
  · exact mo_bnd mo_get fun _ => mo_bnd mo_ask fun _ => mo_ret
  · exact mo_get
theorem mo_range2W {xs : List Dv} : Mono (range2W xs : Wp S (List Dv)) := by
  unfold range2W
  split
  · exact mo_bnd mo_get fun _ => mo_bnd mo_get fun _ => mo_bnd mo_ask fun _ => mo_ret
  · exact mo_get
theorem mo_lcW {g : Dv → En → Wp S En} {t : En → Wp S Bool} {e : En → Wp S Dv} {env0 : En} (hg : ∀ x env, Mono (g x env)) (ht : ∀ env, Mono (t env)) (he : ∀ env, Mono (e env)) : ∀ (xs : List Dv) (acc : List PyData), Mono (lcW g t e env0 xs acc)
  | [], acc => mo_ret
  | x :: xs, acc => mo_bnd (hg _ _) fun _ => mo_bnd (ht _) fun _ => mo_ite (mo_bnd (he _) fun _ => mo_bnd mo_get fun _ => mo_bnd mo_ask fun _ => mo_lcW hg ht he xs _) (mo_lcW hg ht he xs _)
theorem mo_seqW {fl : Fl} {u : En → Wp S Fl} (h : ∀ env, Mono (u env)) : Mono (seqW fl u) := by
  unfold seqW
  split
  · exact h _
  · exact mo_ret
  · exact mo_ret
  · exact mo_ret
theorem mo_parW {env : En} {i j : Nat} {xs : List Dv} : Mono (parW env i j xs : Wp S Fl) := by
  unfold parW
  split
  · exact mo_ret
  · exact mo_get
theorem mo_forW {g : Dv → En → Wp S En} {b : En → Wp S Fl} (hg : ∀ x env, Mono (g x env)) (hb : ∀ env, Mono (b env)) : ∀ (xs : List Dv) (env : En), Mono (forW g b xs env)
  | [], _ => mo_ret
  | x :: xs, env => mo_bnd (hg _ _) fun _ => mo_bnd (hb _) fun fl => by
    cases fl with
    | nx e => exact mo_forW hg hb xs e
    | ct e => exact mo_forW hg hb xs e
    | bk e => exact mo_ret
    | rt d => exact mo_ret
theorem mo_joinedW {env : En} : ∀ (ws : List (En → Wp S Dv)) (acc : Str), (∀ w ∈ ws, ∀ env, Mono (w env)) → Mono (joinedW env ws acc)
  | [], _, _ => mo_ret
  | w :: ws, acc, h => mo_bnd (h w List.mem_cons_self env) fun _ => mo_bnd mo_get fun _ => mo_bnd mo_ask fun _ => mo_joinedW ws _ fun w hw => h w (List.mem_cons_of_mem _ hw)
end
theorem mo_callDW {p : Addr} {n : Nat} {m : List Dv → Wp Nat Dv} {xs : List Dv} (h : ∀ ds, Mono (m ds)) : Mono (callDW p n m xs) := mo_bnd mo_ask fun _ => mo_bnd mo_get fun _ => h _
theorem mo_take (ds : List Dv) : Mono (m__law_take ds) := fun R R' s h ⟨u, a, b, c, d, e⟩ => ⟨u, a, b, c, d, fun x h1 h2 => h _ _ (e x h1 h2)⟩
theorem mo_of (ds : List Dv) : Mono (m__law_of ds) := fun R R' s h m => of_mono h m
theorem mo_name (ds : List Dv) : Mono (m__law_name ds) := fun R R' s h ⟨a, b, c⟩ => ⟨a, b, fun x s' h1 h2 => h _ _ (c x s' h1 h2)⟩
end L2.DD

set_option maxRecDepth 100000
set_option maxHeartbeats 4000000
/-! zip of a tuple and a list -/
namespace L2.DD.ZT
open PySem PySem.Spec PyProof.Rows
def oL (a : Addr) : Obj := { cls := .type "list_iterator", data := .fields #[.ref a, .int 0 0] }
def oT (a : Addr) : Obj := { cls := .type "tuple_iterator", data := .fields #[.ref a, .int 0 0] }
def oI (n m : Nat) : Obj := { cls := .type "tuple", data := .seq #[.ref n, .ref m] }
def oO : Obj := { cls := .type "tuple", data := .seq #[.none, .none] }
def oZ (n m : Nat) : Obj := { cls := .type "zip", data := .fields #[.none, .bool false, .bool false, .ref n, .ref m] }
def z1 (h : Heap) (a : Addr) : Heap := h.push (oT a)
def z2 (h : Heap) (a b : Addr) : Heap := (z1 h a).push (oL b)
def z3 (h : Heap) (a b : Addr) : Heap := (z2 h a b).push (oI h.objs.size (z1 h a).objs.size)
def z4 (h : Heap) (a b : Addr) : Heap := (z3 h a b).push oO
def zLT (h : Heap) (a b : Addr) : Heap := (z4 h a b).push (oZ (z2 h a b).objs.size (z3 h a b).objs.size)
theorem e1 (h : Heap) (a : Addr) : (z1 h a).objs.size = h.objs.size + 1 := Heap.size_push ..
theorem e2 (h : Heap) (a b : Addr) : (z2 h a b).objs.size = h.objs.size + 2 := (Heap.size_push ..).trans (by rw [e1])
theorem e3 (h : Heap) (a b : Addr) : (z3 h a b).objs.size = h.objs.size + 3 := (Heap.size_push ..).trans (by rw [e2])
theorem e4 (h : Heap) (a b : Addr) : (z4 h a b).objs.size = h.objs.size + 4 := (Heap.size_push ..).trans (by rw [e3])
theorem isList_push {h : Heap} {a : Addr} {xs : Array Value} (p : h.IsList a xs) (o : Obj) : (h.push o).IsList a xs := by
  obtain ⟨ob, e, r⟩ := p
  exact ⟨ob, Heap.get?_push_of_some _ e, r⟩
theorem zLT_meets (a b : Addr) (xs ys : Array Value) : Meets (Builtin.«zip.__new__» ⟨[.type "zip", .ref a, .ref b], []⟩) fun _ R s => s.heap.IsTuple a xs ∧ s.heap.IsList b ys ∧ R (.ok (.ret (.ref (z4 s.heap a b).objs.size))) { s with heap := zLT s.heap a b } :=
  .of_wp fun prog w A R s hh => by
    obtain ⟨hp, g, d, tk, os⟩ := s
    obtain ⟨p1, p2, hR⟩ := hh
    have _ := sub_zip
    have q1 : Heap.IsTuple (Shared.heap ⟨hp, g, d, tk, os⟩) a xs := p1
    have q2 : Heap.IsList (Shared.heap ⟨hp.push { cls := .type "tuple_iterator", data := .fields #[.ref a, .int 0 0] }, g, d, tk, os⟩) b ys := isList_push p2 _
    wp_walk using wpAny_pyIter_tuple q1, wpAny_pyIter_list q2
    exact ⟨_, rfl, hR⟩
theorem call_zLT {prog : Program} {w : World} {A : Around} {E : Value → Shared → Prop} {s : Shared} {a b : Addr} {xs ys : Array Value} {Q : Value → Shared → Prop} (p1 : s.heap.IsTuple a xs) (p2 : s.heap.IsList b ys)
    (h : ∀ h', (∀ c o, s.heap.get? c = some o → h'.get? c = some o) → IsZip h' (s.heap.objs.size + 4) (s.heap.objs.size + 2) (s.heap.objs.size + 3) .none → h'.get? (s.heap.objs.size + 2) = some (oI s.heap.objs.size (s.heap.objs.size + 1)) → h'.get? (s.heap.objs.size + 3) = some oO →
      h'.IsTupleIter s.heap.objs.size a 0 → h'.IsListIter (s.heap.objs.size + 1) b 0 → Q (.ref (s.heap.objs.size + 4)) { s with heap := h' }) : wpAny (model prog w) A (call (.type "zip") [.ref a, .ref b]) Q E s := by
  refine callType_new F.called_zip (by decide) (F.typeCall_zip_2 _ _) (F.newCall_zip_2 _ _) (fun obj => F.args_object_init_3 obj _ _) F.entry_zip_new (zLT_meets a b xs ys) ⟨p1, p2, ?_⟩
  have k5 : ∀ c o, (z4 s.heap a b).get? c = some o → (zLT s.heap a b).get? c = some o := fun c o => Heap.get?_push_of_some _
  have k4 : ∀ c o, (z3 s.heap a b).get? c = some o → (z4 s.heap a b).get? c = some o := fun c o => Heap.get?_push_of_some _
  have k3 : ∀ c o, (z2 s.heap a b).get? c = some o → (z3 s.heap a b).get? c = some o := fun c o => Heap.get?_push_of_some _
  have k2 : ∀ c o, (z1 s.heap a).get? c = some o → (z2 s.heap a b).get? c = some o := fun c o => Heap.get?_push_of_some _
  have k1 : ∀ c o, s.heap.get? c = some o → (z1 s.heap a).get? c = some o := fun c o => Heap.get?_push_of_some _
  have n1 : (z1 s.heap a).get? s.heap.objs.size = some (oT a) := Heap.get?_push_size _ rfl
  have n2 : (z2 s.heap a b).get? (z1 s.heap a).objs.size = some (oL b) := Heap.get?_push_size _ rfl
  have n3 : (z3 s.heap a b).get? (z2 s.heap a b).objs.size = some (oI s.heap.objs.size (z1 s.heap a).objs.size) := Heap.get?_push_size _ rfl
  have n4 : (z4 s.heap a b).get? (z3 s.heap a b).objs.size = some oO := Heap.get?_push_size _ rfl
  have n5 : (zLT s.heap a b).get? (z4 s.heap a b).objs.size = some (oZ (z2 s.heap a b).objs.size (z3 s.heap a b).objs.size) := Heap.get?_push_size _ rfl
  rw [e1] at n2 n3
  rw [e2] at n3 n5
  rw [e3] at n4 n5
  rw [e4] at n5 ⊢
  exact ⟨⟨_, n5, rfl⟩, h _ (fun c o q => k5 c o (k4 c o (k3 c o (k2 c o (k1 c o q))))) n5 (k5 _ _ (k4 _ _ n3)) (k5 _ _ n4) ⟨_, k5 _ _ (k4 _ _ (k3 _ _ (k2 _ _ n1))), rfl, rfl⟩ ⟨_, k5 _ _ (k4 _ _ (k3 _ _ n2)), rfl, rfl⟩⟩

/-- zip of the list at a and the tuple at b, as a walk -/
def ItLT (K : PySem.W.Frag) (a b : Addr) : It where
  go i H := ∃ (xs ys : List V) (x y : V), SqT K H a xs ∧ SqL K H b ys ∧ xs[i]? = some x ∧ ys[i]? = some y
  yld i H v H' := ∃ T x y, v = .ref T ∧ H T = none ∧ H' = upd H T (.tup [x, y]) ∧ (∀ xs, SqT K H a xs → xs[i]? = some x) ∧ ∀ ys, SqL K H b ys → ys[i]? = some y
  stop i H := ∃ xs ys : List V, SqT K H a xs ∧ SqL K H b ys ∧ i = min xs.length ys.length
/-- where the iterator's own five stand -/
def fiveOf (n : Nat) : List Addr := [n + 4, n + 2, n + 3, n, n + 1]
theorem five_cases {n c : Nat} (h : c ∈ fiveOf n) : c = n + 4 ∨ c = n + 2 ∨ c = n + 3 ∨ c = n ∨ c = n + 1 := by simpa [fiveOf] using h
theorem ne_lt {x y : Nat} (h : x < y) : x ≠ y := Nat.ne_of_lt h
theorem ne_gt {x y : Nat} (h : y < x) : x ≠ y := Nat.ne_of_gt h
theorem no2 {x y z : Addr} (h1 : x ≠ y) (h2 : x ≠ z) : x ∉ [y, z] := fun h => by
  rcases List.mem_cons.mp h with h | h
  · exact h1 h
  · exact h2 (List.mem_singleton.mp h)
theorem sepLT {n a b : Nat} (la : a < n) (lb : b < n) : ZipSep2 (n + 4) (n + 2) (n + 3) n (n + 1) [n, a] [n + 1, b] where
  TIz := ne_lt (by omega)
  TOz := ne_lt (by omega)
  TITO := ne_lt (by omega)
  TIi1 := ne_gt (by omega)
  mem1 := List.mem_cons_self
  zf1 := no2 (ne_gt (by omega)) (ne_gt (by omega))
  Tf1 := no2 (ne_gt (by omega)) (ne_gt (by omega))
  TIi2 := ne_gt (by omega)
  mem2 := List.mem_cons_self
  zf2 := no2 (ne_gt (by omega)) (ne_gt (by omega))
  Tf2 := no2 (ne_gt (by omega)) (ne_gt (by omega))
  sep1_2 := no2 (ne_lt (by omega)) (ne_gt (by omega))
  sep2_1 := no2 (ne_gt (by omega)) (ne_gt (by omega))
def stLT (n a b i : Nat) (h : Heap) : Prop := IsZip h (n + 4) (n + 2) (n + 3) .none ∧ IsTupOf2 h (n + 2) (.ref n) (.ref (n + 1)) ∧ (∃ x y, IsTupOf2 h (n + 3) x y) ∧ h.IsTupleIter n a i ∧ h.IsListIter (n + 1) b i
theorem turnLT {P : Program} {w : World} {K : PySem.W.Frag} {elts : List Expr} {kk : Nat} {tpos : Pos} {n a b : Nat} (la : a < n) (lb : b < n) : Turn P w K (.Tuple elts kk tpos) (ItLT K a b) (fiveOf n) (n + 4) (stLT n a b) where
  mem := by simp [fiveOf]
  obj i h st c hc := by
    obtain ⟨hz, hTI, ⟨x, y, hTO⟩, ⟨oa, ga, _, da⟩, ⟨ob, gb, _, db⟩⟩ := st
    rcases five_cases hc with rfl | rfl | rfl | rfl | rfl
    · exact ⟨_, hz, fun _ => nofun⟩
    · exact ⟨_, hTI, fun _ => nofun⟩
    · exact ⟨_, hTO, fun _ => nofun⟩
    · exact ⟨oa, ga, fun v e => by rw [da] at e; cases e⟩
    · exact ⟨ob, gb, fun v e => by rw [db] at e; cases e⟩
  keep i h h' st k := by
    obtain ⟨hz, hTI, ⟨x, y, hTO⟩, ha, hb⟩ := st
    have m : ∀ c, (c = n + 4 ∨ c = n + 2 ∨ c = n + 3 ∨ c = n ∨ c = n + 1) → c ∈ fiveOf n := fun c h => by simpa [fiveOf] using h
    exact ⟨k _ (m _ (by omega)) _ hz, k _ (m _ (by omega)) _ hTI, ⟨x, y, k _ (m _ (by omega)) _ hTO⟩, ha.at fun o => k _ (m _ (by omega)) o, hb.at fun o => k _ (m _ (by omega)) o⟩
  item := by
    intro X hP hw hK hc i pins s σ H E I hf st hgo
    subst hP hw hK
    obtain ⟨hz, hTI, ⟨x0, y0, hTO⟩, ha, hb⟩ := st
    obtain ⟨xs, ys, x, y, hxs, hys, hx, hy⟩ := hgo
    obtain ⟨us, ru, pu, _⟩ := I.tuple hxs
    obtain ⟨vs, rv, pv, _⟩ := I.list hys
    obtain ⟨u, gu, eu⟩ := ru.get hx
    obtain ⟨v, gv, ev⟩ := rv.get hy
    have S := sepLT la lb
    have il : i < us.toArray.size := by simpa using (List.getElem?_eq_some_iff.mp gu).1
    have iv : i < vs.toArray.size := by simpa using (List.getElem?_eq_some_iff.mp gv).1
    have hh : X.A.in1.handled = none := I.ok.hd hc
    have D1 := Draws.tuple (prog := X.prog) (w := X.w) (A := X.A.in1) hh n a (Nat.ne_of_lt la) us.toArray
    have D2 := Draws.list (prog := X.prog) (w := X.w) (A := X.A.in1) hh (n + 1) b (ne_lt (Nat.lt_succ_of_lt lb)) vs.toArray
    refine wpAny_pyNext_zipD2_item S D1 D2 hz hTI hTO ⟨ha, pu⟩ ⟨hb, pv.isList⟩ il iv fun x1 x2 h' tk q1 q2 z' o' s1 s2 g' _ hk => ?_
    obtain rfl : u = x1 := by simpa [gu] using q1
    obtain rfl : v = x2 := by simpa [gv] using q2
    refine ⟨_, rfl, wpAny_letOwnedTupleGo_zip (s := { s with heap := h', toks := tk }) z' fun h2 z2 sb => ?_⟩
    have big : n + 4 < s.heap.objs.size := Heap.lt_size hz
    have off : ∀ c, c < n + 5 → c ≠ s.heap.objs.size := fun c h => by omega
    have g2 : h2.get? s.heap.objs.size = some { cls := .type "tuple", data := .seq #[u, v] } := (sb.2 _ (by first | exact ne_lt (by omega) | exact ne_gt (by omega))).trans g'
    have new : ObjOk X.prog X.w (upd H s.heap.objs.size (.tup [x, y])) h2 s.heap.objs.size (.tup [x, y]) := ⟨by show 2 ≤ sizeLine; decide, [u, v], .cons eu (.cons ev .nil), _, g2, rfl, _, rfl⟩
    have J : Inv X pins σ (upd H s.heap.objs.size (.tup [x, y])) { s with heap := h2, toks := tk } :=
      I.turnedNew (ch := fiveOf n) (fun c o nc e => by
        have m : ∀ d, (d = n + 4 ∨ d = n + 2 ∨ d = n + 3 ∨ d = n ∨ d = n + 1) → c ≠ d := fun d h z => nc (by rw [z]; simpa [fiveOf] using h)
        exact (sb.2 c (m _ (by omega))).trans (hk c o (m _ (by omega)) (m _ (by omega)) (m _ (by omega)) (m _ (by omega)) e)) hf (Nat.le_refl _) new
    refine ⟨.ref s.heap.objs.size, _, J, rfl, ⟨_, x, y, rfl, I.hok.fresh (Nat.le_refl _), rfl, fun zs hz => by rw [I.tuple_inj hz hxs]; exact hx, fun zs hz => by rw [I.list_inj hz hys]; exact hy⟩, ⟨z2, ?_, ⟨u, v, ?_⟩, ?_, ?_⟩, fun c hcm => ?_⟩
    · exact (sb.2 _ (by first | exact ne_lt (by omega) | exact ne_gt (by omega))).trans (hk _ _ (by first | exact ne_lt (by omega) | exact ne_gt (by omega)) (by first | exact ne_lt (by omega) | exact ne_gt (by omega)) (by first | exact ne_lt (by omega) | exact ne_gt (by omega)) (by first | exact ne_lt (by omega) | exact ne_gt (by omega)) hTI)
    · exact (sb.2 _ (by first | exact ne_lt (by omega) | exact ne_gt (by omega))).trans o'
    · exact s1.1.at fun o e => (sb.2 _ (by first | exact ne_lt (by omega) | exact ne_gt (by omega))).trans e
    · exact s2.1.at fun o e => (sb.2 _ (by first | exact ne_lt (by omega) | exact ne_gt (by omega))).trans e
    · rw [upd_ne (off c (by rcases five_cases hcm with rfl | rfl | rfl | rfl | rfl <;> omega))]
      exact (hf c hcm).1
  done := by
    intro X hP hw hK hc i pins s σ H E I hf st hst
    subst hP hw hK
    obtain ⟨hz, hTI, ⟨x0, y0, hTO⟩, ha, hb⟩ := st
    obtain ⟨xs, ys, hxs, hys, hi⟩ := hst
    obtain ⟨us, ru, pu, _⟩ := I.tuple hxs
    obtain ⟨vs, rv, pv, _⟩ := I.list hys
    have lu : us.toArray.size = xs.length := by simpa using ru.length.symm
    have lv : vs.toArray.size = ys.length := by simpa using rv.length.symm
    have hh : X.A.in1.handled = none := I.ok.hd hc
    have D1 := Draws.tuple (prog := X.prog) (w := X.w) (A := X.A.in1) hh n a (Nat.ne_of_lt la) us.toArray
    have D2 := Draws.list (prog := X.prog) (w := X.w) (A := X.A.in1) hh (n + 1) b (ne_lt (Nat.lt_succ_of_lt lb)) vs.toArray
    refine wpAny_pyNext_zipD2_end (sepLT la lb) D1 D2 hz hTI hTO ⟨ha, pu⟩ ⟨hb, pv.isList⟩ (by omega) (by omega) (by omega) fun h' tk hk => ⟨rfl, ?_⟩
    exact I.turnedL (ch := fiveOf n) (fun c o nc e => by
      have m : ∀ d, (d = n + 4 ∨ d = n + 2 ∨ d = n + 3 ∨ d = n ∨ d = n + 1) → c ≠ d := fun d h z => nc (by rw [z]; simpa [fiveOf] using h)
      exact hk c o (m _ (by omega)) (m _ (by omega)) (m _ (by omega)) (m _ (by omega)) e) hf
  self A i s Q E st h := wpAny_pyIter_zip st.1 h
/-- for .. in zip(list, tuple) -/
def iZLT (K : PySem.W.Frag) (ta : TA) : TI := fun σ H R => ta σ H fun vs H1 => ∃ a b xs ys, vs = [.ref a, .ref b] ∧ SqT K H1 a xs ∧ SqL K H1 b ys ∧ R (ItLT K a b) H1
theorem pi_zLT {X : Cx} {e f : Expr} {ta : TA} {p pos tpos : Pos} {elts : List Expr} {kk : Nat} (hg : Gl X "zip") (hm : X.mg "zip" = none) (ha : PA X [e, f] ta)
    (hs : starEach [e, f] X.env = (false, eval e X.env) :: starEach [f] X.env := by rfl) (hpl : (backTo pos (starEach [f] X.env)).any (·.1) = false := by rfl) : PI X (.Tuple elts kk tpos) (.Call (.Name "zip" p) [e, f] [] pos) (iZLT X.K ta) := by
  constructor
  intro pins s σ H R I h
  refine Call_ (ld_blt I hg hm PyProof.Rows.boot_zip (PyProof.Rows.callWith_type1 (thn (ha.run pos pins s σ H _ I h) ?_) hs hpl))
  rintro us t ⟨vs, H1, J, r, a, b, xs, ys, rfl, hxs, hys, q⟩
  obtain ⟨ua, ub, rfl, rfl, rfl⟩ := vals2 r
  obtain ⟨as, _, pa, _⟩ := J.tuple hxs
  obtain ⟨bs, _, pb, _⟩ := J.list hys
  refine call_zLT pa pb.isList fun h' hk hz hTI hTO h1 h2 => wpAny_pyIter_zip hz ?_
  have la : a < t.heap.objs.size := by
    obtain ⟨o, ho, _⟩ := pa
    exact Heap.lt_size ho
  exact ⟨_, fiveOf t.heap.objs.size, _, _, H1, rfl, J.kept (t' := t.toks) hk, turnLT la pb.lt, ⟨hz, hTI, ⟨_, _, hTO⟩, h1, h2⟩, fun c hc => by
    have le : t.heap.objs.size ≤ c := by rcases five_cases hc with rfl | rfl | rfl | rfl | rfl <;> omega
    exact J.fpOk le (J.hok.fresh le), q⟩
theorem walk_zLT {K : PySem.W.Frag} {a b : Addr} {xs ys : List V} {n : Nat} (hn : n = min xs.length ys.length) : Walk (ItLT K a b) n (fun H => SqT K H a xs ∧ SqL K H b ys) (YPair (fun i => xs[i]?) (fun i => ys[i]?)) := by
  subst hn
  refine ⟨fun i _ hi q => ?_, fun _ q => ⟨xs, ys, q.1, q.2, rfl⟩, fun i H v H' _ q y => ?_⟩
  · exact ⟨xs, ys, xs[i]'(by omega), ys[i]'(by omega), q.1, q.2, by simp, by simp⟩
  · obtain ⟨T, x, z, c1, c2, c3, c4, c5⟩ := y
    exact ⟨T, x, z, c1, c2, c3, c4 xs q.1, c5 ys q.2⟩
end L2.DD.ZT

set_option maxRecDepth 100000
set_option maxHeartbeats 4000000
namespace L2.DD
open PySem PySem.Spec PyProof.Rows

/-- the law's call, by a promise of that kind -/
theorem lawG {P : Program} {w : World} {K : PySem.W.Frag} {mg mb : Str → Option Value} {k : Nat} {fa a : Addr} {fd : FuncData} {x : Str} {sp : Sp} {t1 : Shared} {vs : List Value} {ns : List Int}
    (KX : K.In t1.heap) (hns : t1.heap.Ns mainGlobals mg) (hb : t1.heap.Ns builtinsNs mb) (hbb : ∀ x : Str, x ≠ "__name__" → mb x = bootBuiltins x) (hlim : t1.heap.NoLimit) (hsm : ∃ mm, t1.heap.Ns sysModules mm) (hg : t1.gens = #[])
    (ha : t1.heap.get? a = some { cls := .type "list", data := .seq vs.toArray }) (hi : IntsAre vs ns) (hl : ns.length ≤ sizeLine) (hr : Room k callerA)
    (F : ∀ base : Heap, K.In base → base.Ns mainGlobals mg → (∃ o, base.get? sysModules = some o) → FnG P w K mg base CX0 k fa fd [x] sp) (hbind : ∀ (s : Shared) (u : Value), BindsTo s fd ⟨[u], []⟩ [(x, u)])
    (hsp : ∀ H : Hp, L2.Only H → SqL K H a (ns.map V.int) → sp [.ref a] H (fun v _ => v = .bl true) fun _ _ _ => False) :
    codeAny (model P w) callerA (.call (.ref fa) ⟨[.ref a], []⟩) (fun r s' => r = .ok (.ret (.bool true)) ∧ OldK t1.heap s'.heap ∧ s'.os = t1.os ∧ AllBare s'.gens) t1 := by
  have rv := vals_ints hi
  have hlen := hi.length
  have go : ∀ H : Hp, L2.Only H → SqL K H a (ns.map V.int) → HOk P w H t1.heap → (∀ b o, H b = some o → b = a) → (∀ o, H a = some o → K.lookup a = none) →
      codeAny (model P w) callerA (.call (.ref fa) ⟨[.ref a], []⟩) (fun r s' => r = .ok (.ret (.bool true)) ∧ OldK t1.heap s'.heap ∧ s'.os = t1.os ∧ AllBare s'.gens) t1 := by
    intro H hO hS hok hA hK
    have free : ∀ {b : Addr} {o : Obj} {es : Array DictEntry} {ep : Nat}, t1.heap.get? b = some o → o.data = .dict es ep → H b = none := by
      intro b o es ep e d
      rcases q : H b with _ | u
      · rfl
      · have z := hA b u q
        subst z
        rw [ha] at e
        obtain rfl := Option.some.inj e
        exact absurd d (by simp)
    have down : ∀ {b : Addr} {m : Str → Option Value}, t1.heap.Ns b m → (hidT t1.heap H).Ns b m := by
      rintro b m ⟨o, es, ep, e, d, r⟩
      exact ⟨o, es, ep, hidT_get e (free e d), d, r⟩
    have KB : K.In (hidT t1.heap H) := by
      intro b o e
      refine hidT_get (KX b o e) ?_
      rcases q : H b with _ | u
      · rfl
      · have z := hA b u q
        subst z
        rw [hK u q] at e
        cases e
    obtain ⟨mc, c1, c2⟩ := hlim
    obtain ⟨mm, hmm⟩ := hsm
    have hsm2 : ∃ o, (hidT t1.heap H).get? sysModules = some o := by
      obtain ⟨o, _, _, e, _⟩ := down hmm
      exact ⟨o, e⟩
    have M : Mod K mg (hidT t1.heap H) := ⟨KB, down hns, ⟨mb, down hb, hbb⟩, mc, down c1, c2⟩
    have e0 : Env0 P w K mg (hidT t1.heap H) callerA [] t1 H := ⟨rfl, M, fun _ _ e => of_hidT e, by rw [hidT_size]; exact Nat.le_refl _, trivial, (fun _ z => nomatch z), hok, .of_eq hg⟩
    refine codeAny_mono ((F _ KB (down hns) hsm2).run callerA [] t1 H ⟨[.ref a], []⟩ [.ref a] [.ref a] _ _ rfl hr e0 (hbind t1 (.ref a)) (.cons rfl .nil) (hsp H hO hS)) ?_
    intro r s' h
    match r, h with
    | .error _, h => exact False.elim h
    | .ok .next, h => exact False.elim h
    | .ok .brk, h => exact False.elim h
    | .ok .cont, h => exact False.elim h
    | .ok (.ret u), h =>
      obtain ⟨v, H', os, bare, un, hok', r', q⟩ := h
      have q' : v = .bl true := q
      subst q'
      obtain rfl : u = Value.bool true := r'
      refine ⟨rfl, OldK.of_keep ?_, os, bare⟩
      intro b o e
      rcases hO b with z | ⟨ob, xs, z⟩
      · exact un.keep b o e z (fun z => nomatch z) (fun z => nomatch z)
      · obtain ⟨e1, _⟩ := hok b _ z
        obtain ⟨e2, _⟩ := hok' b _ (un.frzs b ob _ z)
        rw [e] at e1
        obtain rfl := Option.some.inj e1
        exact e2
  rcases hk : K.lookup a with _ | o
  · refine go (fun b => if b = a then some (.frz { cls := .type "list", data := .seq vs.toArray } (.lst (ns.map V.int))) else none) ?_ (.inl (.inr ⟨_, if_pos rfl⟩)) ?_ ?_ (fun _ _ => hk)
    · intro b
      by_cases hb : b = a
      · exact .inr ⟨_, _, if_pos hb⟩
      · exact .inl (if_neg hb)
    · intro b u z
      by_cases hb : b = a
      · subst hb
        obtain rfl := Option.some.inj ((if_pos rfl).symm.trans z)
        exact ⟨ha, by rw [List.length_map]; exact hl, vs, _, rv, ha⟩
      · exact absurd ((if_neg hb).symm.trans z) (by simp)
    · intro b o z
      by_cases hb : b = a
      · exact hb
      · exact absurd ((if_neg hb).symm.trans z) (by simp)
  · have e := (KX a o hk)
    rw [ha] at e
    obtain rfl := Option.some.inj e
    exact go (fun _ => none) (fun _ => .inl rfl) (.inr ⟨_, vs.toArray, _, hk, rfl, rfl, rfl, by rw [List.size_toArray, hlen]; exact hl, by simpa using rv⟩) (fun _ _ z => nomatch z) (fun _ _ z => nomatch z) (fun _ z => nomatch z)

theorem walkG {l : PySem.W.OpenLaw} {n k : Nat} {q : Program} {loose : List Str} {XP : (Str → Option Value) → Heap → Prop} {YP : World → Heap → Prop} {d : DefRec} {K : Params → PySem.W.Frag} {sp : PySem.W.Frag → Sp} {x : Str}
    (hn : l.most = some n) (hn2 : n ≤ sizeLine) (hdf : d.params.defaults = []) (hr : Room k callerA) (hi : importsNone q = true)
    (hY : ∀ (w : World) (h : Heap), YP w h → (K w.params).In h)
    (F : ∀ (w : World) (mg : Str → Option Value) (fa : Addr) (h : Heap), (K w.params).In h → h.Ns mainGlobals mg → mg d.name = some (.ref fa) →
      ∃ fd : FuncData, (∀ (s : Shared) (u : Value), BindsTo s fd ⟨[u], []⟩ [(x, u)]) ∧
        ∀ base : Heap, (K w.params).In base → base.Ns mainGlobals mg → (∃ o, base.get? sysModules = some o) → FnG l.prog w (K w.params) mg base CX0 k fa fd [x] (sp (K w.params)))
    (hsp : ∀ (K : PySem.W.Frag) (H : Hp) (a : Addr) (ns : List Int), ns.length ≤ n → L2.Only H → SqL K H a (ns.map V.int) → sp K [.ref a] H (fun v _ => v = .bl true) fun _ _ _ => False) :
    PySem.W.WalkO q loose XP YP l.row.toRowW d [] (fun f vs => PySem.call f vs) := by
  refine Att.attach_call hn hdf ?_
  intro w s0 s1 mg mb fa o pm cd doc a vs ns G Y ho hd hcd hmg hobj hints hlen hg
  have KX := hY w _ Y
  obtain ⟨fd, hb, hF⟩ := F w mg fa _ KX G.T.g hmg
  obtain ⟨mm, hmm, _⟩ := (G.T.seer hi).mods
  exact lawG KX G.T.g G.T.b G.T.builtins G.T.nolimit ⟨mm, hmm⟩ hg hobj hints (Nat.le_trans hlen hn2) hr hF hb (fun H hO hS => hsp _ H a ns hlen hO hS)


/-! ### the facts of the top -/
theorem df_mk {K : PySem.W.Frag} {h : Heap} {mg : Str → Option Value} {x : Str} {st : Stmt} {ps : List Str} {f : Addr} {od an : Option Addr} {sl : Array (Option Value)} {oc kV dc pm cd ct : Value} (X : K.In h) (G : h.Ns mainGlobals mg)
    (a : PySem.W.nsIn K mainGlobals x = some (some (.ref f))) (l : K.lookup f = some ⟨oc, od, .func (PySem.W.fnOf x x (defArgs st) (defBody st) (defScope st) .none kV dc pm an cd ct), sl⟩)
    (c : PySem.W.codeIn K cd x = true) (k : PySem.W.keepIn K (.ref f) = true)
    (hb : ∀ (kV doc pm : Value) (an : Option Addr) (cdv ct : Value) (us : List Value), us.length = ps.length → bindArgs (PySem.W.fnOf x x (defArgs st) (defBody st) (defScope st) .none kV doc pm an cdv ct) ⟨us, []⟩ = pure (ps.zip us)) : Df K mg x st ps :=
  ⟨f, _, PySem.W.mg_of X G a, k, (fun_mk l c k).binds hb, fun_mk l c k⟩
def spLaw (K : PySem.W.Frag) : Sp := fun vs H Q _ => ∃ (a : Addr) (ns : List Int), vs = [.ref a] ∧ SqL K H a (ns.map V.int) ∧ ns.length ≤ 63 ∧ ∀ H', Q (.bl true) H'
/-- the law's def, told by its address -/
structure LawOk (P : Program) (w : World) (K : PySem.W.Frag) (mg : Str → Option Value) (base : Heap) (k : Nat) (fa : Addr) : Prop where
  ex : ∃ fd, mg "law" = some (.ref fa) ∧ Binds K fd ["script"] [] ∧ FnG P w K mg base CX0 k fa fd ["script"] (spLaw K)
theorem lim_of (z N : Int) (hN : 1 ≤ N) (h : 0 ≤ z) : ∃ t : Nat, (if (if z < N then z else N) > 1 then (if z < N then z else N) else 1) = (t : Int) ∧ (t : Int) ≤ N := by
  by_cases h1 : z < N
  · rw [if_pos h1]
    by_cases h2 : z > 1
    · rw [if_pos h2]
      exact ⟨z.toNat, by omega, by omega⟩
    · rw [if_neg h2]
      exact ⟨1, rfl, hN⟩
  · rw [if_neg h1]
    by_cases h2 : N > 1
    · rw [if_pos h2]
      exact ⟨N.toNat, by omega, by omega⟩
    · rw [if_neg h2]
      exact ⟨1, rfl, hN⟩
end L2.DD

set_option maxRecDepth 100000
set_option maxHeartbeats 4000000
/-! More of the data layer: promises that are relations, `*xs`, written dicts, zip, a list's parts, two clauses. -/
namespace L2.DD
open PySem PySem.Spec PyProof.Rows

/-! ### promises that are relations -/
def spR (K : PySem.W.Frag) (n : Nat) (m : List Dv → Wp Unit Dv) : Sp := fun vs H Q _ => ∃ G ds R, vs.length = n ∧ Same G H ∧ RVs K G vs ds ∧ m ds R () ∧
  ∀ d v G' H', R d () → Same H H' → Same G G' → Same G' H' → (∀ b, H b ≠ none → G b = none → G' b = none) → RV K G' v d → Q v H'
section
variable {P : Program} {w : World} {K : PySem.W.Frag} {mg : Str → Option Value} {base : Heap}
theorem fnR {x qual : Str} {st : Stmt} {f : Addr} {fd : FuncData} {N ps : List Str} {k : Nat} {m : List Dv → Wp Unit Dv} {wb : En → Wp Unit Fl} (F : Fun K x qual st f fd) (Sc : FnScope N ps (defScope st))
    (hb : ∀ (cdv : Value) (A : Around) (outer : List Env) (s : Shared) (H : Hp) (E : XK) (G0 : Hp), Room k (A.deeper (envOfC qual (defScope st) s.heap.objs.size f cdv)) →
      DSs (pureB K G0 H) (cxOf CX0 P w K mg base N qual (defScope st) f cdv A outer s H E).nox (defBody st) wb)
    (hm : ∀ ds R, ds.length = ps.length → m ds R () → wb (startE N ds) (GivesR R) ()) : FnOk P w K mg base CX0 (k + 1) f fd ps (spR K ps.length m) := by
  refine F.ok Sc (fun vs H Q E h => ?_) (fun cdv A outer s H vs Q E hr h => ?_)
  · obtain ⟨G, ds, d, hl, _⟩ := h
    exact hl
  · obtain ⟨G, ds, R, hl, sg, rv, hd, q⟩ := h
    have hl2 : ds.length = ps.length := by rw [← Paired.length rv]; exact hl
    refine ⟨_, (hb cdv A outer s H E G hr).pss, G, startE N ds, (), GivesR R, ?_, rep_start rv, hm ds R hl2 hd, ?_, ?_, ?_, ?_⟩
    · exact ⟨sg, fun _ z => z.elim, trivial, fun _ h => h, Same.refl G, fun _ _ _ e => e, fun _ _ g => g⟩
    · rintro env' s' σ' G' H' (⟨_, e, _⟩ | ⟨_, e⟩) c g r
      · cases e
      · exact q _ _ G' H' e (fun b o e => c.k0 b o (fun z => z) e) g c.sub c.f0 .non
    · rintro y s' v G' H' (⟨_, e, e2⟩ | ⟨⟨_, e⟩, _⟩) c g r
      · cases e
        exact q _ v G' H' e2 (fun b o e => c.k0 b o (fun z => z) e) g c.sub c.f0 r
      · cases e
    · rintro env' s' σ' G' H' (⟨_, e, _⟩ | ⟨⟨_, e⟩, _⟩) c g r <;> cases e
    · rintro env' s' σ' G' H' (⟨_, e, _⟩ | ⟨⟨_, e⟩, _⟩) c g r <;> cases e
theorem defR {x : Str} {st : Stmt} {N ps : List Str} {k : Nat} {m : List Dv → Wp Unit Dv} {wb : En → Wp Unit Fl} (D : Df K mg x st ps) (Sc : FnScope N ps (defScope st))
    (hb : ∀ (f : Addr) (cdv : Value) (A : Around) (outer : List Env) (s : Shared) (H : Hp) (E : XK) (G0 : Hp), Room k (A.deeper (envOfC x (defScope st) s.heap.objs.size f cdv)) →
      DSs (pureB K G0 H) (cxOf CX0 P w K mg base N x (defScope st) f cdv A outer s H E).nox (defBody st) wb)
    (hm : ∀ ds R, ds.length = ps.length → m ds R () → wb (startE N ds) (GivesR R) ()) : DefOk P w K mg base (k + 1) x ps (spR K ps.length m) := by
  obtain ⟨f, fd, a, b, c, F⟩ := D.ex
  exact ⟨f, fd, a, b, c, fnR F Sc (hb f) hm⟩
/-- nothing is promised -/
theorem defNo {x : Str} {st : Stmt} {ps : List Str} {k : Nat} {sp : Sp} (D : Df K mg x st ps) (h : ∀ vs H Q E, ¬ sp vs H Q E) : DefOk P w K mg base k x ps sp := by
  obtain ⟨f, fd, a, b, c, F⟩ := D.ex
  exact ⟨f, fd, a, b, c, ⟨fun vs H Q E z => (h _ _ _ _ z).elim, fun A outer s H args us vs Q E hr he hb hv z => (h _ _ _ _ z).elim⟩⟩
end
section
variable {S : Type} {B : Bx S} {X : Cx} {k n : Nat} {ps : List Str} {x : Str} {p pos : Pos} {e : Expr} {es : List Expr}
def callRW (n : Nat) (m : List Dv → Wp Unit Dv) (xs : List Dv) : Wp S Dv := bnd (ask (xs.length = n)) fun _ => fun Q s => m xs (fun d _ => Q d s) ()
theorem dcR {m : List Dv → Wp Unit Dv} {w : En → Wp S (List Dv)} (F : DefOk X.prog X.w X.K X.mg X.base k x ps (spR X.K n m)) (hr : Room k X.A) (hg : Gl X x)
    (ha : DA B X (e :: es) w) (hdb : (x == ("__debug__" : Str)) = false := by decide) (he : starEach (e :: es) X.env = (false, eval e X.env) :: starEach es X.env := by rfl) (hpl : (backTo pos (starEach es X.env)).any (·.1) = false := by rfl) :
    DE B X (.Call (.Name x p) (e :: es) [] pos) (fun env => bnd (w env) fun xs => callRW n m xs) := by
  obtain ⟨f, fd, hm, hk, hb, F⟩ := F.ex
  refine ⟨ha.k, pe_mono (pe_call F hr hg hm hk hb .nil pass0 ha.pa hdb he hpl) ?_⟩
  have hK := ha.k
  rintro σ H Q ⟨G, env, s, R, c, r, hw, q⟩
  refine tDa_of c r hw fun xs s1 vs G1 H1 h1 c1 e1 r1 rv => ?_
  obtain ⟨hl, h1⟩ := h1
  rw [hK]
  refine ⟨G1, xs, _, by rw [List.append_nil, Paired.length rv]; exact hl, c1.sub, by rw [List.append_nil]; exact rv, h1, fun d v G2 H2 h1 hh gg gh fr rv2 => ?_⟩
  have ex : Ex B G1 H1 G2 H2 := ⟨gg, fun b o _ e => hh _ _ e, fr, fun b h => by
    rcases z : H1 b with _ | u
    · exact absurd z h
    · rw [hh _ _ z]
      simp⟩
  refine q d s1 v G2 H2 h1 ⟨gh, fun b hb => ⟨fr b (c1.off b hb).2 (c1.off b hb).1, ex.alive b (c1.off b hb).2⟩, B.stable _ _ _ c1.st fun b hb => ?_, fun b hb => ex.alive b (c1.h0 b hb), c1.g0.trans gg, fun b o hb e => hh _ _ (c1.k0 b o hb e), fun b hb g => fr b (c1.h0 b hb) (c1.f0 b hb g)⟩ (e1.trans ex) rv2
  rcases z : H1 b with _ | u
  · exact absurd z (c1.off b hb).2
  · exact hh _ _ z
theorem mo_callRW {n : Nat} {m : List Dv → Wp Unit Dv} {xs : List Dv} (h : ∀ ds, Mono (m ds)) : Mono (callRW n m xs : Wp S Dv) := fun R R' s hr ⟨a, q⟩ => ⟨a, h xs _ _ () (fun d _ z => hr d s z) q⟩

/-! ### `*xs` -/
theorem rvs_star {K : PySem.W.Frag} {G : Hp} : ∀ {vs us : List V} {ds : List PyData} {ys : List Dv}, DRs K G vs ds → RVs K G us ys → RVs K G (vs ++ us) (ds.map Dv.d ++ ys)
  | _, _, _, _, .nil, r => r
  | _, _, _, _, .cons a b, r => .cons a (rvs_star b r)
theorem da_star {w : En → Wp S Dv} {u : En → Wp S (List Dv)} (ha : DE B X e w) (hr : DA B X es u) (hs : starEach (.Starred e p :: es) X.env = (true, eval e X.env) :: starEach es X.env := by rfl) :
    DA B X (.Starred e p :: es) (fun env => bnd (w env) fun x => bnd (get (seqOf x)) fun ds => bnd (u env) fun ys => ret (ds.map Dv.d ++ ys)) := by
  refine ⟨ha.k, pa_mono (StX.pa_star ha.pe hr.pa hs) ?_⟩
  have hk := ha.k
  rintro σ H Q ⟨G, env, s, R, c, r, h, q⟩
  refine tD_of c r h fun x s1 v G1 H1 h1 c1 e1 r1 rv => ?_
  obtain ⟨ds, ed, h1⟩ := h1
  obtain ⟨a, vs, rfl, hq, rd⟩ := seqOf_rv ed rv c1.sub
  refine ⟨a, vs, rfl, by rw [hk]; exact hq.symm, ?_⟩
  refine tDa_of c1 r1 h1 fun ys s2 us G2 H2 h2 c2 e2 r2 ru => ?_
  refine q _ s2 _ G2 H2 h2 c2 (e1.trans e2) ?_
  exact rvs_star (DRs.same e2.gg _ _ rd) ru

/-! ### written dicts by texts -/
/-- at p of K a dict from texts: tab, as far as it is told -/
structure KTd (K : PySem.W.Frag) (w : World) (p : Addr) (tab : Str → Option (Option PyData)) : Prop where
  ex : ∃ es n, K.lookup p = some ⟨.type "dict", none, .dict es n, #[]⟩ ∧ PySem.W.KeysLit w.params es.toList
  lo : (p == sysModules) = false
  has : ∀ z d, tab z = some (some d) → ∃ u v, PySem.W.nsIn K p z = some (some u) ∧ RelV v u ∧ ∀ G, DR K G v d
  non : ∀ z, tab z = some none → PySem.W.nsIn K p z = some none
def inTW (p : Addr) (tab : Str → Option (Option PyData)) (x y : Dv) : Wp S Dv := bnd (get (strOf x)) fun z => bnd (ask (y = .o (.ref p))) fun _ => bnd (get (tab z)) fun o => ret (.d (.bool o.isSome))
def rInTd (p : Addr) (tab : Str → Option (Option PyData)) : R2 := fun x y H Q => ∃ (z : Str) (o : Option PyData), x = .str z ∧ y = .ref p ∧ tab z = some o ∧ Q (.bl o.isSome) H
theorem od_inT {p : Addr} {tab : Str → Option (Option PyData)} (h : KTd X.K X.w p tab) : OpD B X (compareOp .In) (inTW p tab) := by
  refine ⟨rInTd p tab, ?_, ?_⟩
  · intro pins s σ H x y v u Q I rx ry hq
    obtain ⟨z, o, rfl, rfl, e, q⟩ := hq
    obtain ⟨⟨es, n, hl, hk⟩, lo, has, non⟩ := h
    obtain ⟨t, rfl⟩ := (show ∃ t, v = Value.str z t from rx)
    obtain rfl : u = Value.ref p := ry
    have hm := PySem.W.mapOf_K (prog := X.prog) (w := X.w) I.kIn hl hk
    refine wpAny_in_of (strKind_is X.prog X.w z t) lo hm ?_
    cases o with
    | none =>
      rw [PySem.W.find_K hl (non z e)]
      exact ⟨.bl false, H, I.tok _, rfl, q⟩
    | some d =>
      obtain ⟨u, v, e1, _⟩ := has z d e
      rw [PySem.W.find_K hl e1]
      exact ⟨.bl true, H, I.tok _, rfl, q⟩
  · rintro x y v u G H s R Q c rv ru ⟨z, e, rfl, o, eo, h1⟩ q
    obtain rfl := strOf_rv e rv
    obtain rfl : u = .ref p := ru
    exact ⟨z, o, rfl, rfl, eo, q _ s _ G H h1 c (Ex.refl G H) (.bl _)⟩
def ixTW (p : Addr) (tab : Str → Option (Option PyData)) (x y : Dv) : Wp S Dv := bnd (ask (x = .o (.ref p))) fun _ => bnd (get (strOf y)) fun z => bnd (get (tab z)) fun o => bnd (get o) fun d => ret (.d d)
theorem ixd_T {p : Addr} {tab : Str → Option (Option PyData)} (hK : X.K = B.K) (h : KTd X.K X.w p tab) : IxD B X (ixTW p tab) := by
  refine ⟨fun x y H Q => x = .ref p ∧ ∃ z d, y = .str z ∧ tab z = some (some d) ∧ ∀ v, (∀ G, DR X.K G v d) → Q v H, ?_, ?_⟩
  · intro value slice pins s σ H x y v u Q I rx ry hq hs
    obtain ⟨rfl, z, d, rfl, e, q⟩ := hq
    obtain ⟨⟨es, n, hl, hk⟩, lo, has, non⟩ := h
    obtain ⟨u0, r, e1, ru, hd⟩ := has z d e
    exact ix_kdict value slice pins s σ H (.ref p) (.str z) v u Q I rx ry ⟨p, z, r, rfl, rfl, ⟨es, n, u0, hl, hk, e1, ru⟩, q r hd⟩ hs
  · rintro x y v u G H s R Q c rv ru ⟨rfl, z, e, o, eo, d, rfl, h1⟩ q
    obtain rfl : v = .ref p := rv
    obtain rfl := strOf_rv e ru
    exact ⟨rfl, z, d, rfl, eo, fun v hv => q _ s v G H h1 c (Ex.refl G H) (by have := hv G; rw [hK] at this; exact this)⟩
theorem mo_inTW {p : Addr} {tab : Str → Option (Option PyData)} {x y : Dv} : Mono (inTW p tab x y : Wp S Dv) := mo_bnd mo_get fun _ => mo_bnd mo_ask fun _ => mo_bnd mo_get fun _ => mo_ret
theorem mo_ixTW {p : Addr} {tab : Str → Option (Option PyData)} {x y : Dv} : Mono (ixTW p tab x y : Wp S Dv) := mo_bnd mo_ask fun _ => mo_bnd mo_get fun _ => mo_bnd mo_get fun _ => mo_bnd mo_get fun _ => mo_ret
/-- a table told by a list -/
def tabOf (l : List (Str × Option PyData)) : Str → Option (Option PyData) := fun z => match l with
  | [] => none
  | e :: r => if (z == e.1) = true then some e.2 else tabOf r z
theorem tabOf_mem : ∀ {l : List (Str × Option PyData)} {z : Str} {o : Option PyData}, tabOf l z = some o → (z, o) ∈ l
  | [], _, _, h => by simp [tabOf] at h
  | (k, d) :: r, z, o, h => by
    unfold tabOf at h
    split at h
    · rename_i e
      have e : z = k := eq_of_beq e
      subst e
      cases h
      exact List.mem_cons_self
    · exact List.mem_cons_of_mem _ (tabOf_mem h)
/-- what K tells of one key -/
def KAt (K : PySem.W.Frag) (p : Addr) (e : Str × Option PyData) : Prop := match e.2 with
  | some d => ∃ u v, PySem.W.nsIn K p e.1 = some (some u) ∧ RelV v u ∧ ∀ G, DR K G v d
  | none => PySem.W.nsIn K p e.1 = some none
def KAts (K : PySem.W.Frag) (p : Addr) : List (Str × Option PyData) → Prop
  | [] => True
  | e :: r => KAt K p e ∧ KAts K p r
theorem KAts.all {K : PySem.W.Frag} {p : Addr} : ∀ {l : List (Str × Option PyData)}, KAts K p l → ∀ e ∈ l, KAt K p e
  | _ :: _, ⟨h, _⟩, _, .head _ => h
  | _ :: _, ⟨_, r⟩, _, .tail _ m => r.all _ m
theorem ktd_of {K : PySem.W.Frag} {w : World} {p : Addr} {l : List (Str × Option PyData)} (ex : ∃ es n, K.lookup p = some ⟨.type "dict", none, .dict es n, #[]⟩ ∧ PySem.W.KeysLit w.params es.toList) (lo : (p == sysModules) = false) (h : KAts K p l) : KTd K w p (tabOf l) :=
  ⟨ex, lo, fun z d e => h.all _ (tabOf_mem e), fun z e => h.all _ (tabOf_mem e)⟩

/-! ### zip(tuple, list) -/
def zipD : List PyData → List PyData → List Dv
  | x :: xs, y :: ys => .d (.tuple [x, y]) :: zipD xs ys
  | _, _ => []
theorem zipD_len : ∀ xs ys : List PyData, (zipD xs ys).length = min xs.length ys.length
  | [], _ => by simp [zipD]
  | _ :: _, [] => by simp [zipD]
  | x :: xs, y :: ys => by simp [zipD, zipD_len xs ys]
theorem zipD_get : ∀ {xs ys : List PyData} {i : Nat} {x y : PyData}, xs[i]? = some x → ys[i]? = some y → (zipD xs ys)[i]? = some (.d (.tuple [x, y]))
  | [], _, _, _, _, h, _ => by simp at h
  | _ :: _, [], _, _, _, _, h => by simp at h
  | _ :: _, _ :: _, 0, _, _, h1, h2 => by simp at h1 h2; subst h1 h2; rfl
  | _ :: xs, _ :: ys, i + 1, _, _, h1, h2 => by
    show (zipD xs ys)[i]? = _
    exact zipD_get (by simpa using h1) (by simpa using h2)
def zipW : List Dv → Wp S (List Dv)
  | [.d (.tuple xs), .d (.list ys)] => ret (zipD xs ys)
  | _ => get none
theorem zipW_some {x : List Dv} {R : List Dv → S → Prop} {s : S} (h : zipW x R s) : ∃ xs ys, x = [.d (.tuple xs), .d (.list ys)] ∧ R (zipD xs ys) s := by
  unfold zipW at h
  split at h
  · exact ⟨_, _, rfl, h⟩
  · exact (nomatch h : False).elim
theorem di_zip {f : Expr} {w : En → Wp S (List Dv)} {tpos : Pos} {elts : List Expr} {kk : Nat} (hg : Gl X "zip") (hm : X.mg "zip" = none) (ha : DA B X [e, f] w)
    (hs : starEach [e, f] X.env = (false, eval e X.env) :: starEach [f] X.env := by rfl) (hpl : (backTo pos (starEach [f] X.env)).any (·.1) = false := by rfl) :
    DI B X (.Tuple elts kk tpos) (.Call (.Name "zip" p) [e, f] [] pos) (fun env => bnd (w env) fun xs => zipW xs) := by
  refine ⟨ha.k, pi_mono (ZT.pi_zLT hg hm ha.pa hs hpl) ?_⟩
  have hk := ha.k
  rintro σ H Q ⟨G, env, s, R, c, r, hw, q⟩
  refine tDa_of c r hw fun x s1 v G1 H1 h1 c1 e1 r1 rv => ?_
  obtain ⟨xs, ys, rfl, h1⟩ := zipW_some h1
  cases rv with
  | cons ra rb =>
    cases rb with
    | cons rb rc =>
      cases rc
      cases ra with
      | @tup a us _ ea rda =>
        cases rb with
        | @lst b vs _ eb rdb =>
          refine ⟨a, b, us, vs, rfl, by rw [hk]; exact sqT_same ea c1.sub, .inl (.inl (c1.sub _ _ eb)), ?_⟩
          rw [hk]
          refine q _ s1 G1 H1 _ h1 c1 e1 ⟨_, _, ZT.walk_zLT (by rw [zipD_len, rda.length, rdb.length]), fun G2 H2 g1 g2 => ⟨sqT_same (sqT_same ea g1) g2, .inl (.inl (g2 _ _ (g1 _ _ eb)))⟩, ?_⟩
          rintro i G2 H2 s2 x H3 hi c2 gg ⟨T, u, z, rfl, hT, rfl, hu, hz⟩
          rw [zipD_len] at hi
          obtain ⟨u', eu, ru⟩ := rda.get (List.getElem?_eq_getElem (show i < xs.length by omega))
          obtain ⟨z', ez, rz⟩ := rdb.get (List.getElem?_eq_getElem (show i < ys.length by omega))
          have hu : us[i]? = some u := hu
          have hz : vs[i]? = some z := hz
          rw [hu] at eu
          rw [hz] at ez
          cases eu
          cases ez
          refine ⟨_, _, zipD_get (List.getElem?_eq_getElem (show i < xs.length by omega)) (List.getElem?_eq_getElem (show i < ys.length by omega)), c2.new hT, Ex.new c2 hT, ?_⟩
          have sg : Same G1 (upd G2 T (.tup [u, z])) := gg.trans (Ex.new c2 hT).gg
          exact .tup (.inl (.inl upd_same)) (.cons (DR.same sg _ _ ru) (.cons (DR.same sg _ _ rz) .nil))

/-! ### a, b = a list -/
def lstOf : Dv → Option (List PyData)
  | .d (.list ds) => some ds
  | _ => none
theorem dg_lst {es : List Expr} {ts : List Nat} {k n : Nat} {pos : Pos} {g : List PyData → En → Wp S En} (hc : X.calm = true) (h : DGs B X es ts g) (hn : (assignEach es X.env).length = n := by rfl) (hst : (assignEach es X.env).findIdx? (·.1) = none := by rfl) :
    DG B X (.Tuple es k pos) ts (fun x env => bnd (get (lstOf x)) fun ds => bnd (ask (ds.length = n)) fun _ => g ds env) := by
  refine ⟨h.k, pg_mono (pg_lst hc h.pgs hn hst) ?_⟩
  rintro v σ H Q ⟨G, env, s, R, x, c, r, rv, ⟨ds, ed, hl, h⟩, q⟩
  cases x with
  | o u => cases ed
  | d x =>
    cases rv with
    | lst e rd => cases ed; exact ⟨_, _, rfl, .inl (.inl (c.sub _ _ e)), by rw [rd.length]; exact hl, G, env, s, R, _, c, r, rd, h, q⟩
    | _ => cases ed

/-! ### two clauses -/
def noOwn (env : En) : Bool := env.all fun | some (.own _) => false | _ => true
theorem Rep.flat {G G' H H' : Hp} {σ : L2.St} {env : En} (r : Rep B G H σ env) (hn : noOwn env = true) (g : Same G G') : Rep B G' H' σ env := by
  have no : ∀ (i : Nat) (xs : List PyData), env[i]? = some (some (.own xs)) → False := fun i xs h => by
    have := List.all_eq_true.mp hn _ (List.mem_of_getElem? h)
    cases this
  refine ⟨r.len, fun i x h => ?_, fun i xs h => (no i xs h).elim, fun i j xs ys p _ h => (no i xs h).elim⟩
  obtain ⟨v, h1, h2⟩ := r.val i x h
  exact ⟨v, h1, h2.same g⟩
def lc2W (g : Dv → En → Wp S En) (t : En → Wp S Bool) (wi : En → Wp S (List Dv)) (g1 : Dv → En → Wp S En) (t1 : En → Wp S Bool) (e : En → Wp S Dv) (vs1 : List Nat) (env0 : En) : List Dv → List PyData → Wp S (List PyData)
  | [], acc => ret acc
  | x :: xs, acc => bnd (g x env0) fun env2 => bnd (ask (noOwn env2 = true)) fun _ => bnd (t env2) fun b => if b = true then bnd (wi env2) fun items => bnd (lcW g1 t1 e (wipeE env2 vs1) items acc) fun acc' => lc2W g t wi g1 t1 e vs1 env0 xs acc' else lc2W g t wi g1 t1 e vs1 env0 xs acc
/-- what is read of the inner clause at its end is put to what stood there -/
theorem lc2_read {own : List (Str × Nat)} {wi wi1 : En → Wp S (List Dv)} {ts ts1 vs1 : List Nat} {g g1 : Dv → En → Wp S En} {t t1 : En → Wp S Bool} {e : En → Wp S Dv} (hts : ∀ j ∈ ts, j ∈ own.map (·.2)) (hts1 : ∀ j ∈ ts1, j ∈ vs1) {σ : L2.St} {H : Hp} {Q : VK}
    (h : tDf B (fun env => bnd (wi env) fun items => lc2W g t wi1 g1 t1 e vs1 (wipeE env (own.map (·.2))) items []) σ H Q) :
    tLc2 (tDi B wi) (tDg B ts g) (tDb B t) (tDi B wi1) (tDg B ts1 g1) (tDb B t1) (tD B e) (own.map (·.2)) vs1 σ H Q := by
  obtain ⟨G, env, s, R, c, r, hw, q⟩ := h
  refine ⟨G, env, s, _, c, r, hw, fun items s1 G1 H1 J h1 c1 e1 wk D hD => ?_⟩
  obtain ⟨Gd, Y, hwk, hgd, hy⟩ := wk
  have gD : G1 D = none := c1.gnone hD
  have oD : ¬ B.O D := c1.onone hD
  have h0D : B.H0 D = none := c1.hnone hD
  have HD : H D = none := by
    rcases z : H D with _ | u
    · rfl
    · exact absurd hD (e1.alive D (by rw [z]; simp))
  have exput : ∀ {G2 H2 : Hp} {o : HO}, Ex B G1 H1 G2 H2 → G2 D = none → Ex B G1 H1 G2 (upd H2 D o) := fun {G2 H2 o} ex g2 => ⟨ex.gg, fun b u hb eb => by
    rw [upd_ne (ne_of_none eb hD)]
    exact ex.keep b u hb eb, ex.fresh, fun b hb => by
    by_cases z : b = D
    · rw [z, upd_same]
      simp
    · rw [upd_ne z]
      exact ex.alive b hb⟩
  let P : Nat → Hp → Prop := fun i Hi => ∃ Gi si vs acc, Cc B Gi Hi si ∧ Ex B G1 H1 Gi Hi ∧ Hi D = some (.lst vs) ∧ Gi D = none ∧ DRs B.K Gi vs acc ∧ lc2W g t wi1 g1 t1 e vs1 (wipeE env (own.map (·.2))) (items.drop i) acc R si
  refine ⟨fun i m Hi => m = items.length - i ∧ i ≤ items.length ∧ P i Hi, ⟨items.length, by simp, Nat.zero_le _, G1, s1, [], [], c1.side hD, exput (Ex.refl _ _) gD, upd_same, gD, .nil, h1⟩, ?_⟩
  rintro i m Hi ⟨rfl, hi, Gi, si, vs, acc, ci, ei, hDi, gDi, rd, hl⟩
  have qG := hgd Gi Hi ei.gg ci.sub
  by_cases hlt : i < items.length
  · refine .inr ⟨hwk.goes i Hi hlt qG, P (i + 1), fun H' p' => ⟨items.length - (i + 1), by omega, rfl, hlt, p'⟩, fun x H' y => ?_⟩
    have hY := hwk.yields i Hi x H' hlt qG y
    obtain ⟨d, G3, hd, c3, e3, rv⟩ := hy i Gi Hi si x H' hlt ci ei.gg hY
    have hdrop : items.drop i = d :: items.drop (i + 1) := by
      rw [List.getElem?_eq_getElem hlt] at hd
      rw [List.drop_eq_getElem_cons hlt, Option.some.inj hd]
    rw [hdrop] at hl
    have r3 : Rep B G3 H' (wipe σ (own.map (·.2))) (wipeE env (own.map (·.2))) := (r.ex ((e1.trans ei).trans e3)).wipe _
    refine ⟨G3, _, si, _, d, c3, r3, rv, hl, fun env2 s2 σ2 G4 H4 k4 c4 e4 r4 l4 n4 => ⟨wipe_eq hts l4 n4, ?_⟩⟩
    obtain ⟨hno, k4⟩ := k4
    refine tDb_of c4 r4 k4 fun b s5 G5 H5 k5 c5 e5 r5 => ?_
    have e15 := ((ei.trans e3).trans e4).trans e5
    have ei5 := (e3.trans e4).trans e5
    have hD5 : H5 D = some (.lst vs) := ei5.keep _ _ oD hDi
    have gD5 : G5 D = none := ei5.fresh _ (by rw [hDi]; simp) gDi
    have rd5 := DRs.same ei5.gg _ _ rd
    cases b with
    | false =>
      rw [if_neg Bool.false_ne_true]
      exact ⟨G5, s5, vs, acc, c5, e15, hD5, gD5, rd5, k5⟩
    | true =>
      rw [if_pos rfl]
      refine ⟨G5, env2, s5, _, c5, r5, k5, fun items1 s6 G6 H6 J1 k6 c6 e6 wk1 => ?_⟩
      obtain ⟨Gd1, Y1, hwk1, hgd1, hy1⟩ := wk1
      have e16 := e15.trans e6
      have hD6 : H6 D = some (.lst vs) := e6.keep _ _ oD hD5
      have gD6 : G6 D = none := e6.fresh _ (by rw [hD5]; simp) gD5
      have rd6 := DRs.same e6.gg _ _ rd5
      let P1 : Nat → Hp → Prop := fun j Hj => ∃ Gj sj vj aj, Cc B Gj Hj sj ∧ Ex B G1 H1 Gj Hj ∧ Same G6 Gj ∧ Hj D = some (.lst vj) ∧ Gj D = none ∧ DRs B.K Gj vj aj ∧
        lcW g1 t1 e (wipeE env2 vs1) (items1.drop j) aj (fun acc' s' => lc2W g t wi1 g1 t1 e vs1 (wipeE env (own.map (·.2))) (items.drop (i + 1)) acc' R s') sj
      refine ⟨fun j k Hj => k = items1.length - j ∧ j ≤ items1.length ∧ P1 j Hj, ⟨items1.length, by simp, Nat.zero_le _, G6, s6, vs, acc, c6, e16, Same.refl _, hD6, gD6, rd6, k6⟩, ?_⟩
      rintro j k Hj ⟨rfl, hj, Gj, sj, vj, aj, cj, ej, gj, hDj, gDj, rdj, hlj⟩
      have qG1 := hgd1 Gj Hj gj cj.sub
      by_cases hlt1 : j < items1.length
      · refine .inr ⟨hwk1.goes j Hj hlt1 qG1, P1 (j + 1), fun H' p' => ⟨items1.length - (j + 1), by omega, rfl, hlt1, p'⟩, fun x1 H7 y1 => ?_⟩
        have hY1 := hwk1.yields j Hj x1 H7 hlt1 qG1 y1
        obtain ⟨d1, G7, hd1, c7, e7, rv7⟩ := hy1 j Gj Hj sj x1 H7 hlt1 cj gj hY1
        have hdrop1 : items1.drop j = d1 :: items1.drop (j + 1) := by
          rw [List.getElem?_eq_getElem hlt1] at hd1
          rw [List.drop_eq_getElem_cons hlt1, Option.some.inj hd1]
        rw [hdrop1] at hlj
        have r7 : Rep B G7 H7 (wipe σ2 vs1) (wipeE env2 vs1) := (r5.flat hno ((e6.gg.trans gj).trans e7.gg)).wipe _
        refine ⟨G7, _, sj, _, d1, c7, r7, rv7, hlj, fun env3 s8 σ3 G8 H8 k8 c8 e8 r8 l8 n8 => ⟨wipe_eq hts1 l8 n8, ?_⟩⟩
        refine tDb_of c8 r8 k8 fun b s9 G9 H9 k9 c9 e9 r9 => ?_
        have ej9 := (e7.trans e8).trans e9
        have e19 := ej.trans ej9
        have hD9 : H9 D = some (.lst vj) := ej9.keep _ _ oD hDj
        have gD9 : G9 D = none := ej9.fresh _ (by rw [hDj]; simp) gDj
        have rd9 := DRs.same ej9.gg _ _ rdj
        cases b with
        | false =>
          rw [if_neg Bool.false_ne_true]
          exact ⟨G9, s9, vj, aj, c9, e19, gj.trans ej9.gg, hD9, gD9, rd9, k9⟩
        | true =>
          rw [if_pos rfl]
          refine tD_of c9 r9 (show e env3 _ s9 from k9) fun y sA v GA HA kA cA eA rA rvA => ?_
          obtain ⟨dy, edy, hz, kA⟩ := kA
          have hDA : HA D = some (.lst vj) := eA.keep _ _ oD hD9
          have gDA : GA D = none := eA.fresh _ (by rw [hD9]; simp) gD9
          have rdA := DRs.same eA.gg _ _ rd9
          refine ⟨vj, hDA, by rw [rdA.length]; exact hz, GA, sA, _, _, cA.put gDA oD h0D, exput (e19.trans eA) gDA, (gj.trans ej9.gg).trans eA.gg, upd_same, gDA, rdA.append (.cons (dataOf_rv edy rvA) .nil), kA⟩
      · have ej2 : j = items1.length := by omega
        subst ej2
        rw [List.drop_eq_nil_of_le (Nat.le_refl _)] at hlj
        exact .inl ⟨hwk1.stops Hj qG1, Gj, sj, vj, aj, cj, ej, hDj, gDj, rdj, hlj⟩
  · have e2 : i = items.length := by omega
    subst e2
    rw [List.drop_eq_nil_of_le (Nat.le_refl _)] at hl
    exact .inl ⟨hwk.stops Hi qG, q acc si D vs Gi Hi hl HD gDi hDi rd ci (e1.trans ei)⟩
theorem df_lc2 {elt tg iter tg1 iter1 : Expr} {ifs ifs1 : List Expr} {scope : Scope} {own : List (Str × Nat)} {vs1 : List Nat} {pos : Pos} {wi wi1 : En → Wp S (List Dv)} {ts ts1 : List Nat} {g g1 : Dv → En → Wp S En} {t t1 : En → Wp S Bool} {e : En → Wp S Dv} (hc : X.calm = true) (hN : X.N.Nodup) (hi : DI B X tg iter wi) (ok : BlkOk X.N X.env.scope scope own) (hv : ∀ i ∈ vs1, i ∈ own.map (·.2))
    (hg : ∀ (s : Shared) (H : Hp) (C : Addr) (cl : List (Str × Addr)) (fp : List Addr), DG B (X.blk s H scope (compEnvC scope cl C X.env) fp) tg ts g) (ht : ∀ (s : Shared) (H : Hp) (C : Addr) (cl : List (Str × Addr)) (fp : List Addr), DTs B (X.blk s H scope (compEnvC scope cl C X.env) fp) ifs t)
    (hi1 : ∀ (s : Shared) (H : Hp) (C : Addr) (cl : List (Str × Addr)) (fp : List Addr), DI B (X.blk s H scope (compEnvC scope cl C X.env) fp) tg1 iter1 wi1)
    (hg1 : ∀ (s : Shared) (H : Hp) (C : Addr) (cl : List (Str × Addr)) (fp : List Addr), DG B (X.blk s H scope (compEnvC scope cl C X.env) fp) tg1 ts1 g1) (ht1 : ∀ (s : Shared) (H : Hp) (C : Addr) (cl : List (Str × Addr)) (fp : List Addr), DTs B (X.blk s H scope (compEnvC scope cl C X.env) fp) ifs1 t1)
    (he : ∀ (s : Shared) (H : Hp) (C : Addr) (cl : List (Str × Addr)) (fp : List Addr), DE B (X.blk s H scope (compEnvC scope cl C X.env) fp) elt e) (hts : ∀ j ∈ ts, j ∈ own.map (·.2) := by decide) (hts1 : ∀ j ∈ ts1, j ∈ vs1 := by decide) (hs : ∀ x, foldedSetIterable iter X.env x = pure x := by intro _; rfl) (hs1 : ∀ env x, foldedSetIterable iter1 env x = pure x := by intro _ _; rfl) :
    DF B X (.ListComp elt [⟨tg, iter, ifs, 0⟩, ⟨tg1, iter1, ifs1, 0⟩] scope pos) (fun env => bnd (wi env) fun items => lc2W g t wi1 g1 t1 e vs1 (wipeE env (own.map (·.2))) items []) :=
  ⟨hi.k, pe_mono (pe_lc2 hc hN hi.pi ok hv (fun s H C cl fp => (hg s H C cl fp).pg) (fun s H C cl fp => (ht s H C cl fp).pts) (fun s H C cl fp => (hi1 s H C cl fp).pi) (fun s H C cl fp => (hg1 s H C cl fp).pg) (fun s H C cl fp => (ht1 s H C cl fp).pts) (fun s H C cl fp => (he s H C cl fp).pe) hs hs1) fun σ H Q h => lc2_read hts hts1 h⟩
end
end L2.DD

set_option maxRecDepth 100000
set_option maxHeartbeats 4000000
/-! Maths of the texts of questions and runs. -/
namespace L2.DD
open PySem PySem.Spec PyProof.Rows

/-! ### numbers 0 to 999 -/
def numS (n : Nat) : Str := (toString ((n : Nat) : Int) : Str)
def numOk (n : Nat) : Bool := (match numIn (numS n) with
    | [.int i] => i == (n : Int)
    | _ => false) && (decide (1 ≤ (numS n).length) && decide ((numS n).length ≤ 3)) && (TL.tl (numS n)).all fun c => decide (48 ≤ c) && decide (c ≤ 57)
theorem numOk_all : (List.range 1000).all numOk = true := by decide +kernel
theorem num_ok {n : Nat} (h : n < 1000) : numIn (numS n) = [.int (n : Int)] ∧ 1 ≤ (numS n).length ∧ (numS n).length ≤ 3 ∧ ∀ c ∈ TL.tl (numS n), 48 ≤ c ∧ c ≤ 57 := by
  have e := List.all_eq_true.mp numOk_all n (List.mem_range.mpr h)
  unfold numOk at e
  simp only [Bool.and_eq_true, decide_eq_true_eq, List.all_eq_true] at e
  obtain ⟨⟨e1, e2, e3⟩, e4⟩ := e
  refine ⟨?_, e2, e3, e4⟩
  split at e1
  · rename_i i hi
    rw [hi, eq_of_beq e1]
  · cases e1
theorem num_str {n : Nat} (h : n < 1000) : strD (.d (.int (n : Int))) = some (numS n) := by
  show (if (n : Int).natAbs.log2 < 1920 then some (toString (n : Int) : Str) else none) = _
  rw [if_pos]
  · rfl
  · refine Nat.lt_of_le_of_lt (Nat.log2_le_self _) ?_
    omega

/-! ### words -/
/-- a word of a text: 1 to 8 signs, small ones, no space, no ';' -/
structure Tok (t : Str) : Prop where
  l1 : 1 ≤ t.length
  l8 : t.length ≤ 8
  sm : ∀ c ∈ TL.tl t, c < 128
  sp : 32 ∉ TL.tl t
  sc : 59 ∉ TL.tl t
def tokOk (t : Str) : Bool := decide (1 ≤ t.length) && decide (t.length ≤ 8) && (TL.tl t).all fun c => decide (c < 128) && decide (c ≠ 32) && decide (c ≠ 59)
theorem tok_of {t : Str} (h : tokOk t = true) : Tok t := by
  unfold tokOk at h
  simp only [Bool.and_eq_true, decide_eq_true_eq, List.all_eq_true] at h
  obtain ⟨⟨a, b⟩, c⟩ := h
  exact ⟨a, b, fun x hx => (c x hx).1.1, fun hx => (c _ hx).1.2 rfl, fun hx => (c _ hx).2 rfl⟩
theorem Tok.name {s : Str} (h : isName s = true) : Tok s := by
  have e := isName_len h
  have g := isName_sign h
  exact ⟨e.1, e.2, fun c hc => by have := g c hc; omega, fun hc => by have := g _ hc; omega, fun hc => by have := g _ hc; omega⟩
theorem Tok.num {n : Nat} (h : n < 1000) : Tok (numS n) := by
  obtain ⟨_, a, b, c⟩ := num_ok h
  exact ⟨a, by omega, fun x hx => by have := c x hx; omega, fun hx => by have := c _ hx; omega, fun hx => by have := c _ hx; omega⟩
theorem Tok.opt {x : PyData} (h : nameOrNone x = true) : Tok (showN x ("-" : String)) := by
  rcases name_cases h with rfl | ⟨s, rfl, hs⟩
  · exact tok_of (by decide +kernel)
  · exact Tok.name hs
abbrev sp1 : Str := (" " : String)
theorem e32 : TL.tl sp1 = [32] := by decide +kernel
theorem words_back {ts : List Str} (hne : ts ≠ []) (h : ∀ t ∈ ts, Tok t) : Txt.split (Txt.join sp1 ts) sp1 = ts := TL.split_join (s := 32) (S := []) e32 (by decide +kernel) hne fun p hp => (h p hp).sp
theorem words_len {ts : List Str} (h : ∀ t ∈ ts, Tok t) : (Txt.join sp1 ts).length ≤ 9 * ts.length := join_len_le sp1 ts 8 fun p hp => (h p hp).l8
theorem words_sign {ts : List Str} (h : ∀ t ∈ ts, Tok t) : ∀ c ∈ TL.tl (Txt.join sp1 ts), c < 128 := fun c hc => by
  rcases join_mem hc with h1 | ⟨p, hp, h1⟩
  · rw [e32] at h1
    rw [List.mem_singleton.mp h1]
    decide
  · exact (h p hp).sm c h1
theorem join_app (y : Str) : ∀ {a b : List Str}, a ≠ [] → b ≠ [] → Txt.join y (a ++ b) = Txt.join y a ++ (y ++ Txt.join y b) := by
  intro a b ha hb
  refine TL.ext_tl ?_
  simp only [TL.tl_append, TL.join_eq, TL.tl_join, List.map_append]
  have hb' : b.map TL.tl ≠ [] := by simpa using hb
  generalize b.map TL.tl = bs at hb' ⊢
  induction a with
  | nil => exact absurd rfl ha
  | cons x r ih =>
    cases r with
    | nil =>
      cases bs with
      | nil => exact absurd rfl hb'
      | cons z zs => rfl
    | cons x2 r2 =>
      have := ih (by simp)
      show TL.tl x ++ (TL.tl y ++ TL.joinL (TL.tl y) ((x2 :: r2).map TL.tl ++ bs)) = _
      rw [this]
      show _ = (TL.tl x ++ (TL.tl y ++ TL.joinL (TL.tl y) ((x2 :: r2).map TL.tl))) ++ _
      simp only [List.append_assoc]
theorem join_one (y a : Str) : Txt.join y [a] = a := by
  refine TL.ext_tl ?_
  rw [TL.join_eq, TL.tl_join]
  rfl
/-- texts of texts -/
theorem join_flat (y : Str) : ∀ {tss : List (List Str)}, (∀ ts ∈ tss, ts ≠ []) → Txt.join y (tss.map (Txt.join y)) = Txt.join y tss.flatten
  | [], _ => rfl
  | [ts], h => by
    show Txt.join y [Txt.join y ts] = Txt.join y (ts ++ [])
    rw [join_one, List.append_nil]
  | ts :: us :: r, h => by
    have ih := join_flat y (tss := us :: r) fun z hz => h z (List.mem_cons_of_mem _ hz)
    have hne : (us :: r).flatten ≠ [] := by
      intro e
      have := h us (by simp)
      rw [List.flatten_cons] at e
      exact this (List.append_eq_nil_iff.mp e).1
    show Txt.join y ([Txt.join y ts] ++ (us :: r).map (Txt.join y)) = Txt.join y (ts ++ (us :: r).flatten)
    rw [join_app y (by simp) (by simp), join_app y (h ts (by simp)) hne, join_one, ih]
theorem join_cons (y a : Str) {ts : List Str} (h : ts ≠ []) : Txt.join y (a :: ts) = a ++ (y ++ Txt.join y ts) := by
  have := join_app y (a := [a]) (b := ts) (by simp) h
  rw [join_one] at this
  exact this
theorem join_flat2 (y a b : Str) {tss : List (List Str)} (h : ∀ ts ∈ tss, ts ≠ []) : Txt.join y (a :: b :: tss.map (Txt.join y)) = Txt.join y (a :: b :: tss.flatten) := by
  have := join_flat y (tss := [a] :: [b] :: tss) fun ts hts => by
    simp only [List.mem_cons] at hts
    rcases hts with rfl | rfl | hts
    · simp
    · simp
    · exact h ts hts
  simpa [join_one] using this

/-! ### facts -/
def k5 : List Str := ["did", "asked", "was", "is", "spilt"]
def k2 : List Str := ["by", "at"]
inductive Fact : PyData → List Str → Prop
  | nn (k a : Str) (n : Nat) : k ∈ k5 → isName a = true → n < 1000 → Fact (.tuple [.str k, .str a, .int (n : Int)]) [k, a, numS n]
  | ah (a b : Str) : isName a = true → isName b = true → Fact (.tuple [.str "ahead", .str a, .str b]) ["ahead", a, b]
  | no (k a : Str) (p : PyData) : k ∈ k2 → isName a = true → nameOrNone p = true → Fact (.tuple [.str k, .str a, p]) [k, a, showN p ("-" : String)]
  | fe (n : Nat) : n < 1000 → Fact (.tuple [.str "fell", .int (n : Int)]) ["fell", numS n]
  | en (a : Str) : isName a = true → Fact (.tuple [.str "ended", .str a]) ["ended", a]
theorem k5_tok : ∀ k ∈ k5, Tok k := by
  intro k hk
  simp only [k5, List.mem_cons, List.not_mem_nil, or_false] at hk
  rcases hk with rfl | rfl | rfl | rfl | rfl <;> exact tok_of (by decide +kernel)
theorem k2_tok : ∀ k ∈ k2, Tok k := by
  intro k hk
  simp only [k2, List.mem_cons, List.not_mem_nil, or_false] at hk
  rcases hk with rfl | rfl <;> exact tok_of (by decide +kernel)
theorem Fact.tok {x : PyData} {ts : List Str} (h : Fact x ts) : (∀ t ∈ ts, Tok t) ∧ ts ≠ [] ∧ ts.length ≤ 3 := by
  cases h with
  | nn k a n hk ha hn =>
    refine ⟨fun t ht => ?_, by simp, by simp⟩
    simp only [List.mem_cons, List.not_mem_nil, or_false] at ht
    rcases ht with rfl | rfl | rfl
    · exact k5_tok _ hk
    · exact Tok.name ha
    · exact Tok.num hn
  | ah a b ha hb =>
    refine ⟨fun t ht => ?_, by simp, by simp⟩
    simp only [List.mem_cons, List.not_mem_nil, or_false] at ht
    rcases ht with rfl | rfl | rfl
    · exact tok_of (by decide +kernel)
    · exact Tok.name ha
    · exact Tok.name hb
  | no k a p hk ha hp =>
    refine ⟨fun t ht => ?_, by simp, by simp⟩
    simp only [List.mem_cons, List.not_mem_nil, or_false] at ht
    rcases ht with rfl | rfl | rfl
    · exact k2_tok _ hk
    · exact Tok.name ha
    · exact Tok.opt hp
  | fe n hn =>
    refine ⟨fun t ht => ?_, by simp, by simp⟩
    simp only [List.mem_cons, List.not_mem_nil, or_false] at ht
    rcases ht with rfl | rfl
    · exact tok_of (by decide +kernel)
    · exact Tok.num hn
  | en a ha =>
    refine ⟨fun t ht => ?_, by simp, by simp⟩
    simp only [List.mem_cons, List.not_mem_nil, or_false] at ht
    rcases ht with rfl | rfl
    · exact tok_of (by decide +kernel)
    · exact Tok.name ha
theorem nat_shw {n : Nat} (h : n < 1000) : Shw 0 6 (.int (n : Int)) := by
  refine ⟨rfl, ?_, Nat.zero_le _, ?_⟩
  · show decide _ = true
    refine decide_eq_true ?_
    refine Nat.lt_of_le_of_lt (Nat.log2_le_self _) ?_
    omega
  · have := (num_ok h).2.2.1
    exact Nat.le_trans this (by decide)
theorem opt_shw {x : PyData} (h : nameOrNone x = true) : Shw 0 82 x := by
  rcases name_cases h with rfl | ⟨s, rfl, hs⟩
  · exact Shw.none.mono (Nat.le_refl _) (by decide)
  · exact name_shw hs
theorem tok_shw {t : Str} (h : Tok t) : Shw 0 82 (.str t) := Shw.str (fun c hc => by have := h.sm c hc; omega) (by have := h.l8; omega)
theorem Fact.shw {x : PyData} {ts : List Str} (h : Fact x ts) : Shw 1 300 x := by
  have key : ∀ {ds : List PyData}, ds.length ≤ 3 → (∀ d ∈ ds, Shw 0 82 d) → Shw 1 300 (.tuple ds) := fun {ds} hl hd => by
    refine (Shw.tup (Shws.of hd)).mono (Nat.le_refl _) ?_
    have : (82 + 2) * ds.length ≤ 84 * 3 := Nat.mul_le_mul_left _ hl
    omega
  cases h with
  | nn k a n hk ha hn =>
    refine key (by simp) fun d hd => ?_
    simp only [List.mem_cons, List.not_mem_nil, or_false] at hd
    rcases hd with rfl | rfl | rfl
    · exact tok_shw (k5_tok _ hk)
    · exact name_shw ha
    · exact (nat_shw hn).mono (Nat.le_refl _) (by decide)
  | ah a b ha hb =>
    refine key (by simp) fun d hd => ?_
    simp only [List.mem_cons, List.not_mem_nil, or_false] at hd
    rcases hd with rfl | rfl | rfl
    · exact tok_shw (tok_of (by decide +kernel))
    · exact name_shw ha
    · exact name_shw hb
  | no k a p hk ha hp =>
    refine key (by simp) fun d hd => ?_
    simp only [List.mem_cons, List.not_mem_nil, or_false] at hd
    rcases hd with rfl | rfl | rfl
    · exact tok_shw (k2_tok _ hk)
    · exact name_shw ha
    · exact opt_shw hp
  | fe n hn =>
    refine key (by simp) fun d hd => ?_
    simp only [List.mem_cons, List.not_mem_nil, or_false] at hd
    rcases hd with rfl | rfl
    · exact tok_shw (tok_of (by decide +kernel))
    · exact (nat_shw hn).mono (Nat.le_refl _) (by decide)
  | en a ha =>
    refine key (by simp) fun d hd => ?_
    simp only [List.mem_cons, List.not_mem_nil, or_false] at hd
    rcases hd with rfl | rfl
    · exact tok_shw (tok_of (by decide +kernel))
    · exact name_shw ha

/-! ### questions: data, words, how many facts -/
abbrev Qp := PyData × List Str × Nat
def jn (j : Bool) : Str := if j = true then "and" else "or"
def QT : Nat → PyData → List Str → Nat → Prop
  | 0, x, ts, c => Fact x ts ∧ c = 1
  | n + 1, x, ts, c => (Fact x ts ∧ c = 1) ∨ (∃ (y : PyData) (us : List Str), x = .tuple [.str ("not" : Str), y] ∧ ts = ("not" : Str) :: us ∧ QT n y us c) ∨
    ∃ (j : Bool) (qs : List Qp), 2 ≤ qs.length ∧ qs.length ≤ 4 ∧ x = .tuple (.str (jn j) :: qs.map fun q => q.1) ∧ ts = jn j :: numS qs.length :: (qs.map fun q => q.2.1).flatten ∧
      c = (qs.map fun q => q.2.2).sum ∧ ∀ q ∈ qs, QT n q.1 q.2.1 q.2.2
theorem QT.fact : ∀ {n : Nat} {x : PyData} {ts : List Str}, Fact x ts → QT n x ts 1
  | 0, _, _, h => ⟨h, rfl⟩
  | n + 1, _, _, h => .inl ⟨h, rfl⟩
def qlen : Nat → Nat
  | 0 => 3
  | n + 1 => 4 * qlen n + 3
def qsiz : Nat → Nat
  | 0 => 300
  | n + 1 => 5 * qsiz n + 500
theorem qlen_up (n : Nat) : qlen 0 ≤ qlen n := by
  induction n with
  | zero => exact Nat.le_refl _
  | succ n ih => show 3 ≤ 4 * qlen n + 3; omega
theorem qsiz_up (n : Nat) : 300 ≤ qsiz n := by
  induction n with
  | zero => exact Nat.le_refl _
  | succ n ih => show 300 ≤ 5 * qsiz n + 500; omega
theorem jn_tok (j : Bool) : Tok (jn j) := by cases j <;> exact tok_of (by decide +kernel)
theorem flat_len : ∀ (l : List (List Str)) (k : Nat), (∀ t ∈ l, t.length ≤ k) → l.flatten.length ≤ k * l.length
  | [], k, _ => by simp
  | a :: l, k, h => by
    have ih := flat_len l k fun t ht => h t (List.mem_cons_of_mem _ ht)
    have := h a List.mem_cons_self
    rw [List.flatten_cons, List.length_append, List.length_cons, Nat.mul_succ]
    omega
theorem QT.tok : ∀ {n : Nat} {x : PyData} {ts : List Str} {c : Nat}, QT n x ts c → (∀ t ∈ ts, Tok t) ∧ ts ≠ [] ∧ ts.length ≤ qlen n
  | 0, _, _, _, ⟨h, _⟩ => h.tok
  | n + 1, x, ts, c, h => by
    rcases h with ⟨h, _⟩ | ⟨y, us, rfl, rfl, h⟩ | ⟨j, qs, h2, h4, rfl, rfl, rfl, h⟩
    · exact ⟨h.tok.1, h.tok.2.1, Nat.le_trans h.tok.2.2 (qlen_up (n + 1))⟩
    · obtain ⟨a, b, d⟩ := QT.tok h
      refine ⟨fun t ht => ?_, by simp, ?_⟩
      · rcases List.mem_cons.mp ht with rfl | ht
        · exact tok_of (by decide +kernel)
        · exact a t ht
      · show us.length + 1 ≤ 4 * qlen n + 3
        omega
    · refine ⟨fun t ht => ?_, by simp, ?_⟩
      · rcases List.mem_cons.mp ht with rfl | ht
        · exact jn_tok j
        · rcases List.mem_cons.mp ht with rfl | ht
          · exact Tok.num (by omega)
          · obtain ⟨l, hl, ht⟩ := List.mem_flatten.mp ht
            obtain ⟨q, hq, rfl⟩ := List.mem_map.mp hl
            exact (QT.tok (h q hq)).1 t ht
      · have := flat_len (qs.map fun q => q.2.1) (qlen n) fun t ht => by
          obtain ⟨q, hq, rfl⟩ := List.mem_map.mp ht
          exact (QT.tok (h q hq)).2.2
        rw [List.length_map] at this
        have h3 : qlen n * qs.length ≤ qlen n * 4 := Nat.mul_le_mul_left _ h4
        show (qs.map fun q => q.2.1).flatten.length + 1 + 1 ≤ 4 * qlen n + 3
        omega
theorem QT.shw : ∀ {n : Nat} {x : PyData} {ts : List Str} {c : Nat}, QT n x ts c → Shw (n + 1) (qsiz n) x
  | 0, _, _, _, ⟨h, _⟩ => h.shw
  | n + 1, x, ts, c, h => by
    have up := qsiz_up n
    rcases h with ⟨h, _⟩ | ⟨y, us, rfl, rfl, h⟩ | ⟨j, qs, h2, h4, rfl, rfl, rfl, h⟩
    · exact h.shw.mono (by omega) (by show 300 ≤ 5 * qsiz n + 500; omega)
    · have hy := QT.shw h
      refine (Shw.tup (Shws.of (n := n + 1) (k := qsiz n) fun d hd => ?_)).mono (Nat.le_refl _) ?_
      · rcases List.mem_cons.mp hd with rfl | hd
        · exact (tok_shw (tok_of (by decide +kernel))).mono (by omega) (by omega)
        · rw [List.mem_singleton.mp hd]
          exact hy
      · show (qsiz n + 2) * 2 + 3 ≤ 5 * qsiz n + 500
        omega
    · refine (Shw.tup (Shws.of (n := n + 1) (k := qsiz n) fun d hd => ?_)).mono (Nat.le_refl _) ?_
      · rcases List.mem_cons.mp hd with rfl | hd
        · exact (tok_shw (jn_tok j)).mono (by omega) (by omega)
        · obtain ⟨q, hq, rfl⟩ := List.mem_map.mp hd
          exact QT.shw (h q hq)
      · rw [List.length_cons, List.length_map]
        have h3 : (qsiz n + 2) * (qs.length + 1) ≤ (qsiz n + 2) * 5 := Nat.mul_le_mul_left _ (by omega)
        show _ ≤ 5 * qsiz n + 500
        omega
theorem QT.laid : ∀ {n : Nat} {x : PyData} {ts : List Str} {c : Nat}, QT n x ts c → Laid (n + 1) x := by
  have lt : ∀ {t : Str}, Tok t → Laid 0 (.str t) := fun h => .str fun c hc => by have := h.sm c hc; omega
  have lo : ∀ {p : PyData}, nameOrNone p = true → Laid 0 p := fun {p} h => by
    rcases name_cases h with rfl | ⟨s, rfl, hs⟩
    · exact .none
    · exact .name hs
  have f : ∀ {x ts}, Fact x ts → Laid 1 x := by
    intro x ts h
    cases h with
    | nn k a n hk ha hn =>
      refine .tuple fun d hd => ?_
      simp only [List.mem_cons, List.not_mem_nil, or_false] at hd
      rcases hd with rfl | rfl | rfl
      · exact lt (k5_tok _ hk)
      · exact .name ha
      · exact .int _
    | ah a b ha hb =>
      refine .tuple fun d hd => ?_
      simp only [List.mem_cons, List.not_mem_nil, or_false] at hd
      rcases hd with rfl | rfl | rfl
      · exact lt (tok_of (by decide +kernel))
      · exact .name ha
      · exact .name hb
    | no k a p hk ha hp =>
      refine .tuple fun d hd => ?_
      simp only [List.mem_cons, List.not_mem_nil, or_false] at hd
      rcases hd with rfl | rfl | rfl
      · exact lt (k2_tok _ hk)
      · exact .name ha
      · exact lo hp
    | fe n hn =>
      refine .tuple fun d hd => ?_
      simp only [List.mem_cons, List.not_mem_nil, or_false] at hd
      rcases hd with rfl | rfl
      · exact lt (tok_of (by decide +kernel))
      · exact .int _
    | en a ha =>
      refine .tuple fun d hd => ?_
      simp only [List.mem_cons, List.not_mem_nil, or_false] at hd
      rcases hd with rfl | rfl
      · exact lt (tok_of (by decide +kernel))
      · exact .name ha
  intro n
  induction n with
  | zero => intro x ts c h; exact f h.1
  | succ n ih =>
    intro x ts c h
    rcases h with ⟨h, _⟩ | ⟨y, us, rfl, rfl, h⟩ | ⟨j, qs, h2, h4, rfl, rfl, rfl, h⟩
    · exact (f h).mono (by omega)
    · refine .tuple fun d hd => ?_
      rcases List.mem_cons.mp hd with rfl | hd
      · exact (lt (tok_of (by decide +kernel))).mono (by omega)
      · rw [List.mem_singleton.mp hd]
        exact ih h
    · refine .tuple fun d hd => ?_
      rcases List.mem_cons.mp hd with rfl | hd
      · exact (lt (jn_tok j)).mono (by omega)
      · obtain ⟨q, hq, rfl⟩ := List.mem_map.mp hd
        exact ih (h q hq)
end L2.DD

set_option maxRecDepth 100000
set_option maxHeartbeats 4000000
namespace L2.DD
open PySem PySem.Spec PyProof.Rows
def lenL : List (Str × Option PyData) := [("did", some (.int 3)), ("ahead", some (.int 3)), ("asked", some (.int 3)), ("was", some (.int 3)), ("is", some (.int 3)), ("by", some (.int 3)), ("at", some (.int 3)), ("fell", some (.int 2)), ("spilt", some (.int 3)), ("ended", some (.int 2)), ("not", none), ("and", none), ("or", none)]
def tNN : PyData := .tuple [.str "name", .str "number"]
def facL : List (Str × Option PyData) := [("did", some tNN), ("ahead", some (.tuple [.str "name", .str "name"])), ("asked", some tNN), ("was", some tNN), ("is", some tNN), ("by", some (.tuple [.str "name", .str "none"])), ("at", some (.tuple [.str "name", .str "none"])), ("fell", some (.tuple [.str "number"])), ("spilt", some tNN), ("ended", some (.tuple [.str "name"])), ("not", none), ("and", none), ("or", none)]
def joinL : List PyData := [.str "and", .str "or"]
theorem k5_tab : ∀ k ∈ k5, tabOf lenL k = some (some (.int 3)) ∧ tabOf facL k = some (some tNN) ∧ PyData.eqv (.str k) (.str "not") = false ∧ inD (.str k) joinL = false := by
  intro k hk
  simp only [k5, List.mem_cons, List.not_mem_nil, or_false] at hk
  rcases hk with rfl | rfl | rfl | rfl | rfl <;> exact ⟨rfl, rfl, rfl, rfl⟩
theorem k2_tab : ∀ k ∈ k2, tabOf lenL k = some (some (.int 3)) ∧ tabOf facL k = some (some (.tuple [.str "name", .str "none"])) ∧ PyData.eqv (.str k) (.str "not") = false ∧ inD (.str k) joinL = false := by
  intro k hk
  simp only [k2, List.mem_cons, List.not_mem_nil, or_false] at hk
  rcases hk with rfl | rfl <;> exact ⟨rfl, rfl, rfl, rfl⟩
theorem jn_tab (j : Bool) : tabOf lenL (jn j) = some none ∧ tabOf facL (jn j) = some none ∧ PyData.eqv (.str (jn j)) (.str "not") = false ∧ inD (.str (jn j)) joinL = true := by
  cases j <;> exact ⟨rfl, rfl, rfl, rfl⟩
/-- how a part of a fact is written -/
def partS (x : PyData) : Str := match x with
  | .none => "-"
  | .str s => s
  | .int i => (toString i : Str)
  | _ => ""
def partOk (x : PyData) : Prop := x = .none ∨ (∃ s : Str, x = .str s) ∨ ∃ n : Nat, n < 1000 ∧ x = .int (n : Int)
structure FactIs (x : PyData) (ts : List Str) (k : Str) (ps : List PyData) : Prop where
  ex : x = .tuple (.str k :: ps)
  et : ts = k :: ps.map partS
  ok : ∀ p ∈ ps, partOk p
  le : ps.length ≤ 2
  l : ∃ d, tabOf lenL k = some (some d)
  f : ∃ d, tabOf facL k = some (some d)
  n : PyData.eqv (.str k) (.str "not") = false
  j : inD (.str k) joinL = false
theorem Fact.is {x : PyData} {ts : List Str} (h : Fact x ts) : ∃ k ps, FactIs x ts k ps := by
  cases h with
  | nn k a n hk ha hn =>
    obtain ⟨e1, e2, e3, e4⟩ := k5_tab k hk
    refine ⟨k, _, rfl, rfl, fun p hp => ?_, by simp, ⟨_, e1⟩, ⟨_, e2⟩, e3, e4⟩
    simp only [List.mem_cons, List.not_mem_nil, or_false] at hp
    rcases hp with rfl | rfl
    · exact .inr (.inl ⟨_, rfl⟩)
    · exact .inr (.inr ⟨_, hn, rfl⟩)
  | ah a b ha hb =>
    refine ⟨_, _, rfl, rfl, fun p hp => ?_, by simp, ⟨_, rfl⟩, ⟨_, rfl⟩, rfl, rfl⟩
    simp only [List.mem_cons, List.not_mem_nil, or_false] at hp
    rcases hp with rfl | rfl <;> exact .inr (.inl ⟨_, rfl⟩)
  | no k a p hk ha hp =>
    obtain ⟨e1, e2, e3, e4⟩ := k2_tab k hk
    have key : showN p ("-" : String) = partS p ∧ partOk p := by
      rcases name_cases hp with rfl | ⟨s, rfl, hs⟩
      · exact ⟨rfl, .inl rfl⟩
      · exact ⟨rfl, .inr (.inl ⟨_, rfl⟩)⟩
    refine ⟨k, [.str a, p], rfl, by rw [key.1]; rfl, fun p' hp => ?_, by simp, ⟨_, e1⟩, ⟨_, e2⟩, e3, e4⟩
    simp only [List.mem_cons, List.not_mem_nil, or_false] at hp
    rcases hp with rfl | rfl
    · exact .inr (.inl ⟨_, rfl⟩)
    · exact key.2
  | fe n hn =>
    refine ⟨_, _, rfl, rfl, fun p hp => ?_, by simp, ⟨_, rfl⟩, ⟨_, rfl⟩, rfl, rfl⟩
    simp only [List.mem_cons, List.not_mem_nil, or_false] at hp
    rcases hp with rfl
    exact .inr (.inr ⟨_, hn, rfl⟩)
  | en a ha =>
    refine ⟨_, _, rfl, rfl, fun p hp => ?_, by simp, ⟨_, rfl⟩, ⟨_, rfl⟩, rfl, rfl⟩
    simp only [List.mem_cons, List.not_mem_nil, or_false] at hp
    rcases hp with rfl
    exact .inr (.inl ⟨_, rfl⟩)
inductive QCase (n : Nat) (x : PyData) (ts : List Str) (c : Nat) : Prop
  | fact : Fact x ts → c = 1 → QCase n x ts c
  | not (m : Nat) (y : PyData) (us : List Str) : n = m + 1 → x = .tuple [.str ("not" : Str), y] → ts = ("not" : Str) :: us → QT m y us c → QCase n x ts c
  | join (m : Nat) (j : Bool) (qs : List Qp) : n = m + 1 → 2 ≤ qs.length → qs.length ≤ 4 → x = .tuple (.str (jn j) :: qs.map fun q => q.1) → ts = jn j :: numS qs.length :: (qs.map fun q => q.2.1).flatten →
      c = (qs.map fun q => q.2.2).sum → (∀ q ∈ qs, QT m q.1 q.2.1 q.2.2) → QCase n x ts c
theorem QT.cases : ∀ {n : Nat} {x : PyData} {ts : List Str} {c : Nat}, QT n x ts c → QCase n x ts c
  | 0, _, _, _, ⟨a, b⟩ => .fact a b
  | n + 1, _, _, _, h => by
    rcases h with ⟨a, b⟩ | ⟨y, us, e1, e2, h⟩ | ⟨j, qs, h2, h4, e1, e2, e3, h⟩
    · exact .fact a b
    · exact .not n y us rfl e1 e2 h
    · exact .join n j qs rfl h2 h4 e1 e2 e3 h
theorem cut_tail (a : PyData) (l : List PyData) : cutD (a :: l) (some 1) none = l := by
  unfold cutD
  have h1 : HT.sIx (a :: l).length 0 (some 1) = 1 := by
    unfold HT.sIx
    simp
  have h2 : HT.sIx (a :: l).length (a :: l).length none = (a :: l).length := rfl
  rw [h1, h2]
  simp
theorem le_sum : ∀ {l : List Nat} {a : Nat}, a ∈ l → a ≤ l.sum
  | b :: l, a, h => by
    rw [List.sum_cons]
    rcases List.mem_cons.mp h with rfl | h
    · omega
    · have := le_sum h
      omega
theorem allData_0 : ∀ l : List PyData, allData (l.map Dv.d ++ []) = some l
  | [] => rfl
  | a :: l => by
    show (allData (l.map Dv.d ++ [])).map (a :: ·) = _
    rw [allData_0 l]
    rfl
theorem allData_1 (x : PyData) (l : List PyData) : allData (.d x :: (l.map Dv.d ++ [])) = some (x :: l) := by
  show (allData (l.map Dv.d ++ [])).map (x :: ·) = _
  rw [allData_0 l]
  rfl
theorem allData_2 (x y : PyData) (l : List PyData) : allData (.d x :: .d y :: (l.map Dv.d ++ [])) = some (x :: y :: l) := by
  show (allData (.d y :: (l.map Dv.d ++ []))).map (x :: ·) = _
  rw [allData_1 y l]
  rfl
theorem ix_head (a : PyData) (l : List PyData) : ixD (.d (.tuple (a :: l))) 0 = some a := atI_nat (xs := a :: l) (j := 0) (v := a) rfl
section
variable {S : Type}
/-- each turn gives one value, told of what it comes of -/
theorem lcW_map2 {α : Type} {i : Nat} {e : En → Wp S Dv} {env0 : En} (g : α → PyData) (f : α → PyData) : ∀ (as : List α) (acc : List PyData) (R : List PyData → S → Prop) (s : S), acc.length + as.length ≤ sizeLine →
    (∀ a ∈ as, ∀ R s, R (.d (f a)) s → e (env0.set i (some (.v (.d (g a))))) R s) → R (acc ++ as.map f) s → lcW (gSet i) tAll e env0 (as.map fun a => Dv.d (g a)) acc R s
  | [], acc, R, s, _, _, q => by rw [List.map_nil, List.append_nil] at q; exact q
  | a :: as, acc, R, s, hl, h, q => by
    rw [List.length_cons] at hl
    refine h a List.mem_cons_self _ s ⟨f a, rfl, (by show acc.length < sizeLine; omega), ?_⟩
    refine lcW_map2 g f as (acc ++ [f a]) R s (by rw [List.length_append]; simp; omega) (fun b hb => h b (List.mem_cons_of_mem _ hb)) ?_
    rw [List.append_assoc]
    exact q
theorem lcW_map3 {α : Type} {g : Dv → En → Wp S En} {e : En → Wp S Dv} {env0 : En} (h : α → Dv) (f : α → PyData) : ∀ (as : List α) (acc : List PyData) (R : List PyData → S → Prop) (s : S), acc.length + as.length ≤ sizeLine →
    (∀ a ∈ as, ∀ R s, R (.d (f a)) s → g (h a) env0 (fun env2 s2 => e env2 R s2) s) → R (acc ++ as.map f) s → lcW g tAll e env0 (as.map h) acc R s
  | [], acc, R, s, _, _, q => by rw [List.map_nil, List.append_nil] at q; exact q
  | a :: as, acc, R, s, hl, hh, q => by
    rw [List.length_cons] at hl
    refine hh a List.mem_cons_self _ s ⟨f a, rfl, (by show acc.length < sizeLine; omega), ?_⟩
    refine lcW_map3 h f as (acc ++ [f a]) R s (by rw [List.length_append]; simp; omega) (fun b hb => hh b (List.mem_cons_of_mem _ hb)) ?_
    rw [List.append_assoc]
    exact q
theorem lc2W_flat {α : Type} {i j : Nat} {wi : En → Wp S (List Dv)} {e : En → Wp S Dv} {env0 : En} {vs1 : List Nat} (f : α → PyData) (cnt : α → Nat) : ∀ (ys : List α) (acc : List PyData) (R : List PyData → S → Prop) (s : S),
    acc.length + (ys.map cnt).sum ≤ sizeLine →
    (∀ y ∈ ys, noOwn (env0.set i (some (.v (.d (f y))))) = true ∧ ∀ R s, (∀ l : List PyData, l.length = cnt y → R (l.map Dv.d) s) → wi (env0.set i (some (.v (.d (f y))))) R s) →
    (∀ y ∈ ys, ∀ d R s, R (.d d) s → e ((wipeE (env0.set i (some (.v (.d (f y))))) vs1).set j (some (.v (.d d)))) R s) →
    (∀ l : List PyData, l.length = (ys.map cnt).sum → R (acc ++ l) s) →
    lc2W (gSet i) tAll wi (gSet j) tAll e vs1 env0 (ys.map fun a => Dv.d (f a)) acc R s
  | [], acc, R, s, _, _, _, q => by
    have := q [] rfl
    rw [List.append_nil] at this
    exact this
  | y :: ys, acc, R, s, hl, hw, he, q => by
    obtain ⟨h1, h2⟩ := hw y List.mem_cons_self
    refine ⟨h1, ?_⟩
    refine h2 _ s fun l el => ?_
    rw [List.map_cons, List.sum_cons] at hl
    have inner : ∀ (l' acc' : List PyData) (R' : List PyData → S → Prop), acc'.length + l'.length ≤ sizeLine → R' (acc' ++ l') s → lcW (gSet j) tAll e (wipeE (env0.set i (some (.v (.d (f y))))) vs1) (l'.map Dv.d) acc' R' s := by
      intro l'
      induction l' with
      | nil => intro acc' R' _ h; rw [List.append_nil] at h; exact h
      | cons d l' ih =>
        intro acc' R' hl h
        rw [List.length_cons] at hl
        refine he y List.mem_cons_self d _ s ⟨d, rfl, (by show acc'.length < sizeLine; omega), ?_⟩
        refine ih (acc' ++ [d]) R' (by rw [List.length_append]; simp; omega) ?_
        rw [List.append_assoc]
        exact h
    refine inner l acc _ (by omega) ?_
    refine lc2W_flat f cnt ys (acc ++ l) R s (by rw [List.length_append]; omega) (fun z hz => hw z (List.mem_cons_of_mem _ hz)) (fun z hz => he z (List.mem_cons_of_mem _ hz)) fun l2 e2 => ?_
    rw [List.append_assoc]
    refine q (l ++ l2) ?_
    rw [List.length_append, List.map_cons, List.sum_cons, el, e2]
end
/-! ### parts of facts, read -/
def partIn (f w : Str) : List PyData := if PyData.eqv (.str f) (.str "number") = true then numIn w else nameIn w (if PyData.eqv (.str f) (.str "none") = true then .str "-" else .none)
abbrev Fe := Str × Str × PyData
structure FactAs (x : PyData) (ts : List Str) (k : Str) (l : List Fe) : Prop where
  ex : x = .tuple (.str k :: l.map fun e => e.2.2)
  et : ts = k :: l.map fun e => e.2.1
  f : tabOf facL k = some (some (.tuple (l.map fun e => .str e.1)))
  n : tabOf lenL k = some (some (.int ((l.length : Int) + 1)))
  p : ∀ e ∈ l, partIn e.1 e.2.1 = [e.2.2] ∧ e.2.1.length ≤ L6 ∧ Laid 0 e.2.2
  le : l.length ≤ 2
theorem name_in1 {a : Str} (h : isName a = true) : nameIn a .none = [.str a] := by
  show (if PyData.eqv (.str a) .none = true then _ else if isName a = true then _ else _) = _
  rw [if_neg (by rw [show PyData.eqv (.str a) .none = false from rfl]; exact Bool.false_ne_true), if_pos h]
theorem fe_name {a : Str} (h : isName a = true) : partIn "name" a = [.str a] ∧ a.length ≤ L6 ∧ Laid 0 (.str a) := ⟨name_in1 h, Nat.le_trans (isName_len h).2 (by decide), .name h⟩
theorem fe_num {n : Nat} (h : n < 1000) : partIn "number" (numS n) = [.int (n : Int)] ∧ (numS n).length ≤ L6 ∧ Laid 0 (.int (n : Int)) := ⟨(num_ok h).1, Nat.le_trans (num_ok h).2.2.1 (by decide), .int _⟩
theorem fe_opt {p : PyData} (h : nameOrNone p = true) : partIn "none" (showN p ("-" : String)) = [p] ∧ (showN p ("-" : String)).length ≤ L6 ∧ Laid 0 p := by
  refine ⟨(name_back (n := ("-" : String)) (s := 45) h (by decide +kernel) (by decide) (by decide) (by decide)).1, Nat.le_trans (showN_len (n := ("-" : String)) h rfl) (by decide), ?_⟩
  rcases name_cases h with rfl | ⟨s, rfl, hs⟩
  · exact .none
  · exact .name hs
theorem Fact.as {x : PyData} {ts : List Str} (h : Fact x ts) : ∃ k l, FactAs x ts k l := by
  cases h with
  | nn k a n hk ha hn =>
    obtain ⟨e1, e2, e3, e4⟩ := k5_tab k hk
    refine ⟨k, [("name", a, .str a), ("number", numS n, .int (n : Int))], rfl, rfl, e2, e1, fun e he => ?_, by simp⟩
    simp only [List.mem_cons, List.not_mem_nil, or_false] at he
    rcases he with rfl | rfl
    · exact fe_name ha
    · exact fe_num hn
  | ah a b ha hb =>
    refine ⟨_, [("name", a, .str a), ("name", b, .str b)], rfl, rfl, rfl, rfl, fun e he => ?_, by simp⟩
    simp only [List.mem_cons, List.not_mem_nil, or_false] at he
    rcases he with rfl | rfl
    · exact fe_name ha
    · exact fe_name hb
  | no k a p hk ha hp =>
    obtain ⟨e1, e2, e3, e4⟩ := k2_tab k hk
    refine ⟨k, [("name", a, .str a), ("none", showN p ("-" : String), p)], rfl, rfl, e2, e1, fun e he => ?_, by simp⟩
    simp only [List.mem_cons, List.not_mem_nil, or_false] at he
    rcases he with rfl | rfl
    · exact fe_name ha
    · exact fe_opt hp
  | fe n hn =>
    refine ⟨_, [("number", numS n, .int (n : Int))], rfl, rfl, rfl, rfl, fun e he => ?_, by simp⟩
    simp only [List.mem_cons, List.not_mem_nil, or_false] at he
    rcases he with rfl
    exact fe_num hn
  | en a ha =>
    refine ⟨_, [("name", a, .str a)], rfl, rfl, rfl, rfl, fun e he => ?_, by simp⟩
    simp only [List.mem_cons, List.not_mem_nil, or_false] at he
    rcases he with rfl
    exact fe_name ha
theorem zipD_map {α : Type} (f g : α → PyData) : ∀ l : List α, zipD (l.map f) (l.map g) = l.map fun e => .d (.tuple [f e, g e])
  | [] => rfl
  | a :: l => by
    show _ :: zipD (l.map f) (l.map g) = _
    rw [zipD_map f g l]
    rfl
theorem cut_mid (pre : List PyData) (a : PyData) (mid post : List PyData) : cutD (pre ++ a :: (mid ++ post)) (some ((pre.length : Int) + 1)) (some ((pre.length : Int) + ((mid.length : Int) + 1))) = mid := by
  unfold cutD
  have hn : (pre ++ a :: (mid ++ post)).length = pre.length + 1 + mid.length + post.length := by simp; omega
  rw [hn, show ((pre.length : Int) + 1) = ((pre.length + 1 : Nat) : Int) by omega, show ((pre.length : Int) + ((mid.length : Int) + 1)) = ((pre.length + 1 + mid.length : Nat) : Int) by omega, HT.sIx_nat, HT.sIx_nat,
    show min (pre.length + 1) (pre.length + 1 + mid.length + post.length) = pre.length + 1 by omega, show min (pre.length + 1 + mid.length) (pre.length + 1 + mid.length + post.length) = pre.length + 1 + mid.length by omega]
  rw [show pre.length + 1 + mid.length - (pre.length + 1) = mid.length by omega, show pre ++ a :: (mid ++ post) = (pre ++ [a]) ++ (mid ++ post) by simp]
  rw [List.drop_append_of_le_length (by simp), show (pre ++ [a]).drop (pre.length + 1) = [] by rw [List.drop_eq_nil_of_le (by simp)], List.nil_append, List.take_append_of_le_length (Nat.le_refl _), List.take_length]
theorem ixL_mid {pre : List PyData} {a : PyData} {post : List PyData} : ixD (.d (.list (pre ++ a :: post))) (pre.length : Int) = some a := atI_nat (xs := pre ++ a :: post) (j := pre.length) (v := a) (by simp)
end L2.DD

set_option maxRecDepth 100000
set_option maxHeartbeats 4000000
/-! Maths of the texts of runs. -/
namespace L2.DD
open PySem PySem.Spec PyProof.Rows
inductive Step : PyData → List Str → Prop
  | do2 (h v : Nat) : h < 1000 → v < 1000 → Step (.tuple [.str "do", .int (h : Int), .int (v : Int)]) ["do", numS h, numS v]
  | do1 (h : Nat) : h < 1000 → Step (.tuple [.str "do", .int (h : Int), .none]) ["do", numS h]
  | wr (h : Nat) : h < 1000 → Step (.tuple [.str "write", .int (h : Int)]) ["write", numS h]
  | ag : Step (.tuple [.str "again"]) ["again"]
theorem Step.tok {x : PyData} {ts : List Str} (h : Step x ts) : (∀ t ∈ ts, Tok t) ∧ ts ≠ [] ∧ ts.length ≤ 3 := by
  cases h with
  | do2 h v hh hv =>
    refine ⟨fun t ht => ?_, by simp, by simp⟩
    simp only [List.mem_cons, List.not_mem_nil, or_false] at ht
    rcases ht with rfl | rfl | rfl
    · exact tok_of (by decide +kernel)
    · exact Tok.num hh
    · exact Tok.num hv
  | do1 h hh =>
    refine ⟨fun t ht => ?_, by simp, by simp⟩
    simp only [List.mem_cons, List.not_mem_nil, or_false] at ht
    rcases ht with rfl | rfl
    · exact tok_of (by decide +kernel)
    · exact Tok.num hh
  | wr h hh =>
    refine ⟨fun t ht => ?_, by simp, by simp⟩
    simp only [List.mem_cons, List.not_mem_nil, or_false] at ht
    rcases ht with rfl | rfl
    · exact tok_of (by decide +kernel)
    · exact Tok.num hh
  | ag =>
    refine ⟨fun t ht => ?_, by simp, by simp⟩
    rw [List.mem_singleton.mp ht]
    exact tok_of (by decide +kernel)
theorem joinL_has {S : List Nat} {c : Nat} : ∀ {ps : List (List Nat)} {p : List Nat}, p ∈ ps → c ∈ p → c ∈ TL.joinL S ps
  | [a], p, hp, hc => by rw [List.mem_singleton.mp hp] at hc; exact hc
  | a :: b :: r, p, hp, hc => by
    show c ∈ a ++ (S ++ TL.joinL S (b :: r))
    rcases List.mem_cons.mp hp with rfl | hp
    · exact List.mem_append.mpr (.inl hc)
    · exact List.mem_append.mpr (.inr (List.mem_append.mpr (.inr (joinL_has hp hc))))
theorem join_has {y : Str} {ps : List Str} {p : Str} {c : Nat} (hp : p ∈ ps) (hc : c ∈ TL.tl p) : c ∈ TL.tl (Txt.join y ps) := by
  rw [TL.join_eq, TL.tl_join]
  exact joinL_has (List.mem_map.mpr ⟨p, hp, rfl⟩) hc
/-- a letter stands in the text of a step -/
theorem Step.letter {x : PyData} {ts : List Str} (h : Step x ts) : ∃ c ∈ TL.tl (Txt.join sp1 ts), 97 ≤ c := by
  cases h with
  | do2 h v hh hv => exact ⟨100, join_has (p := ("do" : Str)) (by simp) (by decide +kernel), by decide⟩
  | do1 h hh => exact ⟨100, join_has (p := ("do" : Str)) (by simp) (by decide +kernel), by decide⟩
  | wr h hh => exact ⟨119, join_has (p := ("write" : Str)) (by simp) (by decide +kernel), by decide⟩
  | ag => exact ⟨97, join_has (p := ("again" : Str)) (by simp) (by decide +kernel), by decide⟩
theorem Step.shw {x : PyData} {ts : List Str} (h : Step x ts) : Shw 1 300 x := by
  have key : ∀ {ds : List PyData}, ds.length ≤ 3 → (∀ d ∈ ds, Shw 0 82 d) → Shw 1 300 (.tuple ds) := fun {ds} hl hd => by
    refine (Shw.tup (Shws.of hd)).mono (Nat.le_refl _) ?_
    have : (82 + 2) * ds.length ≤ 84 * 3 := Nat.mul_le_mul_left _ hl
    omega
  cases h with
  | do2 h v hh hv =>
    refine key (by simp) fun d hd => ?_
    simp only [List.mem_cons, List.not_mem_nil, or_false] at hd
    rcases hd with rfl | rfl | rfl
    · exact tok_shw (tok_of (by decide +kernel))
    · exact (nat_shw hh).mono (Nat.le_refl _) (by decide)
    · exact (nat_shw hv).mono (Nat.le_refl _) (by decide)
  | do1 h hh =>
    refine key (by simp) fun d hd => ?_
    simp only [List.mem_cons, List.not_mem_nil, or_false] at hd
    rcases hd with rfl | rfl | rfl
    · exact tok_shw (tok_of (by decide +kernel))
    · exact (nat_shw hh).mono (Nat.le_refl _) (by decide)
    · exact Shw.none.mono (Nat.le_refl _) (by decide)
  | wr h hh =>
    refine key (by simp) fun d hd => ?_
    simp only [List.mem_cons, List.not_mem_nil, or_false] at hd
    rcases hd with rfl | rfl
    · exact tok_shw (tok_of (by decide +kernel))
    · exact (nat_shw hh).mono (Nat.le_refl _) (by decide)
  | ag =>
    refine key (by simp) fun d hd => ?_
    rw [List.mem_singleton.mp hd]
    exact tok_shw (tok_of (by decide +kernel))
theorem Step.laid {x : PyData} {ts : List Str} (h : Step x ts) : Laid 1 x := by
  have lt : ∀ {t : Str}, Tok t → Laid 0 (.str t) := fun h => .str fun c hc => by have := h.sm c hc; omega
  cases h with
  | do2 h v hh hv =>
    refine .tuple fun d hd => ?_
    simp only [List.mem_cons, List.not_mem_nil, or_false] at hd
    rcases hd with rfl | rfl | rfl
    · exact lt (tok_of (by decide +kernel))
    · exact .int _
    · exact .int _
  | do1 h hh =>
    refine .tuple fun d hd => ?_
    simp only [List.mem_cons, List.not_mem_nil, or_false] at hd
    rcases hd with rfl | rfl | rfl
    · exact lt (tok_of (by decide +kernel))
    · exact .int _
    · exact .none
  | wr h hh =>
    refine .tuple fun d hd => ?_
    simp only [List.mem_cons, List.not_mem_nil, or_false] at hd
    rcases hd with rfl | rfl
    · exact lt (tok_of (by decide +kernel))
    · exact .int _
  | ag =>
    refine .tuple fun d hd => ?_
    rw [List.mem_singleton.mp hd]
    exact lt (tok_of (by decide +kernel))
theorem Step.small {x : PyData} {ts : List Str} (h : Step x ts) : (Txt.join sp1 ts).length ≤ 27 := by
  have e := h.tok
  have := words_len e.1
  omega
theorem Step.noSc {x : PyData} {ts : List Str} (h : Step x ts) : 59 ∉ TL.tl (Txt.join sp1 ts) := fun hm => by
  rcases join_mem hm with h1 | ⟨p, hp, h1⟩
  · rw [e32] at h1
    exact absurd (List.mem_singleton.mp h1) (by decide)
  · exact (h.tok.1 p hp).sc h1
abbrev Sp2 := PyData × List Str
abbrev sc2 : Str := ("; " : String)
theorem e59 : TL.tl sc2 = [59, 32] := by decide +kernel
def runT (ps : List Sp2) : Str := match ps with
  | [] => ("-" : String)
  | ps => Txt.join sc2 (ps.map fun p => Txt.join sp1 p.2)
def Steps (ps : List Sp2) : Prop := ps.length ≤ 6 ∧ ∀ p ∈ ps, Step p.1 p.2
def runX (ps : List Sp2) : PyData := .tuple (ps.map fun p => p.1)
theorem runT_eq {ps : List Sp2} (h : ps ≠ []) : runT ps = Txt.join sc2 (ps.map fun p => Txt.join sp1 p.2) := by
  cases ps with
  | nil => exact absurd rfl h
  | cons a r => rfl
theorem run_back {ps : List Sp2} (h : Steps ps) (hne : ps ≠ []) : Txt.split (runT ps) sc2 = ps.map fun p => Txt.join sp1 p.2 := by
  rw [runT_eq hne]
  refine TL.split_join (s := 59) (S := [32]) e59 (by decide +kernel) (by simpa using hne) fun p hp => ?_
  obtain ⟨q, hq, rfl⟩ := List.mem_map.mp hp
  exact (h.2 q hq).noSc
theorem run_len {ps : List Sp2} (h : Steps ps) : (runT ps).length ≤ 200 := by
  by_cases hne : ps = []
  · subst hne
    decide +kernel
  · rw [runT_eq hne]
    have := join_len_le sc2 (ps.map fun p => Txt.join sp1 p.2) 27 fun p hp => by
      obtain ⟨q, hq, rfl⟩ := List.mem_map.mp hp
      exact (h.2 q hq).small
    rw [List.length_map, show sc2.length = 2 from rfl] at this
    have h1 := h.1
    have : (27 + 2) * ps.length ≤ 29 * 6 := Nat.mul_le_mul_left _ h1
    omega
theorem run_sign {ps : List Sp2} (h : Steps ps) : ∀ c ∈ TL.tl (runT ps), c < 128 := by
  by_cases hne : ps = []
  · subst hne
    intro c hc
    rw [show TL.tl (runT []) = [45] by decide +kernel] at hc
    rw [List.mem_singleton.mp hc]
    decide
  · rw [runT_eq hne]
    intro c hc
    rcases join_mem hc with h1 | ⟨p, hp, h1⟩
    · rw [e59] at h1
      simp only [List.mem_cons, List.not_mem_nil, or_false] at h1
      omega
    · obtain ⟨q, hq, rfl⟩ := List.mem_map.mp hp
      exact words_sign (h.2 q hq).tok.1 c h1
theorem run_notDash {ps : List Sp2} (h : Steps ps) (hne : ps ≠ []) : PyData.eqv (.str (runT ps)) (.str ("-" : Str)) = false := by
  show (runT ps == ("-" : Str)) = false
  rw [beq_eq_false_iff_ne]
  intro e
  cases ps with
  | nil => exact absurd rfl hne
  | cons a r =>
    obtain ⟨c, hc, h97⟩ := (h.2 a List.mem_cons_self).letter
    have : c ∈ TL.tl (runT (a :: r)) := by
      rw [runT_eq hne]
      exact join_has (List.mem_map.mpr ⟨a, List.mem_cons_self, rfl⟩) hc
    rw [e, show TL.tl ("-" : Str) = [45] by decide +kernel] at this
    rw [List.mem_singleton.mp this] at h97
    omega
theorem run_ok {ps : List Sp2} (h : Steps ps) : reprOk (runX ps) := by
  refine (Shw.tup (Shws.of (n := 1) (k := 300) fun d hd => ?_)).ok (by decide) ?_
  · obtain ⟨q, hq, rfl⟩ := List.mem_map.mp hd
    exact (h.2 q hq).shw
  · rw [List.length_map]
    have h1 := h.1
    have : (300 + 2) * ps.length ≤ 302 * 6 := Nat.mul_le_mul_left _ h1
    exact Nat.le_trans (show _ ≤ 2000 by omega) (by decide)
theorem quest_ok {x : PyData} {ts : List Str} {c : Nat} (h : QT 4 x ts c) : reprOk x := h.shw.ok (by decide) (by decide +kernel)
theorem run_text {ps : List Sp2} (h : Steps ps) : reprOk (.str (runT ps)) := text_ok (run_sign h) (Nat.le_trans (run_len h) (by decide))
end L2.DD

set_option maxRecDepth 100000
set_option maxHeartbeats 4000000
namespace L2.DD
open PySem PySem.Spec PyProof.Rows
def top (i : Nat) : Stmt := PySem.Challenge.pw_loggedruns_k86_questions_and_runs_writte.main.body.getD i (.Pass ⟨0, 0, 0, 0⟩)
structure Tx (w : World) (K : PySem.W.Frag) (mg : Str → Option Value) : Prop where
  b0 : ∀ n ∈ (["isinstance", "str", "int", "len", "all", "zip", "tuple", "range", "repr", "abs", "max", "min"] : List Str), mg n = none
  c_LETTERS : ∃ t, mg "LETTERS" = some (.str lets t)
  c_LONGEST_NAME : ∃ t, mg "LONGEST_NAME" = some (.int 8 t)
  c_MOST_FACTS : ∃ t, mg "MOST_FACTS" = some (.int 4 t)
  c_MOST_AROUND : ∃ t, mg "MOST_AROUND" = some (.int 3 t)
  c_JOINERS : ∃ a, mg "JOINERS" = some (.ref a) ∧ ∀ G, DR K G (.ref a) (.tuple joinL)
  c_LENGTHS : ∃ a, mg "LENGTHS" = some (.ref a) ∧ KTd K w a (tabOf lenL)
  c_DIGITS : ∃ t, mg "DIGITS" = some (.str digs t)
  c_MOST_DIGITS : ∃ t, mg "MOST_DIGITS" = some (.int 3 t)
  c_FACTS : ∃ a, mg "FACTS" = some (.ref a) ∧ KTd K w a (tabOf facL)
abbrev s_LogError : Stmt := top 1
abbrev s_BadShown : Stmt := top 2
abbrev s_is_name : Stmt := top 6
abbrev s_facts_in : Stmt := top 12
abbrev s_number_in : Stmt := top 17
abbrev s_name_in : Stmt := top 18
abbrev s_show_question : Stmt := top 19
abbrev s_question_in : Stmt := top 20
abbrev s_question_at : Stmt := top 21
abbrev s_joined_at : Stmt := top 22
abbrev s_fact_at : Stmt := top 23
abbrev s_part_in : Stmt := top 24
abbrev s_show_step : Stmt := top 25
abbrev s_step_in : Stmt := top 26
abbrev s_show_run : Stmt := top 27
abbrev s_run_in : Stmt := top 28
abbrev s_the_one : Stmt := top 29
abbrev s_read_question : Stmt := top 30
abbrev s_read_run : Stmt := top 31
abbrev s__law_pot : Stmt := top 33
abbrev s__law_take : Stmt := top 34
abbrev s__law_of : Stmt := top 35
abbrev s__law_name : Stmt := top 36
abbrev s__law_count : Stmt := top 37
abbrev s__law_fact : Stmt := top 38
abbrev s__law_question : Stmt := top 39
abbrev s__law_question_text : Stmt := top 40
abbrev s__law_run : Stmt := top 41
abbrev s__law_run_text : Stmt := top 42
abbrev s__law_right : Stmt := top 43
abbrev s_law : Stmt := top 44
end L2.DD

set_option maxRecDepth 100000
set_option maxHeartbeats 4000000
namespace L2.DD
open PySem PySem.Spec PyProof.Rows

section
variable {P : Program} {w : World} {K : PySem.W.Frag} {mg : Str → Option Value} {base : Heap}
abbrev nm_is_name : List Str := ["value", "sign"]
theorem sc_is_name : FnScope nm_is_name ["value"] (defScope s_is_name) := ⟨rfl, rfl, rfl, by decide +kernel, rfl, by decide +kernel, by decide +kernel⟩
theorem ok_is_name (T : Tx w K mg) (D : Df K mg "is_name" s_is_name ["value"]) : DefOk P w K mg base 1 "is_name" ["value"] (spP K 1 m_is_name) := by
  have nd := sc_is_name.nd
  have t_all : mg "all" = none := T.b0 _ (by decide +kernel)
  have t_isinstance : mg "isinstance" = none := T.b0 _ (by decide +kernel)
  have t_len : mg "len" = none := T.b0 _ (by decide +kernel)
  have t_str : mg "str" = none := T.b0 _ (by decide +kernel)
  obtain ⟨z_LETTERS, c_LETTERS⟩ := T.c_LETTERS
  obtain ⟨z_LONGEST_NAME, c_LONGEST_NAME⟩ := T.c_LONGEST_NAME
  refine defP D sc_is_name (fun f cdv A outer s H E G0 hr => (dss_cons (ds_if (DW.dt (dw_or (dt_not (dt_truth (de_callB (cd_isi rfl) (by rfl) t_isinstance (by decide +kernel) (da_cons (dv 0) (da_cons (de_cls (T := "str") rfl (by rfl) t_str (by decide +kernel)) (da_nil rfl)))))) (dw_or1 (dt_not (dt_chain (od_le) (od_le) (de_int rfl) (de_callB (cd_len rfl) (by rfl) t_len (by decide +kernel) (da_cons (dv 0) (da_nil rfl))) (de_glob (v := V.int 8) (d := Dv.d (.int 8)) rfl (by rfl) c_LONGEST_NAME ⟨_, rfl⟩ (fun _ => .int _))))))) (dss_one (ds_ret (de_bl rfl))) (dss_nil rfl))
  (dss_one (ds_ret (de_callB (cd_all rfl rfl) (by rfl) t_all (by decide +kernel) (da_cons (de_f (df_lc (own := [("sign", 1)]) rfl nd (di_any (dv 0)) (blkOk_by (own := [("sign", 1)]) (N := nm_is_name) (sc := defScope s_is_name) (by decide +kernel)) (fun _ _ _ _ _ => (dg_name (i := 1) rfl nd rfl (by first | exact Or.inl rfl | exact Or.inr rfl))) (fun _ _ _ _ _ => dts_nil rfl) (fun _ _ _ _ _ => (de_cmp (od_in rfl (u65 hr)) (dv 1) (de_glob (v := V.str lets) (d := Dv.d (.str lets)) rfl (by rfl) c_LETTERS ⟨_, rfl⟩ (fun _ => .str _)) (by rfl))))) (da_nil rfl))))))) ?_
  intro ds d hl hm
  match ds, hm with
  | [.d x], hm =>
    cases x with
    | str z =>
      have hm : (if z.length ≤ L6 then some (Dv.d (.bool (isName z))) else none) = some d := hm
      split at hm
      · rename_i hz
        cases hm
        have hz2 : z.length ≤ sizeLine := Nat.le_trans hz (by decide)
        have hlen : lenD (.d (.str z)) = some z.length := if_pos hz2
        refine ⟨_, rfl, _, rfl, _, rfl, _, rfl, _, hlen, ?_⟩
        repeat (first | exact Or.inl rfl | refine ⟨Nat.le_of_ble_eq_true rfl, ?_⟩ | refine ⟨rfl, ?_⟩ | refine ⟨trivial, ?_⟩ | refine ⟨Or.inl rfl, ?_⟩ | refine ⟨_, rfl, ?_⟩)
        rw [show isName z = (decide (1 ≤ (z.length : Int)) && decide ((z.length : Int) ≤ 8) && z.cps.toList.all fun c => decide (c ∈ lets.cps.toList)) from rfl]
        cases h1 : decide (1 ≤ (z.length : Int)) with
        | false => repeat (first | exact Or.inl rfl | refine ⟨Nat.le_of_ble_eq_true rfl, ?_⟩ | refine ⟨rfl, ?_⟩ | refine ⟨trivial, ?_⟩ | refine ⟨Or.inl rfl, ?_⟩ | refine ⟨_, rfl, ?_⟩)
        | true =>
          repeat (first | exact Or.inl rfl | refine ⟨Nat.le_of_ble_eq_true rfl, ?_⟩ | refine ⟨rfl, ?_⟩ | refine ⟨trivial, ?_⟩ | refine ⟨Or.inl rfl, ?_⟩ | refine ⟨_, rfl, ?_⟩)
          cases h2 : decide ((z.length : Int) ≤ 8) with
          | false => repeat (first | exact Or.inl rfl | refine ⟨Nat.le_of_ble_eq_true rfl, ?_⟩ | refine ⟨rfl, ?_⟩ | refine ⟨trivial, ?_⟩ | refine ⟨Or.inl rfl, ?_⟩ | refine ⟨_, rfl, ?_⟩)
          | true =>
            repeat (first | exact Or.inl rfl | refine ⟨Nat.le_of_ble_eq_true rfl, ?_⟩ | refine ⟨rfl, ?_⟩ | refine ⟨trivial, ?_⟩ | refine ⟨Or.inl rfl, ?_⟩ | refine ⟨_, rfl, ?_⟩)
            refine lcW_mapV (i := 1) (fun x => match x with | .d (.str ⟨#[c]⟩) => .bool (decide (c ∈ lets.cps.toList)) | _ => .none) _ [] _ _ ?_ ?_ ?_
            · rw [signsOf_len]
              exact Nat.le_trans (show 0 + z.length ≤ L6 by omega) (by decide)
            · intro d hd R s h
              obtain ⟨c, hc, rfl⟩ := List.mem_map.mp hd
              exact ⟨_, rfl, c, rfl, by rw [tb]; exact h⟩
            · rw [List.nil_append]
              unfold signsOf
              rw [List.map_map]
              refine ⟨z.cps.toList.map fun c => decide (c ∈ lets.cps.toList), ?_, ?_⟩
              · rw [← boolsOf_map, List.map_map]
                rfl
              · refine Or.inl ?_
                rw [List.all_map]
                rfl
      · cases hm
    | _ => cases hm; repeat (first | exact Or.inl rfl | refine ⟨Nat.le_of_ble_eq_true rfl, ?_⟩ | refine ⟨rfl, ?_⟩ | refine ⟨trivial, ?_⟩ | refine ⟨Or.inl rfl, ?_⟩ | refine ⟨_, rfl, ?_⟩)

abbrev nm_number_in : List Str := ["word", "sign"]
theorem sc_number_in : FnScope nm_number_in ["word"] (defScope s_number_in) := ⟨rfl, rfl, rfl, by decide +kernel, rfl, by decide +kernel, by decide +kernel⟩
theorem ok_number_in (T : Tx w K mg) (D : Df K mg "number_in" s_number_in ["word"]) : DefOk P w K mg base 1 "number_in" ["word"] (spP K 1 m_number_in) := by
  have nd := sc_number_in.nd
  have t_all : mg "all" = none := T.b0 _ (by decide +kernel)
  have t_int : mg "int" = none := T.b0 _ (by decide +kernel)
  have t_len : mg "len" = none := T.b0 _ (by decide +kernel)
  obtain ⟨z_DIGITS, c_DIGITS⟩ := T.c_DIGITS
  obtain ⟨z_MOST_DIGITS, c_MOST_DIGITS⟩ := T.c_MOST_DIGITS
  refine defP D sc_number_in (fun f cdv A outer s H E G0 hr => (dss_cons (ds_if (DW.dt (dw_or (dt_not (dt_chain (od_le) (od_le) (de_int rfl) (de_callB (cd_len rfl) (by rfl) t_len (by decide +kernel) (da_cons (dv 0) (da_nil rfl))) (de_glob (v := V.int 3) (d := Dv.d (.int 3)) rfl (by rfl) c_MOST_DIGITS ⟨_, rfl⟩ (fun _ => .int _)))) (dw_or1 (dt_not (dt_truth (de_callB (cd_all rfl rfl) (by rfl) t_all (by decide +kernel) (da_cons (de_f (df_lc (own := [("sign", 1)]) rfl nd (di_any (dv 0)) (blkOk_by (own := [("sign", 1)]) (N := nm_number_in) (sc := defScope s_number_in) (by decide +kernel)) (fun _ _ _ _ _ => (dg_name (i := 1) rfl nd rfl (by first | exact Or.inl rfl | exact Or.inr rfl))) (fun _ _ _ _ _ => dts_nil rfl) (fun _ _ _ _ _ => (de_cmp (od_in rfl (u65 hr)) (dv 1) (de_glob (v := V.str digs) (d := Dv.d (.str digs)) rfl (by rfl) c_DIGITS ⟨_, rfl⟩ (fun _ => .str _)) (by rfl))))) (da_nil rfl)))))))) (dss_one (ds_ret (de_f (df_lst (da_nil rfl))))) (dss_nil rfl))
  (dss_one (ds_ret (de_if (DW.dt (dw_and (dt_cmp (od_eq rfl (u64 hr)) (de_ix (ixd_any rfl) (dv 0) (de_int rfl)) (de_str rfl) (nomark _)) (dw_and1 (dt_cmp (od_ne rfl (u64 hr)) (dv 0) (de_str rfl) (nomark _))))) (de_f (df_lst (da_nil rfl))) (de_f (df_lst (da_cons (de_callTy (cd_int) (by rfl) t_int (by decide +kernel) (da_cons (dv 0) (da_nil rfl))) (da_nil rfl))))))))) ?_
  intro ds d hl hm
  match ds, hm with
  | [.d (.str z)], hm =>
    have hm : (if z.length ≤ L6 then some (Dv.d (.list (numIn z))) else none) = some d := hm
    split at hm
    · rename_i hz
      cases hm
      have hlen : lenD (.d (.str z)) = some z.length := if_pos (Nat.le_trans hz (by decide))
      repeat (first | exact Or.inl rfl | refine ⟨Nat.le_of_ble_eq_true rfl, ?_⟩ | refine ⟨rfl, ?_⟩ | refine ⟨trivial, ?_⟩ | refine ⟨Or.inl rfl, ?_⟩ | refine ⟨_, hlen, ?_⟩ | refine ⟨_, rfl, ?_⟩)
      rw [show numIn z = (if (decide (1 ≤ (z.length : Int)) && decide ((z.length : Int) ≤ 3) && z.cps.toList.all fun c => decide (c ∈ digs.cps.toList)) = true then (if zeroLed z = true then [] else [.int (numVal z)]) else []) from rfl]
      cases h1 : decide (1 ≤ (z.length : Int)) with
      | false => repeat (first | exact Or.inl rfl | refine ⟨Nat.le_of_ble_eq_true rfl, ?_⟩ | refine ⟨rfl, ?_⟩ | refine ⟨trivial, ?_⟩ | refine ⟨Or.inl rfl, ?_⟩ | refine ⟨_, rfl, ?_⟩)
      | true =>
        repeat (first | exact Or.inl rfl | refine ⟨Nat.le_of_ble_eq_true rfl, ?_⟩ | refine ⟨rfl, ?_⟩ | refine ⟨trivial, ?_⟩ | refine ⟨Or.inl rfl, ?_⟩ | refine ⟨_, rfl, ?_⟩)
        cases h2 : decide ((z.length : Int) ≤ 3) with
        | false => repeat (first | exact Or.inl rfl | refine ⟨Nat.le_of_ble_eq_true rfl, ?_⟩ | refine ⟨rfl, ?_⟩ | refine ⟨trivial, ?_⟩ | refine ⟨Or.inl rfl, ?_⟩ | refine ⟨_, rfl, ?_⟩)
        | true =>
          repeat (first | exact Or.inl rfl | refine ⟨Nat.le_of_ble_eq_true rfl, ?_⟩ | refine ⟨rfl, ?_⟩ | refine ⟨trivial, ?_⟩ | refine ⟨Or.inl rfl, ?_⟩ | refine ⟨_, rfl, ?_⟩)
          refine lcW_mapV (i := 1) (fun x => match x with | .d (.str ⟨#[c]⟩) => .bool (decide (c ∈ digs.cps.toList)) | _ => .none) _ [] _ _ ?_ ?_ ?_
          · rw [signsOf_len]
            exact Nat.le_trans (show 0 + z.length ≤ L6 by omega) (by decide)
          · intro d hd R s h
            obtain ⟨c, hc, rfl⟩ := List.mem_map.mp hd
            exact ⟨_, rfl, c, rfl, by rw [tb]; exact h⟩
          · rw [List.nil_append]
            unfold signsOf
            rw [List.map_map]
            refine ⟨z.cps.toList.map fun c => decide (c ∈ digs.cps.toList), ?_, ?_⟩
            · rw [← boolsOf_map, List.map_map]
              rfl
            · repeat (first | exact Or.inl rfl | refine ⟨Nat.le_of_ble_eq_true rfl, ?_⟩ | refine ⟨rfl, ?_⟩ | refine ⟨trivial, ?_⟩ | refine ⟨Or.inl rfl, ?_⟩ | refine ⟨_, rfl, ?_⟩)
              rw [List.all_map, show (id ∘ fun c => decide (c ∈ digs.cps.toList)) = (fun c => decide (c ∈ digs.cps.toList)) from rfl]
              cases h3 : (z.cps.toList.all fun c => decide (c ∈ digs.cps.toList)) with
              | false => repeat (first | exact Or.inl rfl | refine ⟨Nat.le_of_ble_eq_true rfl, ?_⟩ | refine ⟨rfl, ?_⟩ | refine ⟨trivial, ?_⟩ | refine ⟨Or.inl rfl, ?_⟩ | refine ⟨_, rfl, ?_⟩)
              | true =>
                have hin : inDigits z = true := by unfold inDigits; rw [h1, h2, h3]; rfl
                obtain ⟨_, hne, _⟩ := inDigits_all hin
                obtain ⟨c, r, hc⟩ : ∃ c r, z.cps.toList = c :: r := by
                  cases e : z.cps.toList with
                  | nil => exact absurd e hne
                  | cons c r => exact ⟨c, r, rfl⟩
                have hix : ixD (.d (.str z)) 0 = some (.str ⟨#[c]⟩) := by
                  show (if z.length ≤ sizeLine then (atI z.cps.toList 0).map fun c => PyData.str ⟨#[c]⟩ else none) = _
                  rw [if_pos (Nat.le_trans hz (by decide)), hc]
                  rw [show atI (c :: r) 0 = some c from atI_nat (xs := c :: r) (j := 0) (v := c) rfl]
                  rfl
                have hzl : zeroLed z = (((⟨#[c]⟩ : Str) == ("0" : Str)) && !(z == ("0" : Str))) := by
                  unfold zeroLed
                  rw [hc]
                have hint := numVal_text hin
                rw [hzl]
                repeat (first | exact Or.inl rfl | refine ⟨Nat.le_of_ble_eq_true rfl, ?_⟩ | refine ⟨rfl, ?_⟩ | refine ⟨trivial, ?_⟩ | refine ⟨Or.inl rfl, ?_⟩ | refine ⟨_, hix, ?_⟩ | refine ⟨_, rfl, ?_⟩)
                cases e1 : PyData.eqv (.str ⟨#[c]⟩) (.str ("0" : Str)) with
                | false =>
                  rw [show ((⟨#[c]⟩ : Str) == ("0" : Str)) = false from e1]
                  repeat (first | exact Or.inl rfl | refine ⟨Nat.le_of_ble_eq_true rfl, ?_⟩ | refine ⟨rfl, ?_⟩ | refine ⟨trivial, ?_⟩ | refine ⟨Or.inl rfl, ?_⟩ | refine ⟨_, hint, ?_⟩ | refine ⟨_, rfl, ?_⟩)
                | true =>
                  rw [show ((⟨#[c]⟩ : Str) == ("0" : Str)) = true from e1]
                  repeat (first | exact Or.inl rfl | refine ⟨Nat.le_of_ble_eq_true rfl, ?_⟩ | refine ⟨rfl, ?_⟩ | refine ⟨trivial, ?_⟩ | refine ⟨Or.inl rfl, ?_⟩ | refine ⟨_, rfl, ?_⟩)
                  rw [show (z == ("0" : Str)) = PyData.eqv (.str z) (.str ("0" : Str)) from rfl]
                  cases PyData.eqv (.str z) (.str ("0" : Str)) <;> repeat (first | exact Or.inl rfl | refine ⟨Nat.le_of_ble_eq_true rfl, ?_⟩ | refine ⟨rfl, ?_⟩ | refine ⟨trivial, ?_⟩ | refine ⟨Or.inl rfl, ?_⟩ | refine ⟨_, hint, ?_⟩ | refine ⟨_, rfl, ?_⟩)
    · cases hm

abbrev nm_name_in : List Str := ["word", "none"]
theorem sc_name_in : FnScope nm_name_in ["word", "none"] (defScope s_name_in) := ⟨rfl, rfl, rfl, by decide +kernel, rfl, by decide +kernel, by decide +kernel⟩
theorem ok_name_in (T : Tx w K mg) (D : Df K mg "name_in" s_name_in ["word", "none"]) (G_is_name : DefOk P w K mg base 1 "is_name" ["value"] (spP K 1 m_is_name)) : DefOk P w K mg base 2 "name_in" ["word", "none"] (spP K 2 m_name_in) := by
  have nd := sc_name_in.nd
  refine defP D sc_name_in (fun f cdv A outer s H E G0 hr => (dss_cons (ds_if (dt_cmp (od_eq rfl (u64 hr)) (dv 0) (dv 1) (nomark _)) (dss_one (ds_ret (de_f (df_lst (da_cons (de_non rfl) (da_nil rfl)))))) (dss_nil rfl))
  (dss_one (ds_ret (de_if (dt_truth (dcP G_is_name hr (by rfl) (da_cons (dv 0) (da_nil rfl)))) (de_f (df_lst (da_cons (dv 0) (da_nil rfl)))) (de_f (df_lst (da_nil rfl)))))))) ?_
  intro ds d hl hm
  match ds, hm with
  | [.d (.str z), .d n], hm =>
    have hm : (if z.length ≤ L6 ∧ scalD (.str z) n = true then some (Dv.d (.list (nameIn z n))) else none) = some d := hm
    split at hm
    · rename_i hz
      obtain ⟨hz, hs⟩ := hz
      cases hm
      have hn : m_is_name [.d (.str z)] = some (.d (.bool (isName z))) := if_pos hz
      refine ⟨_, rfl, _, rfl, Or.inl hs, ?_⟩
      rw [show nameIn z n = (if PyData.eqv (.str z) n = true then [.none] else if isName z = true then [.str z] else []) from rfl]
      repeat (first | exact Or.inl rfl | refine ⟨Nat.le_of_ble_eq_true rfl, ?_⟩ | refine ⟨rfl, ?_⟩ | refine ⟨trivial, ?_⟩ | refine ⟨Or.inl rfl, ?_⟩ | refine ⟨_, rfl, ?_⟩)
      cases PyData.eqv (.str z) n with
      | true => repeat (first | exact Or.inl rfl | refine ⟨Nat.le_of_ble_eq_true rfl, ?_⟩ | refine ⟨rfl, ?_⟩ | refine ⟨trivial, ?_⟩ | refine ⟨Or.inl rfl, ?_⟩ | refine ⟨_, rfl, ?_⟩)
      | false =>
        repeat (first | exact Or.inl rfl | refine ⟨Nat.le_of_ble_eq_true rfl, ?_⟩ | refine ⟨rfl, ?_⟩ | refine ⟨trivial, ?_⟩ | refine ⟨Or.inl rfl, ?_⟩ | refine ⟨_, hn, ?_⟩ | refine ⟨_, rfl, ?_⟩)
        cases isName z <;> repeat (first | exact Or.inl rfl | refine ⟨Nat.le_of_ble_eq_true rfl, ?_⟩ | refine ⟨rfl, ?_⟩ | refine ⟨trivial, ?_⟩ | refine ⟨Or.inl rfl, ?_⟩ | refine ⟨_, rfl, ?_⟩)
    · cases hm

abbrev nm_the_one : List Str := ["found", "text"]
theorem sc_the_one : FnScope nm_the_one ["found", "text"] (defScope s_the_one) := ⟨rfl, rfl, rfl, by decide +kernel, rfl, by decide +kernel, by decide +kernel⟩
theorem ok_the_one (T : Tx w K mg) (D : Df K mg "the_one" s_the_one ["found", "text"]) : DefOk P w K mg base 1 "the_one" ["found", "text"] (spP K 2 m_the_one) := by
  have nd := sc_the_one.nd
  refine defP D sc_the_one (fun f cdv A outer s H E G0 hr => (dss_cons (ds_if (dt_not (dt_truth (dv 0))) (dss_one (ds_never rfl)) (dss_nil rfl))
  (dss_one (ds_ret (de_ix (ixd_any rfl) (dv 0) (de_int rfl)))))) ?_
  intro ds d hl hm
  match ds, hm with
  | [.d (.list (x :: r)), .d t], hm =>
    cases hm
    have hix : ixD (.d (.list (x :: r))) 0 = some x := first_at (l := x :: r) rfl
    repeat (first | exact Or.inl rfl | refine ⟨Nat.le_of_ble_eq_true rfl, ?_⟩ | refine ⟨rfl, ?_⟩ | refine ⟨trivial, ?_⟩ | refine ⟨Or.inl rfl, ?_⟩ | refine ⟨_, hix, ?_⟩ | refine ⟨_, rfl, ?_⟩)

end
end L2.DD

set_option maxRecDepth 100000
set_option maxHeartbeats 4000000
namespace L2.DD
open PySem PySem.Spec PyProof.Rows
section
variable {P : Program} {w : World} {K : PySem.W.Frag} {mg : Str → Option Value} {base : Heap}
def m_facts_in : Nat → List Dv → Wp Unit Dv
  | 0 => fun _ _ _ => False
  | n + 1 => fun ds R s => ∃ x ts c, ds = [.d x] ∧ QT n x ts c ∧ c ≤ 1000000 ∧ ∀ l : List PyData, l.length = c → R (.d (.list l)) s
abbrev nm_facts_in : List Str := ["question", "part", "fact"]
theorem sc_facts_in : FnScope nm_facts_in ["question"] (defScope s_facts_in) := ⟨rfl, rfl, rfl, by decide +kernel, rfl, by decide +kernel, by decide +kernel⟩
theorem ok_facts_in (T : Tx w K mg) (D : Df K mg "facts_in" s_facts_in ["question"]) {k n : Nat} (hk : 1 ≤ k) (G_facts_in : DefOk P w K mg base k "facts_in" ["question"] (spR K 1 (m_facts_in n))) : DefOk P w K mg base (k + 1) "facts_in" ["question"] (spR K 1 (m_facts_in (n + 1))) := by
  have nd := sc_facts_in.nd
  obtain ⟨z_LENGTHS, c_LENGTHS, x_LENGTHS⟩ := T.c_LENGTHS
  refine defR D sc_facts_in (fun f cdv A outer s H E G0 hr => (dss_cons (ds_if (dt_cmp (od_inT x_LENGTHS) (de_ix (ixd_any rfl) (dv 0) (de_int rfl)) (de_glob (v := V.ref z_LENGTHS) (d := Dv.o (.ref z_LENGTHS)) rfl (by rfl) c_LENGTHS rfl (fun _ => rfl)) (by rfl)) (dss_one (ds_ret (de_f (df_lst (da_cons (dv 0) (da_nil rfl)))))) (dss_nil rfl))
  (dss_one (ds_ret (de_f (df_lc2 (own := [("part", 1), ("fact", 2)]) (vs1 := [2]) rfl nd (di_any (de_slice (dv 0) (do_some (de_int rfl)) (do_none rfl))) (blkOk_by (own := [("part", 1), ("fact", 2)]) (N := nm_facts_in) (sc := defScope s_facts_in) (by decide +kernel)) (by decide) (fun _ _ _ _ _ => (dg_name (i := 1) rfl nd rfl (by first | exact Or.inl rfl | exact Or.inr rfl))) (fun _ _ _ _ _ => dts_nil rfl) (fun _ _ _ _ _ => (di_any (dcR G_facts_in hr (by rfl) (da_cons (dv 1) (da_nil rfl))))) (fun _ _ _ _ _ => (dg_name (i := 2) rfl nd rfl (by first | exact Or.inl rfl | exact Or.inr rfl))) (fun _ _ _ _ _ => dts_nil rfl) (fun _ _ _ _ _ => (dv 2)))))))) ?_
  rintro ds R hl ⟨x, ts, c, rfl, hq, hc, k⟩
  rcases hq.cases with ⟨hf, rfl⟩ | ⟨m, y, us, rfl, rfl, rfl, hq2⟩ | ⟨m, j, qs, rfl, h2, h4, rfl, rfl, rfl, hq2⟩
  · obtain ⟨kk, ps, h⟩ := hf.is
    obtain ⟨d, hd⟩ := h.l
    obtain rfl := h.ex
    have e0 : ixD (.d (.tuple (.str kk :: ps))) 0 = some (.str kk) := ix_head _ _
    repeat (first | exact Or.inl rfl | refine ⟨Nat.le_of_ble_eq_true rfl, ?_⟩ | refine ⟨rfl, ?_⟩ | refine ⟨trivial, ?_⟩ | refine ⟨Or.inl rfl, ?_⟩ | refine ⟨_, e0, ?_⟩ | refine ⟨_, hd, ?_⟩ | refine ⟨_, rfl, ?_⟩)
    exact Or.inl ⟨_, rfl, k _ rfl⟩
  · obtain ⟨l, hl⟩ : ∃ l : List PyData, l = [y] := ⟨_, rfl⟩
    rw [← hl]
    have e0 : ixD (.d (.tuple (.str ("not" : Str) :: l))) 0 = some (.str ("not" : Str)) := ix_head _ _
    repeat (first | exact Or.inl rfl | refine ⟨Nat.le_of_ble_eq_true rfl, ?_⟩ | refine ⟨rfl, ?_⟩ | refine ⟨trivial, ?_⟩ | refine ⟨Or.inl rfl, ?_⟩ | refine ⟨_, e0, ?_⟩ | refine ⟨_, rfl, ?_⟩)
    rw [cut_tail]
    subst hl
    refine lc2W_flat (i := 1) (j := 2) (fun z : PyData => z) (fun _ => c) [y] [] _ _ (by show 0 + (c + 0) ≤ sizeLine; exact Nat.le_trans (show _ ≤ 1000000 by omega) (by decide)) ?_ ?_ ?_
    · intro z hz
      rw [List.mem_singleton.mp hz]
      refine ⟨rfl, fun R s q => ?_⟩
      repeat (first | exact Or.inl rfl | refine ⟨Nat.le_of_ble_eq_true rfl, ?_⟩ | refine ⟨rfl, ?_⟩ | refine ⟨trivial, ?_⟩ | refine ⟨Or.inl rfl, ?_⟩ | refine ⟨_, rfl, ?_⟩)
      refine ⟨y, us, c, rfl, hq2, hc, fun l hl => ?_⟩
      exact ⟨_, rfl, q l hl⟩
    · intro z hz d R s q
      exact ⟨_, rfl, q⟩
    · intro l hl
      repeat (first | exact Or.inl rfl | refine ⟨Nat.le_of_ble_eq_true rfl, ?_⟩ | refine ⟨rfl, ?_⟩ | refine ⟨trivial, ?_⟩ | refine ⟨Or.inl rfl, ?_⟩ | refine ⟨_, rfl, ?_⟩)
      exact Or.inl ⟨_, rfl, k _ (by simpa using hl)⟩
  · have e0 : ixD (.d (.tuple (.str (jn j) :: qs.map fun q => q.1))) 0 = some (.str (jn j)) := ix_head _ _
    have hL := (jn_tab j).1
    repeat (first | exact Or.inl rfl | refine ⟨Nat.le_of_ble_eq_true rfl, ?_⟩ | refine ⟨rfl, ?_⟩ | refine ⟨trivial, ?_⟩ | refine ⟨Or.inl rfl, ?_⟩ | refine ⟨_, e0, ?_⟩ | refine ⟨_, hL, ?_⟩ | refine ⟨_, rfl, ?_⟩)
    rw [cut_tail]
    rw [List.map_map]
    refine lc2W_flat (i := 1) (j := 2) (fun q : Qp => q.1) (fun q => q.2.2) qs [] _ _ (by show 0 + _ ≤ sizeLine; rw [Nat.zero_add]; exact Nat.le_trans hc (by decide)) ?_ ?_ ?_
    · intro q hz
      refine ⟨rfl, fun R s h => ?_⟩
      repeat (first | exact Or.inl rfl | refine ⟨Nat.le_of_ble_eq_true rfl, ?_⟩ | refine ⟨rfl, ?_⟩ | refine ⟨trivial, ?_⟩ | refine ⟨Or.inl rfl, ?_⟩ | refine ⟨_, rfl, ?_⟩)
      refine ⟨q.1, q.2.1, q.2.2, rfl, hq2 q hz, Nat.le_trans (le_sum (List.mem_map.mpr ⟨q, hz, rfl⟩)) hc, fun l hl => ?_⟩
      exact ⟨_, rfl, h l hl⟩
    · intro z hz d R s q
      exact ⟨_, rfl, q⟩
    · intro l hl
      repeat (first | exact Or.inl rfl | refine ⟨Nat.le_of_ble_eq_true rfl, ?_⟩ | refine ⟨rfl, ?_⟩ | refine ⟨trivial, ?_⟩ | refine ⟨Or.inl rfl, ?_⟩ | refine ⟨_, rfl, ?_⟩)
      exact Or.inl ⟨_, rfl, k _ hl⟩
def m_show_question : Nat → List Dv → Wp Unit Dv
  | 0 => fun _ _ _ => False
  | n + 1 => fun ds R s => ∃ x ts c, ds = [.d x] ∧ QT n x ts c ∧ n ≤ 4 ∧ R (.d (.str (Txt.join sp1 ts))) s
theorem part_str {p : PyData} (h : partOk p) (hn : isNone (.d p) = false) : strD (.d p) = some (partS p) := by
  rcases h with rfl | ⟨s, rfl⟩ | ⟨n, hn2, rfl⟩
  · cases hn
  · rfl
  · exact num_str hn2
theorem strs_words (ts : List Str) : strsOf (ts.map PyData.str) = some ts := strsOf_map ts
theorem sum_tok : ∀ {ts : List Str}, (∀ t ∈ ts, Tok t) → (ts.map (·.length)).sum ≤ 8 * ts.length
  | [], _ => Nat.le_refl _
  | a :: l, h => by
    have ih := sum_tok (ts := l) fun t ht => h t (List.mem_cons_of_mem _ ht)
    have := (h a List.mem_cons_self).l8
    rw [List.map_cons, List.sum_cons, List.length_cons]
    omega
theorem qlen4 {n : Nat} (h : n ≤ 4) : qlen n ≤ 1100 := by
  match n, h with
  | 0, _ => decide
  | 1, _ => decide
  | 2, _ => decide
  | 3, _ => decide
  | 4, _ => decide
/-- the words of a question one by one, in texts -/
theorem QT.small {n : Nat} {x : PyData} {ts : List Str} {c : Nat} (h : QT n x ts c) (hn : n ≤ 4) : (Txt.join sp1 ts).length ≤ 10000 := by
  have e := h.tok
  have := words_len e.1
  have := qlen4 hn
  omega
theorem jn_size {ts : List Str} {k : Nat} (h : ∀ t ∈ ts, t.length ≤ 10000) (hl : ts.length ≤ k) (hk : k ≤ 100) : (ts.map (·.length)).sum + ts.length * sp1.length ≤ 16777216 := by
  have e := sum_len_le ts 10000 h
  have e2 : sp1.length = 1 := rfl
  rw [e2]
  omega
theorem flat_ne {n : Nat} {qs : List Qp} (h : ∀ q ∈ qs, QT n q.1 q.2.1 q.2.2) : ∀ ts ∈ qs.map (fun q => q.2.1), ts ≠ [] := fun ts hts => by
  obtain ⟨q, hq, rfl⟩ := List.mem_map.mp hts
  exact (QT.tok (h q hq)).2.1
theorem join_text {n : Nat} (j : Bool) {qs : List Qp} (h : ∀ q ∈ qs, QT n q.1 q.2.1 q.2.2) : Txt.join sp1 (jn j :: numS qs.length :: qs.map fun q => Txt.join sp1 q.2.1) = Txt.join sp1 (jn j :: numS qs.length :: (qs.map fun q => q.2.1).flatten) := by
  have := join_flat2 sp1 (jn j) (numS qs.length) (flat_ne h)
  rw [List.map_map] at this
  exact this
theorem not_text {us : List Str} (h : us ≠ []) : (Str.empty ++ (("not " : String) : Str) ++ Txt.join sp1 us) = Txt.join sp1 (("not" : Str) :: us) := by
  rw [join_cons sp1 _ h]
  refine TL.ext_tl ?_
  simp only [TL.tl_append, e32]
  rw [show TL.tl Str.empty = [] from rfl, show TL.tl ("not " : Str) = [110, 111, 116, 32] by decide +kernel, show TL.tl ("not" : Str) = [110, 111, 116] by decide +kernel]
  rfl
abbrev nm_show_question : List Str := ["question", "part"]
theorem sc_show_question : FnScope nm_show_question ["question"] (defScope s_show_question) := ⟨rfl, rfl, rfl, by decide +kernel, rfl, by decide +kernel, by decide +kernel⟩
theorem ok_show_question (T : Tx w K mg) (D : Df K mg "show_question" s_show_question ["question"]) {k n : Nat} (hk : 1 ≤ k) (G_show_question : DefOk P w K mg base k "show_question" ["question"] (spR K 1 (m_show_question n))) : DefOk P w K mg base (k + 1) "show_question" ["question"] (spR K 1 (m_show_question (n + 1))) := by
  have nd := sc_show_question.nd
  have t_len : mg "len" = none := T.b0 _ (by decide +kernel)
  have t_str : mg "str" = none := T.b0 _ (by decide +kernel)
  obtain ⟨z_JOINERS, c_JOINERS, x_JOINERS⟩ := T.c_JOINERS
  refine defR D sc_show_question (fun f cdv A outer s H E G0 hr => (dss_cons (ds_if (dt_cmp (od_eq rfl (u64 hr)) (de_ix (ixd_any rfl) (dv 0) (de_int rfl)) (de_str rfl) (nomark _)) (dss_one (ds_ret (de_joined (de_str rfl) (DJ.cons (de_fmt (dcR G_show_question hr (by rfl) (da_cons (de_ix (ixd_any rfl) (dv 0) (de_int rfl)) (da_nil rfl)))) DJ.nil)))) (dss_nil rfl))
  (dss_cons (ds_if (dt_cmp (od_in rfl (u65 hr)) (de_ix (ixd_any rfl) (dv 0) (de_int rfl)) (de_glob (v := V.ref z_JOINERS) (d := Dv.d (.tuple joinL)) rfl (by rfl) c_JOINERS rfl (fun G => x_JOINERS G)) (by rfl)) (dss_one (ds_ret (de_join (de_str rfl) (de_f (df_lst (da_cons (de_ix (ixd_any rfl) (dv 0) (de_int rfl)) (da_cons (de_callTy (cd_str) (by rfl) t_str (by decide +kernel) (da_cons (de_op (od_sub) (de_callB (cd_len rfl) (by rfl) t_len (by decide +kernel) (da_cons (dv 0) (da_nil rfl))) (de_int rfl)) (da_nil rfl))) (da_star (de_f (df_lc (own := [("part", 1)]) rfl nd (di_any (de_slice (dv 0) (do_some (de_int rfl)) (do_none rfl))) (blkOk_by (own := [("part", 1)]) (N := nm_show_question) (sc := defScope s_show_question) (by decide +kernel)) (fun _ _ _ _ _ => (dg_name (i := 1) rfl nd rfl (by first | exact Or.inl rfl | exact Or.inr rfl))) (fun _ _ _ _ _ => dts_nil rfl) (fun _ _ _ _ _ => (dcR G_show_question hr (by rfl) (da_cons (dv 1) (da_nil rfl)))))) (da_nil rfl))))))))) (dss_nil rfl))
  (dss_one (ds_ret (de_join (de_str rfl) (de_f (df_lst (da_cons (de_ix (ixd_any rfl) (dv 0) (de_int rfl)) (da_star (de_f (df_lc (own := [("part", 1)]) rfl nd (di_any (de_slice (dv 0) (do_some (de_int rfl)) (do_none rfl))) (blkOk_by (own := [("part", 1)]) (N := nm_show_question) (sc := defScope s_show_question) (by decide +kernel)) (fun _ _ _ _ _ => (dg_name (i := 1) rfl nd rfl (by first | exact Or.inl rfl | exact Or.inr rfl))) (fun _ _ _ _ _ => dts_nil rfl) (fun _ _ _ _ _ => (de_if (dt_cmp (od_is) (dv 1) (de_non rfl) (nomark _)) (de_str rfl) (de_callTy (cd_str) (by rfl) t_str (by decide +kernel) (da_cons (dv 1) (da_nil rfl))))))) (da_nil rfl))))))))))) ?_
  rintro ds R hl ⟨x, ts, c, rfl, hq, hn, k⟩
  rcases hq.cases with ⟨hf, rfl⟩ | ⟨m, y, us, rfl, rfl, rfl, hq2⟩ | ⟨m, j, qs, rfl, h2, h4, rfl, rfl, rfl, hq2⟩
  · obtain ⟨kk, ps, h⟩ := hf.is
    obtain rfl := h.ex
    have e0 : ixD (.d (.tuple (.str kk :: ps))) 0 = some (.str kk) := ix_head _ _
    have e1 := h.n
    have e2 := h.j
    have io : inOk (.str kk) joinL := Or.inl ⟨rfl, rfl⟩
    repeat (first | exact Or.inl rfl | refine ⟨Nat.le_of_ble_eq_true rfl, ?_⟩ | refine ⟨rfl, ?_⟩ | refine ⟨trivial, ?_⟩ | refine ⟨Or.inl rfl, ?_⟩ | refine ⟨_, e0, ?_⟩ | refine ⟨io, ?_⟩ | refine ⟨_, rfl, ?_⟩ | rw [e1])
    rw [show (true == inD (PyData.str kk) joinL) = false from by rw [e2]; rfl]
    repeat (first | exact Or.inl rfl | refine ⟨Nat.le_of_ble_eq_true rfl, ?_⟩ | refine ⟨rfl, ?_⟩ | refine ⟨trivial, ?_⟩ | refine ⟨Or.inl rfl, ?_⟩ | refine ⟨_, e0, ?_⟩ | refine ⟨_, rfl, ?_⟩)
    rw [cut_tail]
    refine lcW_map (i := 1) (fun p => .str (partS p)) _ [] _ _ ?_ ?_ ?_
    · have := h.le
      exact Nat.le_trans (show 0 + ps.length ≤ 2 by omega) (by decide)
    · intro d hd R s q
      have ok := h.ok d hd
      repeat (first | exact Or.inl rfl | refine ⟨Nat.le_of_ble_eq_true rfl, ?_⟩ | refine ⟨rfl, ?_⟩ | refine ⟨trivial, ?_⟩ | refine ⟨Or.inl rfl, ?_⟩ | refine ⟨_, rfl, ?_⟩)
      cases hN : isNone (.d d) with
      | true =>
        rcases ok with rfl | ⟨s, rfl⟩ | ⟨n, hn, rfl⟩
        · repeat (first | exact Or.inl rfl | refine ⟨Nat.le_of_ble_eq_true rfl, ?_⟩ | refine ⟨rfl, ?_⟩ | refine ⟨trivial, ?_⟩ | refine ⟨Or.inl rfl, ?_⟩ | refine ⟨_, rfl, ?_⟩)
          exact q
        · cases hN
        · cases hN
      | false =>
        have es := part_str ok hN
        repeat (first | exact Or.inl rfl | refine ⟨Nat.le_of_ble_eq_true rfl, ?_⟩ | refine ⟨rfl, ?_⟩ | refine ⟨trivial, ?_⟩ | refine ⟨Or.inl rfl, ?_⟩ | refine ⟨_, es, ?_⟩ | refine ⟨_, rfl, ?_⟩)
        exact q
    · rw [List.nil_append]
      have ee := h.et
      have ew : (PyData.str kk :: ps.map fun p => PyData.str (partS p)) = ts.map PyData.str := by
        rw [ee, List.map_cons, List.map_map]
        rfl
      have ht := hf.tok
      have al := allData_1 (.str kk) (ps.map fun p => PyData.str (partS p))
      have es : strsOf (PyData.str kk :: ps.map fun p => PyData.str (partS p)) = some ts := by rw [ew]; exact strs_words ts
      have hz : (ts.map (·.length)).sum + ts.length * sp1.length ≤ 16777216 := jn_size (k := 3) (fun t h => Nat.le_trans (ht.1 t h).l8 (by decide)) ht.2.2 (by decide)
      have hw : (PyData.str kk :: ps.map fun p => PyData.str (partS p)).length ≤ sizeLine := by
        rw [ew, List.length_map]
        exact Nat.le_trans ht.2.2 (by decide)
      repeat (first | exact Or.inl rfl | refine ⟨Nat.le_of_ble_eq_true rfl, ?_⟩ | refine ⟨rfl, ?_⟩ | refine ⟨trivial, ?_⟩ | refine ⟨Or.inl rfl, ?_⟩ | refine ⟨_, al, ?_⟩ | refine ⟨_, es, ?_⟩ | refine ⟨hz, ?_⟩ | refine ⟨hw, ?_⟩ | refine ⟨_, rfl, ?_⟩)
      exact Or.inl ⟨_, rfl, k⟩
  · obtain ⟨l, hl⟩ : ∃ l : List PyData, l = [y] := ⟨_, rfl⟩
    rw [← hl]
    have e0 : ixD (.d (.tuple (.str ("not" : Str) :: l))) 0 = some (.str ("not" : Str)) := ix_head _ _
    have e1 : ixD (.d (.tuple (.str ("not" : Str) :: l))) 1 = some y := by rw [hl]; rfl
    have ht := hq2.tok
    have hs := hq2.small (by omega)
    have f : m_show_question (m + 1) [.d y] (fun d _ => d = .d (.str (Txt.join sp1 us))) () := ⟨y, us, c, rfl, hq2, by omega, rfl⟩
    repeat (first | exact Or.inl rfl | refine ⟨Nat.le_of_ble_eq_true rfl, ?_⟩ | refine ⟨rfl, ?_⟩ | refine ⟨trivial, ?_⟩ | refine ⟨Or.inl rfl, ?_⟩ | refine ⟨_, e0, ?_⟩ | refine ⟨_, e1, ?_⟩ | refine ⟨_, rfl, ?_⟩)
    refine ⟨y, us, c, rfl, hq2, by omega, ?_⟩
    have en := not_text ht.2.1
    have hz : (Str.empty ++ (("not " : String) : Str) ++ Txt.join sp1 us).length ≤ sizeLine := by
      rw [en]
      exact Nat.le_trans (hq.small hn) (by decide)
    have hz2 : (Txt.join sp1 us).length ≤ sizeLine := Nat.le_trans hs (by decide)
    repeat (first | exact Or.inl rfl | refine ⟨Nat.le_of_ble_eq_true rfl, ?_⟩ | refine ⟨rfl, ?_⟩ | refine ⟨trivial, ?_⟩ | refine ⟨Or.inl rfl, ?_⟩ | refine ⟨_, if_pos hz2, ?_⟩ | refine ⟨hz, ?_⟩ | refine ⟨_, rfl, ?_⟩)
    rw [en]
    exact Or.inl ⟨_, rfl, k⟩
  · have e0 : ixD (.d (.tuple (.str (jn j) :: qs.map fun q => q.1))) 0 = some (.str (jn j)) := ix_head _ _
    have e1 := (jn_tab j).2.2.1
    have e2 := (jn_tab j).2.2.2
    have io : inOk (.str (jn j)) joinL := Or.inl ⟨rfl, rfl⟩
    repeat (first | exact Or.inl rfl | refine ⟨Nat.le_of_ble_eq_true rfl, ?_⟩ | refine ⟨rfl, ?_⟩ | refine ⟨trivial, ?_⟩ | refine ⟨Or.inl rfl, ?_⟩ | refine ⟨_, e0, ?_⟩ | refine ⟨io, ?_⟩ | refine ⟨_, rfl, ?_⟩ | rw [e1])
    rw [show (true == inD (PyData.str (jn j)) joinL) = true from by rw [e2]; rfl]
    have eln : lenD (.d (.tuple (.str (jn j) :: qs.map fun q => q.1))) = some (qs.length + 1) := by
      show some (List.length _) = _
      rw [List.length_cons, List.length_map]
    have es : strD (.d (.int (((qs.length + 1 : Nat) : Int) - 1))) = some (numS qs.length) := by
      rw [show (((qs.length + 1 : Nat) : Int) - 1) = (qs.length : Int) by omega]
      exact num_str (by omega)
    repeat (first | exact Or.inl rfl | refine ⟨Nat.le_of_ble_eq_true rfl, ?_⟩ | refine ⟨rfl, ?_⟩ | refine ⟨trivial, ?_⟩ | refine ⟨Or.inl rfl, ?_⟩ | refine ⟨_, e0, ?_⟩ | refine ⟨_, eln, ?_⟩ | refine ⟨_, es, ?_⟩ | refine ⟨_, rfl, ?_⟩)
    rw [cut_tail, List.map_map]
    refine lcW_map2 (i := 1) (fun q : Qp => q.1) (fun q => .str (Txt.join sp1 q.2.1)) qs [] _ _ ?_ ?_ ?_
    · exact Nat.le_trans (show 0 + qs.length ≤ 4 by omega) (by decide)
    · intro q hz R s h
      repeat (first | exact Or.inl rfl | refine ⟨Nat.le_of_ble_eq_true rfl, ?_⟩ | refine ⟨rfl, ?_⟩ | refine ⟨trivial, ?_⟩ | refine ⟨Or.inl rfl, ?_⟩ | refine ⟨_, rfl, ?_⟩)
      exact ⟨q.1, q.2.1, q.2.2, rfl, hq2 q hz, by omega, h⟩
    · rw [List.nil_append]
      have al := allData_2 (.str (jn j)) (.str (numS qs.length)) (qs.map fun q => PyData.str (Txt.join sp1 q.2.1))
      have ew : (PyData.str (jn j) :: .str (numS qs.length) :: qs.map fun q => PyData.str (Txt.join sp1 q.2.1)) = (jn j :: numS qs.length :: qs.map fun q => Txt.join sp1 q.2.1).map PyData.str := by
        rw [List.map_cons, List.map_cons, List.map_map]
        rfl
      have es : strsOf (PyData.str (jn j) :: .str (numS qs.length) :: qs.map fun q => PyData.str (Txt.join sp1 q.2.1)) = some (jn j :: numS qs.length :: qs.map fun q => Txt.join sp1 q.2.1) := by rw [ew]; exact strs_words _
      have hz : ((jn j :: numS qs.length :: qs.map fun q => Txt.join sp1 q.2.1).map (·.length)).sum + (jn j :: numS qs.length :: qs.map fun q => Txt.join sp1 q.2.1).length * sp1.length ≤ 16777216 := jn_size (k := 6) (fun t ht => by
        rcases List.mem_cons.mp ht with rfl | ht
        · exact Nat.le_trans (jn_tok j).l8 (by decide)
        · rcases List.mem_cons.mp ht with rfl | ht
          · exact Nat.le_trans (Tok.num (by omega)).l8 (by decide)
          · obtain ⟨q, hq, rfl⟩ := List.mem_map.mp ht
            exact (hq2 q hq).small (by omega)) (by simp; omega) (by decide)
      have hw : (PyData.str (jn j) :: .str (numS qs.length) :: qs.map fun q => PyData.str (Txt.join sp1 q.2.1)).length ≤ sizeLine := by
        rw [List.length_cons, List.length_cons, List.length_map]
        exact Nat.le_trans (show _ ≤ 6 by omega) (by decide)
      rw [← join_text j hq2] at k
      repeat (first | exact Or.inl rfl | refine ⟨Nat.le_of_ble_eq_true rfl, ?_⟩ | refine ⟨rfl, ?_⟩ | refine ⟨trivial, ?_⟩ | refine ⟨Or.inl rfl, ?_⟩ | refine ⟨_, al, ?_⟩ | refine ⟨_, es, ?_⟩ | refine ⟨hz, ?_⟩ | refine ⟨hw, ?_⟩ | refine ⟨_, rfl, ?_⟩)
      exact Or.inl ⟨_, rfl, k⟩

end
end L2.DD

set_option maxRecDepth 100000
set_option maxHeartbeats 4000000
namespace L2.DD
open PySem PySem.Spec PyProof.Rows
section
variable {P : Program} {w : World} {K : PySem.W.Frag} {mg : Str → Option Value} {base : Heap}
def m__law_question_text : Nat → List Dv → Wp Unit Dv := m_show_question
theorem not_text2 {us : List Str} (h : us ≠ []) : ((("not " : String) : Str) ++ Txt.join sp1 us) = Txt.join sp1 (("not" : Str) :: us) := by
  rw [join_cons sp1 _ h]
  refine TL.ext_tl ?_
  simp only [TL.tl_append, e32]
  rw [show TL.tl ("not " : Str) = [110, 111, 116, 32] by decide +kernel, show TL.tl ("not" : Str) = [110, 111, 116] by decide +kernel]
  rfl
abbrev nm__law_question_text : List Str := ["thing", "part"]
theorem sc__law_question_text : FnScope nm__law_question_text ["thing"] (defScope s__law_question_text) := ⟨rfl, rfl, rfl, by decide +kernel, rfl, by decide +kernel, by decide +kernel⟩
theorem ok__law_question_text (T : Tx w K mg) (D : Df K mg "_law_question_text" s__law_question_text ["thing"]) {k n : Nat} (hk : 1 ≤ k) (G__law_question_text : DefOk P w K mg base k "_law_question_text" ["thing"] (spR K 1 (m__law_question_text n))) : DefOk P w K mg base (k + 1) "_law_question_text" ["thing"] (spR K 1 (m__law_question_text (n + 1))) := by
  have nd := sc__law_question_text.nd
  have t_len : mg "len" = none := T.b0 _ (by decide +kernel)
  have t_str : mg "str" = none := T.b0 _ (by decide +kernel)
  refine defR D sc__law_question_text (fun f cdv A outer s H E G0 hr => (dss_cons (ds_if (dt_cmp (od_eq rfl (u64 hr)) (de_ix (ixd_any rfl) (dv 0) (de_int rfl)) (de_str rfl) (nomark _)) (dss_one (ds_ret (de_op (od_plus rfl) (de_str rfl) (dcR G__law_question_text hr (by rfl) (da_cons (de_ix (ixd_any rfl) (dv 0) (de_int rfl)) (da_nil rfl)))))) (dss_nil rfl))
  (dss_cons (ds_if (dt_cmp (od_in rfl (u65 hr)) (de_ix (ixd_any rfl) (dv 0) (de_int rfl)) (de_tup (da_cons (de_str rfl) (da_cons (de_str rfl) (da_nil rfl)))) (by rfl)) (dss_one (ds_ret (de_join (de_str rfl) (de_op (od_plus rfl) (de_f (df_lst (da_cons (de_ix (ixd_any rfl) (dv 0) (de_int rfl)) (da_cons (de_callTy (cd_str) (by rfl) t_str (by decide +kernel) (da_cons (de_op (od_sub) (de_callB (cd_len rfl) (by rfl) t_len (by decide +kernel) (da_cons (dv 0) (da_nil rfl))) (de_int rfl)) (da_nil rfl))) (da_nil rfl))))) (de_f (df_lc (own := [("part", 1)]) rfl nd (di_any (de_slice (dv 0) (do_some (de_int rfl)) (do_none rfl))) (blkOk_by (own := [("part", 1)]) (N := nm__law_question_text) (sc := defScope s__law_question_text) (by decide +kernel)) (fun _ _ _ _ _ => (dg_name (i := 1) rfl nd rfl (by first | exact Or.inl rfl | exact Or.inr rfl))) (fun _ _ _ _ _ => dts_nil rfl) (fun _ _ _ _ _ => (dcR G__law_question_text hr (by rfl) (da_cons (dv 1) (da_nil rfl)))))))))) (dss_nil rfl))
  (dss_one (ds_ret (de_join (de_str rfl) (de_f (df_lc (own := [("part", 1)]) rfl nd (di_any (dv 0)) (blkOk_by (own := [("part", 1)]) (N := nm__law_question_text) (sc := defScope s__law_question_text) (by decide +kernel)) (fun _ _ _ _ _ => (dg_name (i := 1) rfl nd rfl (by first | exact Or.inl rfl | exact Or.inr rfl))) (fun _ _ _ _ _ => dts_nil rfl) (fun _ _ _ _ _ => (de_if (dt_cmp (od_is) (dv 1) (de_non rfl) (nomark _)) (de_str rfl) (de_callTy (cd_str) (by rfl) t_str (by decide +kernel) (da_cons (dv 1) (da_nil rfl))))))))))))) ?_
  rintro ds R hl ⟨x, ts, c, rfl, hq, hn, k⟩
  rcases hq.cases with ⟨hf, rfl⟩ | ⟨m, y, us, rfl, rfl, rfl, hq2⟩ | ⟨m, j, qs, rfl, h2, h4, rfl, rfl, rfl, hq2⟩
  · obtain ⟨kk, ps, h⟩ := hf.is
    obtain rfl := h.ex
    have e0 : ixD (.d (.tuple (.str kk :: ps))) 0 = some (.str kk) := ix_head _ _
    have e1 := h.n
    have e2 := h.j
    have io : inOk (.str kk) joinL := Or.inl ⟨rfl, rfl⟩
    have io2 : inOk (.str kk) [PyData.str "and", PyData.str "or"] := io
    repeat (first | exact Or.inl rfl | refine ⟨Nat.le_of_ble_eq_true rfl, ?_⟩ | refine ⟨rfl, ?_⟩ | refine ⟨trivial, ?_⟩ | refine ⟨Or.inl rfl, ?_⟩ | refine ⟨_, e0, ?_⟩ | refine ⟨io, ?_⟩ | refine ⟨io2, ?_⟩ | refine ⟨_, rfl, ?_⟩ | rw [e1])
    rw [show (true == inD (PyData.str kk) [PyData.str "and", PyData.str "or"]) = false from by rw [show inD (PyData.str kk) [PyData.str "and", PyData.str "or"] = false from e2]; rfl]
    obtain ⟨l, el⟩ : ∃ l, l = PyData.str kk :: ps := ⟨_, rfl⟩
    rw [← el]
    repeat (first | exact Or.inl rfl | refine ⟨Nat.le_of_ble_eq_true rfl, ?_⟩ | refine ⟨rfl, ?_⟩ | refine ⟨trivial, ?_⟩ | refine ⟨Or.inl rfl, ?_⟩ | refine ⟨_, rfl, ?_⟩)
    have hlen : l.length ≤ 3 := by rw [el, List.length_cons]; have := h.le; omega
    have hok : ∀ p ∈ l, partOk p := by
      rw [el]
      intro p hp
      rcases List.mem_cons.mp hp with rfl | hp
      · exact .inr (.inl ⟨_, rfl⟩)
      · exact h.ok p hp
    have het : ts = l.map partS := by rw [el, h.et]; rfl
    refine lcW_map (i := 1) (fun p => .str (partS p)) _ [] _ _ ?_ ?_ ?_
    · exact Nat.le_trans (show 0 + l.length ≤ 3 by omega) (by decide)
    · intro d hd R s q
      have ok := hok d hd
      repeat (first | exact Or.inl rfl | refine ⟨Nat.le_of_ble_eq_true rfl, ?_⟩ | refine ⟨rfl, ?_⟩ | refine ⟨trivial, ?_⟩ | refine ⟨Or.inl rfl, ?_⟩ | refine ⟨_, rfl, ?_⟩)
      cases hN : isNone (.d d) with
      | true =>
        rcases ok with rfl | ⟨s, rfl⟩ | ⟨n, hn, rfl⟩
        · repeat (first | exact Or.inl rfl | refine ⟨Nat.le_of_ble_eq_true rfl, ?_⟩ | refine ⟨rfl, ?_⟩ | refine ⟨trivial, ?_⟩ | refine ⟨Or.inl rfl, ?_⟩ | refine ⟨_, rfl, ?_⟩)
          exact q
        · cases hN
        · cases hN
      | false =>
        have es := part_str ok hN
        repeat (first | exact Or.inl rfl | refine ⟨Nat.le_of_ble_eq_true rfl, ?_⟩ | refine ⟨rfl, ?_⟩ | refine ⟨trivial, ?_⟩ | refine ⟨Or.inl rfl, ?_⟩ | refine ⟨_, es, ?_⟩ | refine ⟨_, rfl, ?_⟩)
        exact q
    · rw [List.nil_append]
      have ew : (l.map fun p => PyData.str (partS p)) = ts.map PyData.str := by
        rw [het, List.map_map]
        rfl
      have ht := hf.tok
      have es : strsOf (l.map fun p => PyData.str (partS p)) = some ts := by rw [ew]; exact strs_words ts
      have hz : (ts.map (·.length)).sum + ts.length * sp1.length ≤ 16777216 := jn_size (k := 3) (fun t h => Nat.le_trans (ht.1 t h).l8 (by decide)) ht.2.2 (by decide)
      repeat (first | exact Or.inl rfl | refine ⟨Nat.le_of_ble_eq_true rfl, ?_⟩ | refine ⟨rfl, ?_⟩ | refine ⟨trivial, ?_⟩ | refine ⟨Or.inl rfl, ?_⟩ | refine ⟨_, es, ?_⟩ | refine ⟨hz, ?_⟩ | refine ⟨_, rfl, ?_⟩)
      exact Or.inl ⟨_, rfl, k⟩
  · obtain ⟨l, hl⟩ : ∃ l : List PyData, l = [y] := ⟨_, rfl⟩
    rw [← hl]
    have e0 : ixD (.d (.tuple (.str ("not" : Str) :: l))) 0 = some (.str ("not" : Str)) := ix_head _ _
    have e1 : ixD (.d (.tuple (.str ("not" : Str) :: l))) 1 = some y := by rw [hl]; rfl
    have ht := hq2.tok
    have hs := hq2.small (by omega)
    repeat (first | exact Or.inl rfl | refine ⟨Nat.le_of_ble_eq_true rfl, ?_⟩ | refine ⟨rfl, ?_⟩ | refine ⟨trivial, ?_⟩ | refine ⟨Or.inl rfl, ?_⟩ | refine ⟨_, e0, ?_⟩ | refine ⟨_, e1, ?_⟩ | refine ⟨_, rfl, ?_⟩)
    refine ⟨y, us, c, rfl, hq2, by omega, ?_⟩
    have en := not_text2 ht.2.1
    have hz : (("not " : String) : Str).length + (Txt.join sp1 us).length ≤ sizeLine := Nat.le_trans (Nat.add_le_add (show (("not " : String) : Str).length ≤ 4 from Nat.le_of_ble_eq_true rfl) hs) (by decide)
    repeat (first | exact Or.inl rfl | refine ⟨Nat.le_of_ble_eq_true rfl, ?_⟩ | refine ⟨rfl, ?_⟩ | refine ⟨trivial, ?_⟩ | refine ⟨Or.inl rfl, ?_⟩ | refine ⟨hz, ?_⟩ | refine ⟨_, rfl, ?_⟩)
    rw [en]
    exact Or.inl ⟨_, rfl, k⟩
  · have e0 : ixD (.d (.tuple (.str (jn j) :: qs.map fun q => q.1))) 0 = some (.str (jn j)) := ix_head _ _
    have e1 := (jn_tab j).2.2.1
    have e2 := (jn_tab j).2.2.2
    have io : inOk (.str (jn j)) [PyData.str "and", PyData.str "or"] := Or.inl ⟨rfl, rfl⟩
    repeat (first | exact Or.inl rfl | refine ⟨Nat.le_of_ble_eq_true rfl, ?_⟩ | refine ⟨rfl, ?_⟩ | refine ⟨trivial, ?_⟩ | refine ⟨Or.inl rfl, ?_⟩ | refine ⟨_, e0, ?_⟩ | refine ⟨io, ?_⟩ | refine ⟨_, rfl, ?_⟩ | rw [e1])
    rw [show (true == inD (PyData.str (jn j)) [PyData.str "and", PyData.str "or"]) = true from by rw [show inD (PyData.str (jn j)) [PyData.str "and", PyData.str "or"] = true from e2]; rfl]
    have eln : lenD (.d (.tuple (.str (jn j) :: qs.map fun q => q.1))) = some (qs.length + 1) := by
      show some (List.length _) = _
      rw [List.length_cons, List.length_map]
    have es : strD (.d (.int (((qs.length + 1 : Nat) : Int) - 1))) = some (numS qs.length) := by
      rw [show (((qs.length + 1 : Nat) : Int) - 1) = (qs.length : Int) by omega]
      exact num_str (by omega)
    repeat (first | exact Or.inl rfl | refine ⟨Nat.le_of_ble_eq_true rfl, ?_⟩ | refine ⟨rfl, ?_⟩ | refine ⟨trivial, ?_⟩ | refine ⟨Or.inl rfl, ?_⟩ | refine ⟨_, e0, ?_⟩ | refine ⟨_, eln, ?_⟩ | refine ⟨_, es, ?_⟩ | refine ⟨_, rfl, ?_⟩)
    rw [cut_tail, List.map_map]
    refine lcW_map2 (i := 1) (fun q : Qp => q.1) (fun q => .str (Txt.join sp1 q.2.1)) qs [] _ _ ?_ ?_ ?_
    · exact Nat.le_trans (show 0 + qs.length ≤ 4 by omega) (by decide)
    · intro q hz R s h
      repeat (first | exact Or.inl rfl | refine ⟨Nat.le_of_ble_eq_true rfl, ?_⟩ | refine ⟨rfl, ?_⟩ | refine ⟨trivial, ?_⟩ | refine ⟨Or.inl rfl, ?_⟩ | refine ⟨_, rfl, ?_⟩)
      exact ⟨q.1, q.2.1, q.2.2, rfl, hq2 q hz, by omega, h⟩
    · rw [List.nil_append]
      have ew : (PyData.str (jn j) :: .str (numS qs.length) :: qs.map fun q => PyData.str (Txt.join sp1 q.2.1)) = (jn j :: numS qs.length :: qs.map fun q => Txt.join sp1 q.2.1).map PyData.str := by
        rw [List.map_cons, List.map_cons, List.map_map]
        rfl
      have es : strsOf (PyData.str (jn j) :: .str (numS qs.length) :: qs.map fun q => PyData.str (Txt.join sp1 q.2.1)) = some (jn j :: numS qs.length :: qs.map fun q => Txt.join sp1 q.2.1) := by rw [ew]; exact strs_words _
      have es2 : strsOf ([PyData.str (jn j), .str (numS qs.length)] ++ qs.map fun q => PyData.str (Txt.join sp1 q.2.1)) = some (jn j :: numS qs.length :: qs.map fun q => Txt.join sp1 q.2.1) := es
      have hz : ((jn j :: numS qs.length :: qs.map fun q => Txt.join sp1 q.2.1).map (·.length)).sum + (jn j :: numS qs.length :: qs.map fun q => Txt.join sp1 q.2.1).length * sp1.length ≤ 16777216 := jn_size (k := 6) (fun t ht => by
        rcases List.mem_cons.mp ht with rfl | ht
        · exact Nat.le_trans (jn_tok j).l8 (by decide)
        · rcases List.mem_cons.mp ht with rfl | ht
          · exact Nat.le_trans (Tok.num (by omega)).l8 (by decide)
          · obtain ⟨q, hq, rfl⟩ := List.mem_map.mp ht
            exact (hq2 q hq).small (by omega)) (by simp; omega) (by decide)
      have hw : (PyData.str (jn j) :: .str (numS qs.length) :: qs.map fun q => PyData.str (Txt.join sp1 q.2.1)).length ≤ sizeLine := by
        rw [List.length_cons, List.length_cons, List.length_map]
        exact Nat.le_trans (show _ ≤ 6 by omega) (by decide)
      have hw2 : ([PyData.str (jn j), .str (numS qs.length)] : List PyData).length + (qs.map fun q => PyData.str (Txt.join sp1 q.2.1)).length ≤ sizeLine := by
        rw [List.length_map]
        exact Nat.le_trans (show 2 + qs.length ≤ 6 by omega) (by decide)
      rw [← join_text j hq2] at k
      repeat (first | exact Or.inl rfl | refine ⟨Nat.le_of_ble_eq_true rfl, ?_⟩ | refine ⟨rfl, ?_⟩ | refine ⟨trivial, ?_⟩ | refine ⟨Or.inl rfl, ?_⟩ | refine ⟨_, es2, ?_⟩ | refine ⟨_, es, ?_⟩ | refine ⟨hz, ?_⟩ | refine ⟨hw2, ?_⟩ | refine ⟨hw, ?_⟩ | refine ⟨_, rfl, ?_⟩)
      exact Or.inl ⟨_, rfl, k⟩

end
end L2.DD

set_option maxRecDepth 100000
set_option maxHeartbeats 4000000
namespace L2.DD
open PySem PySem.Spec PyProof.Rows
section
variable {P : Program} {w : World} {K : PySem.W.Frag} {mg : Str → Option Value} {base : Heap}
def m_part_in : List Dv → Option Dv
  | [.d (.str f), .d (.str z)] => if z.length ≤ L6 then some (.d (.list (partIn f z))) else none
  | _ => none
abbrev nm_part_in : List Str := ["form", "word"]
theorem sc_part_in : FnScope nm_part_in ["form", "word"] (defScope s_part_in) := ⟨rfl, rfl, rfl, by decide +kernel, rfl, by decide +kernel, by decide +kernel⟩
theorem ok_part_in (T : Tx w K mg) (D : Df K mg "part_in" s_part_in ["form", "word"]) (G_name_in : DefOk P w K mg base 2 "name_in" ["word", "none"] (spP K 2 m_name_in)) (G_number_in : DefOk P w K mg base 1 "number_in" ["word"] (spP K 1 m_number_in)) : DefOk P w K mg base 3 "part_in" ["form", "word"] (spP K 2 m_part_in) := by
  have nd := sc_part_in.nd
  refine defP D sc_part_in (fun f cdv A outer s H E G0 hr => (dss_cons (ds_if (dt_cmp (od_eq rfl (u64 hr)) (dv 0) (de_str rfl) (nomark _)) (dss_one (ds_ret (dcP G_number_in (hr.mono (by decide)) (by rfl) (da_cons (dv 1) (da_nil rfl))))) (dss_nil rfl))
  (dss_one (ds_ret (dcP G_name_in hr (by rfl) (da_cons (dv 1) (da_cons (de_if (dt_cmp (od_eq rfl (u64 hr)) (dv 0) (de_str rfl) (nomark _)) (de_str rfl) (de_non rfl)) (da_nil rfl)))))))) ?_
  intro ds d hl hm
  match ds, hm with
  | [.d (.str f), .d (.str z)], hm =>
    have hm : (if z.length ≤ L6 then some (Dv.d (.list (partIn f z))) else none) = some d := hm
    split at hm
    · rename_i hz
      cases hm
      have f1 : m_number_in [.d (.str z)] = some (.d (.list (numIn z))) := if_pos hz
      have f2 : m_name_in [.d (.str z), .d (.str "-")] = some (.d (.list (nameIn z (.str "-")))) := if_pos ⟨hz, rfl⟩
      have f3 : m_name_in [.d (.str z), .d .none] = some (.d (.list (nameIn z .none))) := if_pos ⟨hz, rfl⟩
      rw [show partIn f z = (if PyData.eqv (.str f) (.str "number") = true then numIn z else nameIn z (if PyData.eqv (.str f) (.str "none") = true then .str "-" else .none)) from rfl]
      repeat (first | exact Or.inl rfl | refine ⟨Nat.le_of_ble_eq_true rfl, ?_⟩ | refine ⟨rfl, ?_⟩ | refine ⟨trivial, ?_⟩ | refine ⟨Or.inl rfl, ?_⟩ | refine ⟨_, rfl, ?_⟩)
      cases PyData.eqv (.str f) (.str "number") with
      | true => repeat (first | exact Or.inl rfl | refine ⟨Nat.le_of_ble_eq_true rfl, ?_⟩ | refine ⟨rfl, ?_⟩ | refine ⟨trivial, ?_⟩ | refine ⟨Or.inl rfl, ?_⟩ | refine ⟨_, f1, ?_⟩ | refine ⟨_, rfl, ?_⟩)
      | false =>
        repeat (first | exact Or.inl rfl | refine ⟨Nat.le_of_ble_eq_true rfl, ?_⟩ | refine ⟨rfl, ?_⟩ | refine ⟨trivial, ?_⟩ | refine ⟨Or.inl rfl, ?_⟩ | refine ⟨_, rfl, ?_⟩)
        cases PyData.eqv (.str f) (.str "none") with
        | true => repeat (first | exact Or.inl rfl | refine ⟨Nat.le_of_ble_eq_true rfl, ?_⟩ | refine ⟨rfl, ?_⟩ | refine ⟨trivial, ?_⟩ | refine ⟨Or.inl rfl, ?_⟩ | refine ⟨_, f2, ?_⟩ | refine ⟨_, rfl, ?_⟩)
        | false => repeat (first | exact Or.inl rfl | refine ⟨Nat.le_of_ble_eq_true rfl, ?_⟩ | refine ⟨rfl, ?_⟩ | refine ⟨trivial, ?_⟩ | refine ⟨Or.inl rfl, ?_⟩ | refine ⟨_, f3, ?_⟩ | refine ⟨_, rfl, ?_⟩)
    · cases hm
def wsD (ws : List Str) : Dv := .d (.list (ws.map PyData.str))
def m_fact_at : List Dv → Wp Unit Dv := fun ds R s => ∃ pre x ts post, ds = [wsD (pre ++ (ts ++ post)), .d (.int (pre.length : Int))] ∧ Fact x ts ∧ (pre ++ (ts ++ post)).length ≤ 100000 ∧ R (.d (.list [x, .int ((pre.length : Int) + (ts.length : Int))])) s
abbrev nm_fact_at : List Str := ["words", "at", "kind", "behind", "found", "form", "word", "one"]
theorem sc_fact_at : FnScope nm_fact_at ["words", "at"] (defScope s_fact_at) := ⟨rfl, rfl, rfl, by decide +kernel, rfl, by decide +kernel, by decide +kernel⟩
theorem ok_fact_at (T : Tx w K mg) (D : Df K mg "fact_at" s_fact_at ["words", "at"]) (G_part_in : DefOk P w K mg base 3 "part_in" ["form", "word"] (spP K 2 m_part_in)) : DefOk P w K mg base 4 "fact_at" ["words", "at"] (spR K 2 m_fact_at) := by
  have nd := sc_fact_at.nd
  have t_len : mg "len" = none := T.b0 _ (by decide +kernel)
  have t_zip : mg "zip" = none := T.b0 _ (by decide +kernel)
  obtain ⟨z_FACTS, c_FACTS, x_FACTS⟩ := T.c_FACTS
  obtain ⟨z_LENGTHS, c_LENGTHS, x_LENGTHS⟩ := T.c_LENGTHS
  refine defR D sc_fact_at (fun f cdv A outer s H E G0 hr => (dss_cons (ds_set (i := 2) nd rfl (by first | exact Or.inl rfl | exact Or.inr rfl) (de_ix (ixd_any rfl) (dv 0) (dv 1)))
  (dss_cons (ds_set (i := 3) nd rfl (by first | exact Or.inl rfl | exact Or.inr rfl) (de_op (od_plus rfl) (dv 1) (de_ix (ixd_T rfl x_LENGTHS) (de_glob (v := V.ref z_LENGTHS) (d := Dv.o (.ref z_LENGTHS)) rfl (by rfl) c_LENGTHS rfl (fun _ => rfl)) (dv 2))))
  (dss_cons (ds_setLc (i := 4) (py := ⟨_, _, _, _⟩) (own := [("form", 5), ("word", 6)]) rfl nd rfl rfl (sw_true rfl rfl rfl (by decide +kernel)) (di_zip (by rfl) t_zip (da_cons (de_ix (ixd_T rfl x_FACTS) (de_glob (v := V.ref z_FACTS) (d := Dv.o (.ref z_FACTS)) rfl (by rfl) c_FACTS rfl (fun _ => rfl)) (dv 2)) (da_cons (de_slice (dv 0) (do_some (de_op (od_plus rfl) (dv 1) (de_int rfl))) (do_some (dv 3))) (da_nil rfl)))) (blkOk_by (own := [("form", 5), ("word", 6)]) (N := nm_fact_at) (sc := defScope s_fact_at) (by decide +kernel)) (fun _ _ _ _ _ => (dg_tup (n := 2) rfl (dgs_cons (dg_name (i := 5) rfl nd rfl (by first | exact Or.inl rfl | exact Or.inr rfl)) (dgs_cons (dg_name (i := 6) rfl nd rfl (by first | exact Or.inl rfl | exact Or.inr rfl)) (dgs_nil rfl))))) (fun _ _ _ _ _ => dts_nil rfl) (fun _ _ _ _ _ => (dcP G_part_in hr (by rfl) (da_cons (dv 5) (da_cons (dv 6) (da_nil rfl))))))
  (dss_cons (ds_if (DW.dt (dw_or (dt_cmp (od_gt) (dv 3) (de_callB (cd_len rfl) (by rfl) t_len (by decide +kernel) (da_cons (dv 0) (da_nil rfl))) (nomark _)) (dw_or1 (dt_cmp (od_in rfl (u65 hr)) (de_f (df_lst (da_nil rfl))) (dv 4) (by rfl))))) (dss_one (ds_ret (de_f (df_lst (da_nil rfl))))) (dss_nil rfl))
  (dss_one (ds_ret (de_f (df_lst (da_cons (de_tup (da_cons (dv 2) (da_star (de_f (df_lc (own := [("one", 7)]) rfl nd (di_any (dv 4)) (blkOk_by (own := [("one", 7)]) (N := nm_fact_at) (sc := defScope s_fact_at) (by decide +kernel)) (fun _ _ _ _ _ => (dg_name (i := 7) rfl nd rfl (by first | exact Or.inl rfl | exact Or.inr rfl))) (fun _ _ _ _ _ => dts_nil rfl) (fun _ _ _ _ _ => (de_ix (ixd_any rfl) (dv 7) (de_int rfl))))) (da_nil rfl)))) (da_cons (dv 3) (da_nil rfl)))))))))))) ?_
  rintro ds R hl ⟨pre, x, ts, post, rfl, hf, hn, k⟩
  obtain ⟨kk, l, h⟩ := hf.as
  obtain rfl := h.ex
  obtain rfl := h.et
  obtain ⟨W, hW⟩ : ∃ W : List PyData, W = (pre ++ ((kk :: l.map fun e => e.2.1) ++ post)).map PyData.str := ⟨_, rfl⟩
  have hW2 : W = pre.map PyData.str ++ PyData.str kk :: ((l.map fun e => PyData.str e.2.1) ++ post.map PyData.str) := by
    rw [hW]
    simp [List.map_map, Function.comp_def]
  show _
  unfold wsD
  rw [← hW]
  have e0 : ixD (.d (.list W)) (pre.length : Int) = some (.str kk) := by
    have := ixL_mid (pre := pre.map PyData.str) (a := .str kk) (post := (l.map fun e => PyData.str e.2.1) ++ post.map PyData.str)
    rw [List.length_map, ← hW2] at this
    exact this
  have eL := h.n
  have eF := h.f
  have eC : sliceD (.d (.list W)) (some ((pre.length : Int) + 1)) (some ((pre.length : Int) + ((l.length : Int) + 1))) = some (.list (l.map fun e => PyData.str e.2.1)) := by
    have := cut_mid (pre.map PyData.str) (.str kk) (l.map fun e => PyData.str e.2.1) (post.map PyData.str)
    rw [List.length_map, List.length_map, ← hW2] at this
    show some (PyData.list (cutD W _ _)) = _
    rw [this]
  have eN : lenD (.d (.list W)) = some (pre.length + (l.length + 1 + post.length)) := by
    show some W.length = _
    rw [hW]
    simp
    omega
  repeat (first | exact Or.inl rfl | refine ⟨Nat.le_of_ble_eq_true rfl, ?_⟩ | refine ⟨rfl, ?_⟩ | refine ⟨trivial, ?_⟩ | refine ⟨Or.inl rfl, ?_⟩ | refine ⟨_, e0, ?_⟩ | refine ⟨_, eL, ?_⟩ | refine ⟨_, eF, ?_⟩ | refine ⟨_, eC, ?_⟩ | refine ⟨_, rfl, ?_⟩)
  show lcW _ _ _ _ (zipD (l.map fun e => PyData.str e.1) (l.map fun e => PyData.str e.2.1)) [] _ _
  rw [zipD_map]
  refine lcW_map3 (fun e : Fe => Dv.d (.tuple [.str e.1, .str e.2.1])) (fun e => .list [e.2.2]) l [] _ _ ?_ ?_ ?_
  · have := h.le
    exact Nat.le_trans (show 0 + l.length ≤ 2 by omega) (by decide)
  · intro e he R s q
    obtain ⟨p1, p2, p3⟩ := h.p e he
    have f : m_part_in [.d (.str e.1), .d (.str e.2.1)] = some (.d (.list [e.2.2])) := by
      rw [← p1]
      exact if_pos p2
    repeat (first | exact Or.inl rfl | refine ⟨Nat.le_of_ble_eq_true rfl, ?_⟩ | refine ⟨rfl, ?_⟩ | refine ⟨trivial, ?_⟩ | refine ⟨Or.inl rfl, ?_⟩ | refine ⟨_, f, ?_⟩ | refine ⟨_, rfl, ?_⟩)
    exact q
  · rw [List.nil_append]
    have hlt : decide (((pre.length + (l.length + 1 + post.length) : Nat) : Int) < (pre.length : Int) + ((l.length : Int) + 1)) = false := decide_eq_false (by omega)
    have io : inOk (.list []) ((l.map fun e => [e.2.2]).map PyData.list) := inOk_empty (n := 0) (fun z hz d hd => by
      obtain ⟨e, he, rfl⟩ := List.mem_map.mp hz
      rw [List.mem_singleton.mp hd]
      exact (h.p e he).2.2) (by decide)
    have ie : inD (.list []) ((l.map fun e => [e.2.2]).map PyData.list) = false := by
      rw [inD_empty]
      rw [List.any_map]
      exact List.any_eq_false.mpr fun e _ => by simp
    rw [List.map_map] at io ie
    have io2 : inOk (.list []) (l.map fun e => PyData.list [e.2.2]) := io
    have ie2 : (true == inD (.list []) (l.map fun e => PyData.list [e.2.2])) = false := by rw [show inD (.list []) (l.map fun e => PyData.list [e.2.2]) = false from ie]; rfl
    repeat (first | exact Or.inl rfl | refine ⟨Nat.le_of_ble_eq_true rfl, ?_⟩ | refine ⟨rfl, ?_⟩ | refine ⟨trivial, ?_⟩ | refine ⟨Or.inl rfl, ?_⟩ | refine ⟨_, eN, ?_⟩ | refine ⟨io2, ?_⟩ | refine ⟨_, rfl, ?_⟩ | rw [hlt] | rw [ie2])
    rw [List.map_map]
    refine lcW_map2 (i := 7) (fun e : Fe => .list [e.2.2]) (fun e => e.2.2) l [] _ _ ?_ ?_ ?_
    · have := h.le
      exact Nat.le_trans (show 0 + l.length ≤ 2 by omega) (by decide)
    · intro e he R s q
      repeat (first | exact Or.inl rfl | refine ⟨Nat.le_of_ble_eq_true rfl, ?_⟩ | refine ⟨rfl, ?_⟩ | refine ⟨trivial, ?_⟩ | refine ⟨Or.inl rfl, ?_⟩ | refine ⟨_, rfl, ?_⟩)
      exact q
    · rw [List.nil_append]
      have al := allData_1 (.str kk) (l.map fun e => e.2.2)
      have hw : (PyData.str kk :: l.map fun e => e.2.2).length ≤ sizeLine := by
        rw [List.length_cons, List.length_map]
        have := h.le
        exact Nat.le_trans (show _ ≤ 3 by omega) (by decide)
      repeat (first | exact Or.inl rfl | refine ⟨Nat.le_of_ble_eq_true rfl, ?_⟩ | refine ⟨rfl, ?_⟩ | refine ⟨trivial, ?_⟩ | refine ⟨Or.inl rfl, ?_⟩ | refine ⟨_, al, ?_⟩ | refine ⟨hw, ?_⟩ | refine ⟨_, rfl, ?_⟩)
      refine Or.inl ⟨_, rfl, ?_⟩
      have e : ((kk :: l.map fun e => e.2.1).length : Int) = (l.length : Int) + 1 := by simp
      rw [e] at k
      exact k

end
end L2.DD

set_option maxRecDepth 100000
set_option maxHeartbeats 4000000
namespace L2.DD
open PySem PySem.Spec PyProof.Rows
section
variable {P : Program} {w : World} {K : PySem.W.Frag} {mg : Str → Option Value} {base : Heap}
def m_question_at : Nat → List Dv → Wp Unit Dv
  | 0 => fun _ _ _ => False
  | n + 1 => fun ds R s => ∃ (pre : List Str) (x : PyData) (ts : List Str) (c : Nat) (post : List Str) (r : Nat), ds = [wsD (pre ++ (ts ++ post)), .d (.int (pre.length : Int)), .d (.int (r : Int))] ∧ QT n x ts c ∧ r + n ≤ 4 ∧ (∀ t ∈ pre ++ (ts ++ post), t.length ≤ 8) ∧ (pre ++ (ts ++ post)).length ≤ 100000 ∧
    R (.d (.list [x, .int ((pre.length : Int) + (ts.length : Int))])) s
theorem mo_question_at : ∀ (n : Nat) (ds : List Dv), Mono (m_question_at n ds)
  | 0, _ => fun _ _ _ _ h => h.elim
  | n + 1, _ => fun R R' s h ⟨pre, x, ts, c, post, r, a, b, d, e, f, q⟩ => ⟨pre, x, ts, c, post, r, a, b, d, e, f, h _ _ q⟩
def flatQ (qs : List Qp) : List Str := (qs.map fun q => q.2.1).flatten
def m_joined_at : Nat → List Dv → Wp Unit Dv
  | 0 => fun _ _ _ => False
  | n + 1 => fun ds R s => ∃ (pre : List Str) (kk : Str) (mid : List Str) (qs : List Qp) (post : List Str) (r : Nat) (st : Int),
    ds = [wsD (pre ++ (kk :: (mid ++ flatQ qs) ++ post)), .d (.int (pre.length : Int)), .d (.int (qs.length : Int)), .d (.int st), .d (.int (r : Int))] ∧ st = (pre.length : Int) + 1 + (mid.length : Int) ∧ qs.length ≤ 4 ∧
    (∀ q ∈ qs, QT n q.1 q.2.1 q.2.2) ∧ r + 1 + n ≤ 4 ∧ (∀ t ∈ pre ++ (kk :: (mid ++ flatQ qs) ++ post), t.length ≤ 8) ∧ (pre ++ (kk :: (mid ++ flatQ qs) ++ post)).length ≤ 100000 ∧
    R (.d (.list [.tuple (.str kk :: qs.map fun q => q.1), .int ((pre.length : Int) + ((kk :: (mid ++ flatQ qs)).length : Int))])) s
theorem flatQ_step {qs : List Qp} {j : Nat} {q : Qp} (h : qs[j]? = some q) : flatQ (qs.take (j + 1)) = flatQ (qs.take j) ++ q.2.1 ∧ flatQ qs = flatQ (qs.take j) ++ (q.2.1 ++ flatQ (qs.drop (j + 1))) ∧ (qs.take (j + 1)).map (fun q => q.1) = (qs.take j).map (fun q => q.1) ++ [q.1] := by
  have e1 : qs.take (j + 1) = qs.take j ++ [q] := by rw [List.take_add_one, h]; rfl
  have hj : j < qs.length := by
    rcases Nat.lt_or_ge j qs.length with z | z
    · exact z
    · rw [List.getElem?_eq_none z] at h; cases h
  have e2 : qs = qs.take j ++ (q :: qs.drop (j + 1)) := by
    have : qs.drop j = q :: qs.drop (j + 1) := by
      rw [List.getElem?_eq_getElem hj] at h
      rw [List.drop_eq_getElem_cons hj, Option.some.inj h]
    rw [← this, List.take_append_drop]
  have ap : ∀ a b : List Qp, flatQ (a ++ b) = flatQ a ++ flatQ b := fun a b => by
    unfold flatQ
    rw [List.map_append, List.flatten_append]
  refine ⟨?_, ?_, ?_⟩
  · rw [e1, ap]
    show _ ++ (q.2.1 ++ []) = _
    rw [List.append_nil]
  · have := congrArg flatQ e2
    rw [ap] at this
    exact this
  · rw [e1, List.map_append]
    rfl
abbrev nm_joined_at : List Str := ["words", "at", "many", "start", "around", "parts", "_", "found", "part"]
theorem sc_joined_at : FnScope nm_joined_at ["words", "at", "many", "start", "around"] (defScope s_joined_at) := ⟨rfl, rfl, rfl, by decide +kernel, rfl, by decide +kernel, by decide +kernel⟩
theorem ok_joined_at (T : Tx w K mg) (D : Df K mg "joined_at" s_joined_at ["words", "at", "many", "start", "around"]) {k n : Nat} (hk : 10 ≤ k) (G_question_at : DefOk P w K mg base k "question_at" ["words", "at", "around"] (spR K 3 (m_question_at n))) : DefOk P w K mg base (k + 1) "joined_at" ["words", "at", "many", "start", "around"] (spR K 5 (m_joined_at n)) := by
  have nd := sc_joined_at.nd
  have t_range : mg "range" = none := T.b0 _ (by decide +kernel)
  have t_tuple : mg "tuple" = none := T.b0 _ (by decide +kernel)
  refine defR D sc_joined_at (fun f cdv A outer s H E G0 hr => (dss_cons (ds_own (i := 5) nd rfl (by first | exact Or.inl rfl | exact Or.inr rfl) (df_lst (da_cons (de_ix (ixd_any rfl) (dv 0) (dv 1)) (da_nil rfl))))
  (dss_cons (ds_for PassesOwn.never rfl (di_range1 (by rfl) t_range (da_cons (dv 2) (da_nil rfl))) (dg_name (i := 6) rfl nd rfl (by first | exact Or.inl rfl | exact Or.inr rfl)) (dss_cons (ds_set (i := 7) nd rfl (by first | exact Or.inl rfl | exact Or.inr rfl) (dcR G_question_at hr (by rfl) (da_cons (dv 0) (da_cons (dv 3) (da_cons (de_op (od_plus rfl) (dv 4) (de_int rfl)) (da_nil rfl))))))
  (dss_cons (ds_if (dt_not (dt_truth (dv 7))) (dss_one (ds_ret (de_f (df_lst (da_nil rfl))))) (dss_nil rfl))
  (dss_cons (ds_asg (dv 7) (dg_lst (n := 2) rfl (dgs_cons (dg_name (i := 8) rfl nd rfl (by first | exact Or.inl rfl | exact Or.inr rfl)) (dgs_cons (dg_name (i := 3) rfl nd rfl (by first | exact Or.inl rfl | exact Or.inr rfl)) (dgs_nil rfl)))))
  (dss_one (ds_append (i := 5) rfl (by first | exact Or.inl rfl | exact Or.inr (Or.inl rfl)) (dv 8)))))))
  (dss_freeze 5 (dss_one (ds_ret (de_f (df_lst (da_cons (de_callTy (cd_tuple rfl) (by rfl) t_tuple (by decide +kernel) (da_cons (dv 5) (da_nil rfl))) (da_cons (dv 3) (da_nil rfl))))))))))) ?_
  match n with
  | 0 => exact fun ds R hl h => h.elim
  | n + 1 =>
  rintro ds R hl ⟨pre, kk, mid, qs, post, r, st, rfl, rfl, h4, hq, hr, h8, hn, k⟩
  obtain ⟨W, hW⟩ : ∃ W : List PyData, W = (pre ++ (kk :: (mid ++ flatQ qs) ++ post)).map PyData.str := ⟨_, rfl⟩
  have hW2 : W = pre.map PyData.str ++ PyData.str kk :: (((mid ++ flatQ qs) ++ post).map PyData.str) := by
    rw [hW]
    simp
  unfold wsD
  rw [← hW]
  have e0 : ixD (.d (.list W)) (pre.length : Int) = some (.str kk) := by
    have := ixL_mid (pre := pre.map PyData.str) (a := .str kk) (post := ((mid ++ flatQ qs) ++ post).map PyData.str)
    rw [List.length_map, ← hW2] at this
    exact this
  have hrg : -(2 ^ 62) ≤ (qs.length : Int) ∧ (qs.length : Int) < 2 ^ 62 := by omega
  repeat (first | exact Or.inl rfl | refine ⟨Nat.le_of_ble_eq_true rfl, ?_⟩ | refine ⟨rfl, ?_⟩ | refine ⟨trivial, ?_⟩ | refine ⟨Or.inl rfl, ?_⟩ | refine ⟨_, e0, ?_⟩ | refine ⟨hrg, ?_⟩ | refine ⟨_, rfl, ?_⟩)
  refine forW_inv (fun j env _ => ∃ a b c, env = [some (.v (.d (.list W))), some (.v (.d (.int (pre.length : Int)))), some (.v (.d (.int (qs.length : Int)))), some (.v (.d (.int ((pre.length : Int) + 1 + (mid.length : Int) + ((flatQ (qs.take j)).length : Int))))), some (.v (.d (.int (r : Int)))), some (.own (.str kk :: (qs.take j).map fun q => q.1)), a, b, c]) _ 0 _ () ⟨none, none, none, ?_⟩ ?_ ?_ ?_
  · show _ = _
    rw [show ((pre.length : Int) + 1 + (mid.length : Int) + ((flatQ (qs.take 0)).length : Int)) = (pre.length : Int) + 1 + (mid.length : Int) from by
      show _ + ((0 : Nat) : Int) = _
      omega]
    rfl
  · rintro m d env s' hd ⟨a, b, c, he⟩
    rw [Nat.zero_add] at he
    subst he
    obtain ⟨hm, rfl⟩ := rangeL_get hd
    have hm : m < qs.length := by simpa using hm
    have hqm := List.getElem?_eq_getElem hm
    obtain ⟨f1, f2, f3⟩ := flatQ_step hqm
    generalize hQ : qs[m] = q at hqm f1 f2 f3
    have hqq : QT n q.1 q.2.1 q.2.2 := hq q (List.mem_of_getElem? hqm)
    repeat (first | exact Or.inl rfl | refine ⟨Nat.le_of_ble_eq_true rfl, ?_⟩ | refine ⟨rfl, ?_⟩ | refine ⟨trivial, ?_⟩ | refine ⟨Or.inl rfl, ?_⟩ | refine ⟨_, rfl, ?_⟩)
    have hw : pre ++ (kk :: (mid ++ flatQ qs) ++ post) = (pre ++ (kk :: (mid ++ flatQ (qs.take m)))) ++ (q.2.1 ++ (flatQ (qs.drop (m + 1)) ++ post)) := by
      rw [f2]
      simp
    refine ⟨pre ++ (kk :: (mid ++ flatQ (qs.take m))), q.1, q.2.1, q.2.2, flatQ (qs.drop (m + 1)) ++ post, r + 1, ?_, hqq, by omega, by rw [← hw]; exact h8, by rw [← hw]; exact hn, ?_⟩
    · rw [← hw]
      unfold wsD
      rw [← hW]
      have e1 : ((pre ++ (kk :: (mid ++ flatQ (qs.take m)))).length : Int) = (pre.length : Int) + 1 + (mid.length : Int) + ((flatQ (qs.take m)).length : Int) := by
        simp
        omega
      rw [e1]
      have e2 : ((r + 1 : Nat) : Int) = (r : Int) + 1 := by omega
      rw [e2]
    · have hlen : (PyData.str kk :: (qs.take m).map fun q => q.1).length < sizeLine := by
        rw [List.length_cons, List.length_map, List.length_take]
        exact Nat.lt_of_le_of_lt (show _ ≤ 5 by omega) (by decide)
      repeat (first | exact Or.inl rfl | refine ⟨Nat.le_of_ble_eq_true rfl, ?_⟩ | refine ⟨rfl, ?_⟩ | refine ⟨trivial, ?_⟩ | refine ⟨Or.inl rfl, ?_⟩ | refine ⟨hlen, ?_⟩ | refine ⟨_, rfl, ?_⟩)
      have e1 : ((pre ++ (kk :: (mid ++ flatQ (qs.take m)))).length : Int) + (q.2.1.length : Int) = (pre.length : Int) + 1 + (mid.length : Int) + ((flatQ (qs.take m) ++ q.2.1).length : Int) := by
        simp
        omega
      show ∃ a b c, _ = _
      rw [Nat.zero_add, f1, f3, ← e1]
      exact ⟨_, _, _, rfl⟩
  · rintro env s' ⟨a, b, c, rfl⟩
    rw [rangeL_len]
    have e2 : (0 + (qs.length : Int).toNat) = qs.length := by omega
    rw [e2, List.take_length]
    repeat (first | exact Or.inl rfl | refine ⟨Nat.le_of_ble_eq_true rfl, ?_⟩ | refine ⟨rfl, ?_⟩ | refine ⟨trivial, ?_⟩ | refine ⟨Or.inl rfl, ?_⟩ | refine ⟨_, rfl, ?_⟩)
    refine Or.inl ⟨_, rfl, ?_⟩
    have e1 : ((pre.length : Int) + 1 + (mid.length : Int) + ((flatQ qs).length : Int)) = (pre.length : Int) + ((kk :: (mid ++ flatQ qs)).length : Int) := by
      simp
      omega
    rw [e1]
    exact k
  · intro d env
    show Mono _
    repeat' (first | exact mo_ret | exact mo_get | exact mo_ask | exact mo_take | exact mo_of | exact mo_name | exact mo_count | exact mo_fact | exact mo_sq _ | exact mo_rq | exact mo_lrt | exact mo_sr | exact mo_rr | exact mo_run | exact mo_question _ | refine mo_callDW ?_ | refine mo_callRW ?_ | exact mo_question_at _ | exact mo_inTW | exact mo_ixTW | exact mo_callW | exact mo_eqW | exact mo_neW | exact mo_intW | exact mo_plusW | exact mo_isW | exact mo_inW | exact mo_ixW | exact mo_isiW | exact mo_lenW | exact mo_strW | exact mo_intCW | exact mo_allW | exact mo_anyW | exact mo_tupW | exact mo_reprW | exact mo_splitW | exact mo_joinW | exact mo_fmtW | exact mo_range1W | exact mo_range2W | exact mo_parW | refine mo_ite ?_ ?_ | refine mo_headW ?_ | refine mo_seqW ?_ | refine mo_lcW ?_ ?_ ?_ _ _ | refine mo_bnd ?_ (fun _ => ?_) | intro _)
abbrev nm_question_at : List Str := ["words", "at", "around", "kind", "many"]
theorem sc_question_at : FnScope nm_question_at ["words", "at", "around"] (defScope s_question_at) := ⟨rfl, rfl, rfl, by decide +kernel, rfl, by decide +kernel, by decide +kernel⟩
theorem ok_question_at (T : Tx w K mg) (D : Df K mg "question_at" s_question_at ["words", "at", "around"]) (G_fact_at : DefOk P w K mg base 4 "fact_at" ["words", "at"] (spR K 2 m_fact_at)) (G_number_in : DefOk P w K mg base 1 "number_in" ["word"] (spP K 1 m_number_in)) {k n : Nat} (hk : 10 ≤ k) (G_joined_at : DefOk P w K mg base k "joined_at" ["words", "at", "many", "start", "around"] (spR K 5 (m_joined_at n))) : DefOk P w K mg base (k + 1) "question_at" ["words", "at", "around"] (spR K 3 (m_question_at (n + 1))) := by
  have nd := sc_question_at.nd
  have t_len : mg "len" = none := T.b0 _ (by decide +kernel)
  obtain ⟨z_FACTS, c_FACTS, x_FACTS⟩ := T.c_FACTS
  obtain ⟨z_JOINERS, c_JOINERS, x_JOINERS⟩ := T.c_JOINERS
  obtain ⟨z_MOST_AROUND, c_MOST_AROUND⟩ := T.c_MOST_AROUND
  obtain ⟨z_MOST_FACTS, c_MOST_FACTS⟩ := T.c_MOST_FACTS
  refine defR D sc_question_at (fun f cdv A outer s H E G0 hr => (dss_cons (ds_set (i := 3) nd rfl (by first | exact Or.inl rfl | exact Or.inr rfl) (de_if (dt_cmp (od_lt) (dv 1) (de_callB (cd_len rfl) (by rfl) t_len (by decide +kernel) (da_cons (dv 0) (da_nil rfl))) (nomark _)) (de_ix (ixd_any rfl) (dv 0) (dv 1)) (de_str rfl)))
  (dss_cons (ds_if (dt_cmp (od_inT x_FACTS) (dv 3) (de_glob (v := V.ref z_FACTS) (d := Dv.o (.ref z_FACTS)) rfl (by rfl) c_FACTS rfl (fun _ => rfl)) (by rfl)) (dss_one (ds_ret (dcR G_fact_at (hr.mono (by omega)) (by rfl) (da_cons (dv 0) (da_cons (dv 1) (da_nil rfl)))))) (dss_nil rfl))
  (dss_cons (ds_if (dt_cmp (od_gt) (dv 2) (de_glob (v := V.int 3) (d := Dv.d (.int 3)) rfl (by rfl) c_MOST_AROUND ⟨_, rfl⟩ (fun _ => .int _)) (nomark _)) (dss_one (ds_ret (de_f (df_lst (da_nil rfl))))) (dss_nil rfl))
  (dss_cons (ds_if (dt_cmp (od_eq rfl (u64 hr)) (dv 3) (de_str rfl) (nomark _)) (dss_one (ds_ret (dcR G_joined_at hr (by rfl) (da_cons (dv 0) (da_cons (dv 1) (da_cons (de_int rfl) (da_cons (de_op (od_plus rfl) (dv 1) (de_int rfl)) (da_cons (dv 2) (da_nil rfl))))))))) (dss_nil rfl))
  (dss_cons (ds_set (i := 4) nd rfl (by first | exact Or.inl rfl | exact Or.inr rfl) (de_if (DW.dt (dw_and (dt_cmp (od_in rfl (u65 hr)) (dv 3) (de_glob (v := V.ref z_JOINERS) (d := Dv.d (.tuple joinL)) rfl (by rfl) c_JOINERS rfl (fun G => x_JOINERS G)) (by rfl)) (dw_and1 (dt_cmp (od_lt) (de_op (od_plus rfl) (dv 1) (de_int rfl)) (de_callB (cd_len rfl) (by rfl) t_len (by decide +kernel) (da_cons (dv 0) (da_nil rfl))) (nomark _))))) (dcP G_number_in (hr.mono (by omega)) (by rfl) (da_cons (de_ix (ixd_any rfl) (dv 0) (de_op (od_plus rfl) (dv 1) (de_int rfl))) (da_nil rfl))) (de_f (df_lst (da_nil rfl)))))
  (dss_cons (ds_if (DW.dt (dw_or (dt_not (dt_truth (dv 4))) (dw_or1 (dt_not (dt_chain (od_le) (od_le) (de_int rfl) (de_ix (ixd_any rfl) (dv 4) (de_int rfl)) (de_glob (v := V.int 4) (d := Dv.d (.int 4)) rfl (by rfl) c_MOST_FACTS ⟨_, rfl⟩ (fun _ => .int _))))))) (dss_one (ds_ret (de_f (df_lst (da_nil rfl))))) (dss_nil rfl))
  (dss_one (ds_ret (dcR G_joined_at hr (by rfl) (da_cons (dv 0) (da_cons (dv 1) (da_cons (de_ix (ixd_any rfl) (dv 4) (de_int rfl)) (da_cons (de_op (od_plus rfl) (dv 1) (de_int rfl)) (da_cons (dv 2) (da_nil rfl)))))))))))))))) ?_
  rintro ds R hl ⟨pre, x, ts, c, post, r, rfl, hq, hr, h8, hn, k⟩
  obtain ⟨W, hW⟩ : ∃ W : List PyData, W = (pre ++ (ts ++ post)).map PyData.str := ⟨_, rfl⟩
  unfold wsD
  rw [← hW]
  have htok := hq.tok
  have eN : lenD (.d (.list W)) = some (pre.length + (ts.length + post.length)) := by
    show some W.length = _
    rw [hW]
    simp
  have hts : 0 < ts.length := List.length_pos_iff.mpr htok.2.1
  have hlt : decide ((pre.length : Int) < ((pre.length + (ts.length + post.length) : Nat) : Int)) = true := decide_eq_true (by omega)
  have hlt2 : 2 ≤ ts.length → decide ((pre.length : Int) + 1 < ((pre.length + (ts.length + post.length) : Nat) : Int)) = true := fun h => decide_eq_true (by omega)
  rcases hq.cases with ⟨hf, rfl⟩ | ⟨m, y, us, rfl, rfl, rfl, hq2⟩ | ⟨m, j, qs, rfl, h2, h4, rfl, rfl, rfl, hq2⟩
  · obtain ⟨kk, l, h⟩ := hf.as
    have e0 : ixD (.d (.list W)) (pre.length : Int) = some (.str kk) := by
      have := ixL_mid (pre := pre.map PyData.str) (a := .str kk) (post := (l.map fun e => PyData.str e.2.1) ++ post.map PyData.str)
      rw [List.length_map] at this
      rw [← this, hW, h.et]
      simp [List.map_map, Function.comp_def]
    have eF := h.f
    repeat (first | exact Or.inl rfl | refine ⟨Nat.le_of_ble_eq_true rfl, ?_⟩ | refine ⟨rfl, ?_⟩ | refine ⟨trivial, ?_⟩ | refine ⟨Or.inl rfl, ?_⟩ | refine ⟨_, eN, ?_⟩ | refine ⟨_, rfl, ?_⟩ | rw [hlt])
    repeat (first | exact Or.inl rfl | refine ⟨Nat.le_of_ble_eq_true rfl, ?_⟩ | refine ⟨rfl, ?_⟩ | refine ⟨trivial, ?_⟩ | refine ⟨Or.inl rfl, ?_⟩ | refine ⟨_, e0, ?_⟩ | refine ⟨_, eF, ?_⟩ | refine ⟨_, rfl, ?_⟩)
    refine ⟨pre, x, ts, post, by unfold wsD; rw [hW], hf, hn, ?_⟩
    exact Or.inl ⟨_, rfl, k⟩
  · have e0 : ixD (.d (.list W)) (pre.length : Int) = some (.str ("not" : Str)) := by
      have := ixL_mid (pre := pre.map PyData.str) (a := .str ("not" : Str)) (post := (us ++ post).map PyData.str)
      rw [List.length_map] at this
      rw [← this, hW]
      simp
    have eF : tabOf facL ("not" : Str) = some none := rfl
    have ha : decide ((3 : Int) < (r : Int)) = false := decide_eq_false (by omega)
    repeat (first | exact Or.inl rfl | refine ⟨Nat.le_of_ble_eq_true rfl, ?_⟩ | refine ⟨rfl, ?_⟩ | refine ⟨trivial, ?_⟩ | refine ⟨Or.inl rfl, ?_⟩ | refine ⟨_, eN, ?_⟩ | refine ⟨_, rfl, ?_⟩ | rw [hlt])
    repeat (first | exact Or.inl rfl | refine ⟨Nat.le_of_ble_eq_true rfl, ?_⟩ | refine ⟨rfl, ?_⟩ | refine ⟨trivial, ?_⟩ | refine ⟨Or.inl rfl, ?_⟩ | refine ⟨_, e0, ?_⟩ | refine ⟨_, eF, ?_⟩ | refine ⟨_, rfl, ?_⟩ | rw [ha])
    have hw : pre ++ (("not" : Str) :: us ++ post) = pre ++ (("not" : Str) :: ([] ++ flatQ [(y, us, c)]) ++ post) := by
      unfold flatQ
      simp
    refine ⟨pre, ("not" : Str), [], [(y, us, c)], post, r, (pre.length : Int) + 1, ?_, by simp, by simp, ?_, by omega, by rw [← hw]; exact h8, by rw [← hw]; exact hn, ?_⟩
    · unfold wsD
      rw [hW, hw]
      rfl
    · intro q hq
      rw [List.mem_singleton.mp hq]
      exact hq2
    · have e1 : ((("not" : Str) :: ([] ++ flatQ [(y, us, c)])).length : Int) = ((("not" : Str) :: us).length : Int) := by
        unfold flatQ
        simp
      rw [e1]
      exact Or.inl ⟨_, rfl, k⟩
  · have e0 : ixD (.d (.list W)) (pre.length : Int) = some (.str (jn j)) := by
      have := ixL_mid (pre := pre.map PyData.str) (a := .str (jn j)) (post := (numS qs.length :: (qs.map fun q => q.2.1).flatten ++ post).map PyData.str)
      rw [List.length_map] at this
      rw [← this, hW]
      simp
    have e1 : ixD (.d (.list W)) ((pre.length : Int) + 1) = some (.str (numS qs.length)) := by
      have := ixL_mid (pre := (pre ++ [jn j]).map PyData.str) (a := .str (numS qs.length)) (post := ((qs.map fun q => q.2.1).flatten ++ post).map PyData.str)
      rw [List.length_map, show (((pre ++ [jn j]).length : Nat) : Int) = (pre.length : Int) + 1 by simp] at this
      rw [← this, hW]
      simp
    obtain ⟨t1, t2, t3, t4⟩ := jn_tab j
    have ha : decide ((3 : Int) < (r : Int)) = false := decide_eq_false (by omega)
    have io : inOk (.str (jn j)) joinL := Or.inl ⟨rfl, rfl⟩
    have t5 : (true == inD (.str (jn j)) joinL) = true := by rw [t4]; rfl
    have hlt3 := hlt2 (by simp)
    have fN : m_number_in [.d (.str (numS qs.length))] = some (.d (.list [.int (qs.length : Int)])) := by
      rw [← (num_ok (show qs.length < 1000 by omega)).1]
      exact if_pos (Nat.le_trans (num_ok (show qs.length < 1000 by omega)).2.2.1 (by decide))
    have g1 : decide ((2 : Int) ≤ (qs.length : Int)) = true := decide_eq_true (by omega)
    have g2 : decide ((qs.length : Int) ≤ 4) = true := decide_eq_true (by omega)
    repeat (first | exact Or.inl rfl | refine ⟨Nat.le_of_ble_eq_true rfl, ?_⟩ | refine ⟨rfl, ?_⟩ | refine ⟨trivial, ?_⟩ | refine ⟨Or.inl rfl, ?_⟩ | refine ⟨_, eN, ?_⟩ | refine ⟨_, rfl, ?_⟩ | rw [hlt])
    repeat (first | exact Or.inl rfl | refine ⟨Nat.le_of_ble_eq_true rfl, ?_⟩ | refine ⟨rfl, ?_⟩ | refine ⟨trivial, ?_⟩ | refine ⟨Or.inl rfl, ?_⟩ | refine ⟨_, e0, ?_⟩ | refine ⟨_, t2, ?_⟩ | refine ⟨_, eN, ?_⟩ | refine ⟨_, rfl, ?_⟩ | rw [ha] | rw [t3])
    repeat (first | exact Or.inl rfl | refine ⟨Nat.le_of_ble_eq_true rfl, ?_⟩ | refine ⟨rfl, ?_⟩ | refine ⟨trivial, ?_⟩ | refine ⟨Or.inl rfl, ?_⟩ | refine ⟨_, e0, ?_⟩ | refine ⟨_, t2, ?_⟩ | refine ⟨_, eN, ?_⟩ | refine ⟨io, ?_⟩ | refine ⟨_, rfl, ?_⟩ | rw [ha] | rw [t3] | rw [t5])
    repeat (first | exact Or.inl rfl | refine ⟨Nat.le_of_ble_eq_true rfl, ?_⟩ | refine ⟨rfl, ?_⟩ | refine ⟨trivial, ?_⟩ | refine ⟨Or.inl rfl, ?_⟩ | refine ⟨_, e0, ?_⟩ | refine ⟨_, e1, ?_⟩ | refine ⟨_, t2, ?_⟩ | refine ⟨_, eN, ?_⟩ | refine ⟨_, fN, ?_⟩ | refine ⟨io, ?_⟩ | refine ⟨_, rfl, ?_⟩ | rw [hlt3] | rw [t5])
    repeat (first | exact Or.inl rfl | refine ⟨Nat.le_of_ble_eq_true rfl, ?_⟩ | refine ⟨rfl, ?_⟩ | refine ⟨trivial, ?_⟩ | refine ⟨Or.inl rfl, ?_⟩ | refine ⟨_, e0, ?_⟩ | refine ⟨_, e1, ?_⟩ | refine ⟨_, t2, ?_⟩ | refine ⟨_, eN, ?_⟩ | refine ⟨_, fN, ?_⟩ | refine ⟨_, rfl, ?_⟩ | rw [g1] | rw [g2])
    have hw : pre ++ ((jn j :: numS qs.length :: (qs.map fun q => q.2.1).flatten) ++ post) = pre ++ (jn j :: ([numS qs.length] ++ flatQ qs) ++ post) := by
      unfold flatQ
      simp
    refine ⟨pre, jn j, [numS qs.length], qs, post, r, (pre.length : Int) + 2, ?_, by simp; omega, by omega, hq2, by omega, by rw [← hw]; exact h8, by rw [← hw]; exact hn, ?_⟩
    · unfold wsD
      rw [hW, hw]
    · have e1 : ((jn j :: ([numS qs.length] ++ flatQ qs)).length : Int) = ((jn j :: numS qs.length :: (qs.map fun q => q.2.1).flatten).length : Int) := by
        unfold flatQ
        simp
      rw [e1]
      exact Or.inl ⟨_, rfl, k⟩

end
end L2.DD

set_option maxRecDepth 100000
set_option maxHeartbeats 4000000
namespace L2.DD
open PySem PySem.Spec PyProof.Rows
section
variable {P : Program} {w : World} {K : PySem.W.Frag} {mg : Str → Option Value} {base : Heap}
theorem no_spR {n : Nat} {m : List Dv → Wp Unit Dv} (h : ∀ ds R s, ¬ m ds R s) : ∀ vs H Q E, ¬ spR K n m vs H Q E := by
  rintro vs H Q E ⟨G, ds, R, _, _, _, z, _⟩
  exact h ds R () z
theorem all_facts_in (T : Tx w K mg) (D : Df K mg "facts_in" s_facts_in ["question"]) : ∀ n, DefOk P w K mg base (1 + n) "facts_in" ["question"] (spR K 1 (m_facts_in n))
  | 0 => defNo D (no_spR fun _ _ _ h => h)
  | n + 1 => ok_facts_in T D (k := 1 + n) (n := n) (Nat.le_add_right 1 n) (all_facts_in T D n)
theorem all_show_question (T : Tx w K mg) (D : Df K mg "show_question" s_show_question ["question"]) : ∀ n, DefOk P w K mg base (1 + n) "show_question" ["question"] (spR K 1 (m_show_question n))
  | 0 => defNo D (no_spR fun _ _ _ h => h)
  | n + 1 => ok_show_question T D (k := 1 + n) (n := n) (Nat.le_add_right 1 n) (all_show_question T D n)
theorem all__law_question_text (T : Tx w K mg) (D : Df K mg "_law_question_text" s__law_question_text ["thing"]) : ∀ n, DefOk P w K mg base (1 + n) "_law_question_text" ["thing"] (spR K 1 (m__law_question_text n))
  | 0 => defNo D (no_spR fun _ _ _ h => h)
  | n + 1 => ok__law_question_text T D (k := 1 + n) (n := n) (Nat.le_add_right 1 n) (all__law_question_text T D n)
theorem all_question_at (T : Tx w K mg) (DQ : Df K mg "question_at" s_question_at ["words", "at", "around"]) (DJ : Df K mg "joined_at" s_joined_at ["words", "at", "many", "start", "around"])
    (G_fact_at : DefOk P w K mg base 4 "fact_at" ["words", "at"] (spR K 2 m_fact_at)) (G_number_in : DefOk P w K mg base 1 "number_in" ["word"] (spP K 1 m_number_in)) : ∀ n, DefOk P w K mg base (10 + 2 * n) "question_at" ["words", "at", "around"] (spR K 3 (m_question_at n))
  | 0 => defNo DQ (no_spR fun _ _ _ h => h)
  | n + 1 => ok_question_at T DQ G_fact_at G_number_in (k := 10 + 2 * n + 1) (n := n) (Nat.le_add_right 10 (2 * n + 1)) (ok_joined_at T DJ (k := 10 + 2 * n) (n := n) (Nat.le_add_right 10 (2 * n)) (all_question_at T DQ DJ G_fact_at G_number_in n))
def m_question_in : List Dv → Wp Unit Dv := fun ds R s => ∃ ts x c, ds = [.d (.str (Txt.join sp1 ts))] ∧ QT 4 x ts c ∧ c ≤ 4 ∧ R (.d (.list [x])) s
def m_read_question : List Dv → Wp Unit Dv := fun ds R s => ∃ ts x c, ds = [.d (.str (Txt.join sp1 ts))] ∧ QT 4 x ts c ∧ c ≤ 4 ∧ R (.d x) s
abbrev nm_question_in : List Str := ["text", "words", "found"]
theorem sc_question_in : FnScope nm_question_in ["text"] (defScope s_question_in) := ⟨rfl, rfl, rfl, by decide +kernel, rfl, by decide +kernel, by decide +kernel⟩
theorem ok_question_in (T : Tx w K mg) (D : Df K mg "question_in" s_question_in ["text"]) (G_facts_in : DefOk P w K mg base 6 "facts_in" ["question"] (spR K 1 (m_facts_in 5))) (G_question_at : DefOk P w K mg base 20 "question_at" ["words", "at", "around"] (spR K 3 (m_question_at 5))) : DefOk P w K mg base 21 "question_in" ["text"] (spR K 1 m_question_in) := by
  have nd := sc_question_in.nd
  have t_len : mg "len" = none := T.b0 _ (by decide +kernel)
  obtain ⟨z_MOST_FACTS, c_MOST_FACTS⟩ := T.c_MOST_FACTS
  refine defR D sc_question_in (fun f cdv A outer s H E G0 hr => (dss_cons (ds_set (i := 1) nd rfl (by first | exact Or.inl rfl | exact Or.inr rfl) (de_f (df_split (dv 0) (de_str rfl))))
  (dss_cons (ds_set (i := 2) nd rfl (by first | exact Or.inl rfl | exact Or.inr rfl) (dcR G_question_at hr (by rfl) (da_cons (dv 1) (da_cons (de_int rfl) (da_cons (de_int rfl) (da_nil rfl))))))
  (dss_cons (ds_if (DW.dt (dw_or (dt_not (dt_truth (dv 2))) (dw_or (dt_cmp (od_ne rfl (u64 hr)) (de_ix (ixd_any rfl) (dv 2) (de_int rfl)) (de_callB (cd_len rfl) (by rfl) t_len (by decide +kernel) (da_cons (dv 1) (da_nil rfl))) (nomark _)) (dw_or1 (dt_cmp (od_gt) (de_callB (cd_len rfl) (by rfl) t_len (by decide +kernel) (da_cons (dcR G_facts_in (hr.mono (by decide)) (by rfl) (da_cons (de_ix (ixd_any rfl) (dv 2) (de_int rfl)) (da_nil rfl))) (da_nil rfl))) (de_glob (v := V.int 4) (d := Dv.d (.int 4)) rfl (by rfl) c_MOST_FACTS ⟨_, rfl⟩ (fun _ => .int _)) (nomark _)))))) (dss_one (ds_ret (de_f (df_lst (da_nil rfl))))) (dss_nil rfl))
  (dss_one (ds_ret (de_slice (dv 2) (do_none rfl) (do_some (de_int rfl))))))))) ?_
  rintro ds R hl ⟨ts, x, c, rfl, hq, hc, k⟩
  have ht := hq.tok
  have hs := hq.small (Nat.le_refl 4)
  have hws := words_back ht.2.1 ht.1
  have hsz : (sp1.length == 0) = false ∧ (Txt.join sp1 ts).length + 2 ≤ sizeLine := ⟨by decide +kernel, Nat.le_trans (Nat.add_le_add_right hs 2) (by decide)⟩
  have hws2 : Txt.split (Txt.join sp1 ts) (" " : String) = ts := hws
  have q4 := qlen4 (Nat.le_refl 4)
  refine ⟨_, rfl, _, rfl, _, rfl, hsz, ?_⟩
  rw [hws2]
  repeat (first | exact Or.inl rfl | refine ⟨Nat.le_of_ble_eq_true rfl, ?_⟩ | refine ⟨rfl, ?_⟩ | refine ⟨trivial, ?_⟩ | refine ⟨Or.inl rfl, ?_⟩ | refine ⟨_, rfl, ?_⟩)
  refine ⟨[], x, ts, c, [], 0, ?_, hq, by decide, fun t h => ?_, ?_, ?_⟩
  · show _ = [wsD ([] ++ (ts ++ [])), _, _]
    rw [List.nil_append, List.append_nil]
    rfl
  · rw [List.nil_append, List.append_nil] at h
    exact (ht.1 t h).l8
  · rw [List.nil_append, List.append_nil]
    have := ht.2.2
    omega
  · have e1 : ((([] : List Str).length : Int) + (ts.length : Int)) = (ts.length : Int) := by
      show ((0 : Nat) : Int) + _ = _
      omega
    rw [e1]
    have eN : lenD (.d (.list (ts.map PyData.str))) = some ts.length := by
      show some (List.length _) = _
      rw [List.length_map]
    have ne : (!PyData.eqv (.int (ts.length : Int)) (.int (ts.length : Int))) = false := by
      rw [show PyData.eqv (.int (ts.length : Int)) (.int (ts.length : Int)) = true from beq_self_eq_true _]
      rfl
    repeat (first | exact Or.inl rfl | refine ⟨Nat.le_of_ble_eq_true rfl, ?_⟩ | refine ⟨rfl, ?_⟩ | refine ⟨trivial, ?_⟩ | refine ⟨Or.inl rfl, ?_⟩ | refine ⟨_, eN, ?_⟩ | refine ⟨_, rfl, ?_⟩ | rw [ne])
    refine ⟨x, ts, c, rfl, hq, Nat.le_trans hc (by decide), fun l hl => ?_⟩
    have eL : lenD (.d (.list l)) = some c := by
      show some l.length = _
      rw [hl]
    have hlt : decide ((4 : Int) < (c : Int)) = false := decide_eq_false (by omega)
    repeat (first | exact Or.inl rfl | refine ⟨Nat.le_of_ble_eq_true rfl, ?_⟩ | refine ⟨rfl, ?_⟩ | refine ⟨trivial, ?_⟩ | refine ⟨Or.inl rfl, ?_⟩ | refine ⟨_, eL, ?_⟩ | refine ⟨_, rfl, ?_⟩ | rw [hlt])
    exact Or.inl ⟨_, rfl, k⟩
abbrev nm_read_question : List Str := ["text"]
theorem sc_read_question : FnScope nm_read_question ["text"] (defScope s_read_question) := ⟨rfl, rfl, rfl, by decide +kernel, rfl, by decide +kernel, by decide +kernel⟩
theorem ok_read_question (T : Tx w K mg) (D : Df K mg "read_question" s_read_question ["text"]) (G_question_in : DefOk P w K mg base 21 "question_in" ["text"] (spR K 1 m_question_in)) (G_the_one : DefOk P w K mg base 1 "the_one" ["found", "text"] (spP K 2 m_the_one)) : DefOk P w K mg base 22 "read_question" ["text"] (spR K 1 m_read_question) := by
  have nd := sc_read_question.nd
  have t_isinstance : mg "isinstance" = none := T.b0 _ (by decide +kernel)
  have t_str : mg "str" = none := T.b0 _ (by decide +kernel)
  refine defR D sc_read_question (fun f cdv A outer s H E G0 hr => (dss_one (ds_ret (dcP G_the_one (hr.mono (by decide)) (by rfl) (da_cons (de_if (dt_truth (de_callB (cd_isi rfl) (by rfl) t_isinstance (by decide +kernel) (da_cons (dv 0) (da_cons (de_cls (T := "str") rfl (by rfl) t_str (by decide +kernel)) (da_nil rfl))))) (dcR G_question_in hr (by rfl) (da_cons (dv 0) (da_nil rfl))) (de_f (df_lst (da_nil rfl)))) (da_cons (dv 0) (da_nil rfl))))))) ?_
  rintro ds R hl ⟨ts, x, c, rfl, hq, hc, k⟩
  repeat (first | exact Or.inl rfl | refine ⟨Nat.le_of_ble_eq_true rfl, ?_⟩ | refine ⟨rfl, ?_⟩ | refine ⟨trivial, ?_⟩ | refine ⟨Or.inl rfl, ?_⟩ | refine ⟨_, rfl, ?_⟩)
  refine ⟨ts, x, c, rfl, hq, hc, ?_⟩
  have f : m_the_one [.d (.list [x]), .d (.str (Txt.join sp1 ts))] = some (.d x) := rfl
  repeat (first | exact Or.inl rfl | refine ⟨Nat.le_of_ble_eq_true rfl, ?_⟩ | refine ⟨rfl, ?_⟩ | refine ⟨trivial, ?_⟩ | refine ⟨Or.inl rfl, ?_⟩ | refine ⟨_, f, ?_⟩ | refine ⟨_, rfl, ?_⟩)
  exact Or.inl ⟨_, rfl, k⟩

end
end L2.DD

set_option maxRecDepth 100000
set_option maxHeartbeats 4000000
namespace L2.DD
open PySem PySem.Spec PyProof.Rows
section
variable {P : Program} {w : World} {K : PySem.W.Frag} {mg : Str → Option Value} {base : Heap}
theorem quest_text {x : PyData} {ts : List Str} {c : Nat} (h : QT 4 x ts c) : reprOk (.str (Txt.join sp1 ts)) := text_ok (words_sign h.tok.1) (Nat.le_trans (h.small (Nat.le_refl 4)) (by decide))
def m_show_step : List Dv → Wp Unit Dv := fun ds R s => ∃ x ts, ds = [.d x] ∧ Step x ts ∧ R (.d (.str (Txt.join sp1 ts))) s
def m_step_in : List Dv → Wp Unit Dv := fun ds R s => ∃ x ts, ds = [.d (.str (Txt.join sp1 ts))] ∧ Step x ts ∧ R (.d (.list [x])) s
def m_show_run : List Dv → Wp Unit Dv := fun ds R s => ∃ ps, ds = [.d (runX ps)] ∧ Steps ps ∧ R (.d (.str (runT ps))) s
def m_run_in : List Dv → Wp Unit Dv := fun ds R s => ∃ ps, ds = [.d (.str (runT ps))] ∧ Steps ps ∧ R (.d (.list [runX ps])) s
def m_read_run : List Dv → Wp Unit Dv := fun ds R s => ∃ ps, ds = [.d (.str (runT ps))] ∧ Steps ps ∧ R (.d (runX ps)) s
abbrev nm_show_step : List Str := ["step", "part"]
theorem sc_show_step : FnScope nm_show_step ["step"] (defScope s_show_step) := ⟨rfl, rfl, rfl, by decide +kernel, rfl, by decide +kernel, by decide +kernel⟩
theorem ok_show_step (T : Tx w K mg) (D : Df K mg "show_step" s_show_step ["step"]) : DefOk P w K mg base 1 "show_step" ["step"] (spR K 1 m_show_step) := by
  have nd := sc_show_step.nd
  have t_str : mg "str" = none := T.b0 _ (by decide +kernel)
  refine defR D sc_show_step (fun f cdv A outer s H E G0 hr => (dss_one (ds_ret (de_join (de_str rfl) (de_f (df_lc (own := [("part", 1)]) rfl nd (di_any (dv 0)) (blkOk_by (own := [("part", 1)]) (N := nm_show_step) (sc := defScope s_show_step) (by decide +kernel)) (fun _ _ _ _ _ => (dg_name (i := 1) rfl nd rfl (by first | exact Or.inl rfl | exact Or.inr rfl))) (fun _ _ _ _ _ => dts_one (dt_cmp (od_isNot) (dv 1) (de_non rfl) (nomark _))) (fun _ _ _ _ _ => (de_callTy (cd_str) (by rfl) t_str (by decide +kernel) (da_cons (dv 1) (da_nil rfl)))))))))) ?_
  rintro ds R hl ⟨x, ts, rfl, h, k⟩
  have hz : (ts.map (·.length)).sum + ts.length * sp1.length ≤ 16777216 := jn_size (k := 3) (fun t ht => Nat.le_trans (h.tok.1 t ht).l8 (by decide)) h.tok.2.2 (by decide)
  cases h with
  | do2 h v hh hv =>
    have e1 := num_str hh
    have e2 := num_str hv
    repeat (first | exact Or.inl rfl | refine ⟨Nat.le_of_ble_eq_true rfl, ?_⟩ | refine ⟨rfl, ?_⟩ | refine ⟨trivial, ?_⟩ | refine ⟨Or.inl rfl, ?_⟩ | refine ⟨_, e1, ?_⟩ | refine ⟨_, e2, ?_⟩ | refine ⟨hz, ?_⟩ | refine ⟨_, rfl, ?_⟩)
    exact Or.inl ⟨_, rfl, k⟩
  | do1 h hh =>
    have e1 := num_str hh
    repeat (first | exact Or.inl rfl | refine ⟨Nat.le_of_ble_eq_true rfl, ?_⟩ | refine ⟨rfl, ?_⟩ | refine ⟨trivial, ?_⟩ | refine ⟨Or.inl rfl, ?_⟩ | refine ⟨_, e1, ?_⟩ | refine ⟨hz, ?_⟩ | refine ⟨_, rfl, ?_⟩)
    exact Or.inl ⟨_, rfl, k⟩
  | wr h hh =>
    have e1 := num_str hh
    repeat (first | exact Or.inl rfl | refine ⟨Nat.le_of_ble_eq_true rfl, ?_⟩ | refine ⟨rfl, ?_⟩ | refine ⟨trivial, ?_⟩ | refine ⟨Or.inl rfl, ?_⟩ | refine ⟨_, e1, ?_⟩ | refine ⟨hz, ?_⟩ | refine ⟨_, rfl, ?_⟩)
    exact Or.inl ⟨_, rfl, k⟩
  | ag =>
    repeat (first | exact Or.inl rfl | refine ⟨Nat.le_of_ble_eq_true rfl, ?_⟩ | refine ⟨rfl, ?_⟩ | refine ⟨trivial, ?_⟩ | refine ⟨Or.inl rfl, ?_⟩ | refine ⟨hz, ?_⟩ | refine ⟨_, rfl, ?_⟩)
    exact Or.inl ⟨_, rfl, k⟩
abbrev nm_step_in : List Str := ["text", "words", "kind", "numbers", "word", "parts", "number"]
theorem sc_step_in : FnScope nm_step_in ["text"] (defScope s_step_in) := ⟨rfl, rfl, rfl, by decide +kernel, rfl, by decide +kernel, by decide +kernel⟩
theorem ok_step_in (T : Tx w K mg) (D : Df K mg "step_in" s_step_in ["text"]) (G_number_in : DefOk P w K mg base 1 "number_in" ["word"] (spP K 1 m_number_in)) : DefOk P w K mg base 2 "step_in" ["text"] (spR K 1 m_step_in) := by
  have nd := sc_step_in.nd
  have t_len : mg "len" = none := T.b0 _ (by decide +kernel)
  refine defR D sc_step_in (fun f cdv A outer s H E G0 hr => (dss_cons (ds_set (i := 1) nd rfl (by first | exact Or.inl rfl | exact Or.inr rfl) (de_f (df_split (dv 0) (de_str rfl))))
  (dss_cons (ds_set (i := 2) nd rfl (by first | exact Or.inl rfl | exact Or.inr rfl) (de_ix (ixd_any rfl) (dv 1) (de_int rfl)))
  (dss_cons (ds_setLc (i := 3) (py := ⟨_, _, _, _⟩) (own := [("word", 4)]) rfl nd rfl rfl (sw_true rfl rfl rfl (by decide +kernel)) (di_any (de_slice (dv 1) (do_some (de_int rfl)) (do_none rfl))) (blkOk_by (own := [("word", 4)]) (N := nm_step_in) (sc := defScope s_step_in) (by decide +kernel)) (fun _ _ _ _ _ => (dg_name (i := 4) rfl nd rfl (by first | exact Or.inl rfl | exact Or.inr rfl))) (fun _ _ _ _ _ => dts_nil rfl) (fun _ _ _ _ _ => (dcP G_number_in hr (by rfl) (da_cons (dv 4) (da_nil rfl)))))
  (dss_cons (ds_if (DW.dt (dw_or (dt_cmp (od_in rfl (u65 hr)) (de_f (df_lst (da_nil rfl))) (dv 3) (by rfl)) (dw_or1 (dt_cmp (od_gt) (de_callB (cd_len rfl) (by rfl) t_len (by decide +kernel) (da_cons (dv 3) (da_nil rfl))) (de_int rfl) (nomark _))))) (dss_one (ds_ret (de_f (df_lst (da_nil rfl))))) (dss_nil rfl))
  (dss_cons (ds_setLc (i := 5) (py := ⟨_, _, _, _⟩) (own := [("number", 6)]) rfl nd rfl rfl (sw_true rfl rfl rfl (by decide +kernel)) (di_any (dv 3)) (blkOk_by (own := [("number", 6)]) (N := nm_step_in) (sc := defScope s_step_in) (by decide +kernel)) (fun _ _ _ _ _ => (dg_name (i := 6) rfl nd rfl (by first | exact Or.inl rfl | exact Or.inr rfl))) (fun _ _ _ _ _ => dts_nil rfl) (fun _ _ _ _ _ => (de_ix (ixd_any rfl) (dv 6) (de_int rfl))))
  (dss_cons (ds_if (DW.dt (dw_and (dt_cmp (od_eq rfl (u64 hr)) (dv 2) (de_str rfl) (nomark _)) (dw_and1 (dt_cmp (od_gt) (de_callB (cd_len rfl) (by rfl) t_len (by decide +kernel) (da_cons (dv 5) (da_nil rfl))) (de_int rfl) (nomark _))))) (dss_one (ds_ret (de_f (df_lst (da_cons (de_tup (da_cons (de_str rfl) (da_cons (de_ix (ixd_any rfl) (dv 5) (de_int rfl)) (da_cons (de_if (dt_cmp (od_eq rfl (u64 hr)) (de_callB (cd_len rfl) (by rfl) t_len (by decide +kernel) (da_cons (dv 5) (da_nil rfl))) (de_int rfl) (nomark _)) (de_ix (ixd_any rfl) (dv 5) (de_int rfl)) (de_non rfl)) (da_nil rfl))))) (da_nil rfl)))))) (dss_nil rfl))
  (dss_cons (ds_if (DW.dt (dw_and (dt_cmp (od_eq rfl (u64 hr)) (de_callB (cd_len rfl) (by rfl) t_len (by decide +kernel) (da_cons (dv 5) (da_nil rfl))) (de_if (dt_cmp (od_eq rfl (u64 hr)) (dv 2) (de_str rfl) (nomark _)) (de_int rfl) (de_int rfl)) (nomark _)) (dw_and1 (dt_cmp (od_in rfl (u65 hr)) (dv 2) (de_tup (da_cons (de_str rfl) (da_cons (de_str rfl) (da_nil rfl)))) (by rfl))))) (dss_one (ds_ret (de_f (df_lst (da_cons (de_tup (da_cons (dv 2) (da_star (dv 5) (da_nil rfl)))) (da_nil rfl)))))) (dss_nil rfl))
  (dss_one (ds_ret (de_f (df_lst (da_nil rfl))))))))))))) ?_
  rintro ds R hl ⟨x, ts, rfl, h, k⟩
  have ht := h.tok
  have hs := h.small
  have hws2 : Txt.split (Txt.join sp1 ts) (" " : String) = ts := words_back ht.2.1 ht.1
  have hsz : ((((" " : String) : Str)).length == 0) = false ∧ (Txt.join sp1 ts).length + 2 ≤ sizeLine := ⟨by decide +kernel, Nat.le_trans (Nat.add_le_add_right hs 2) (by decide)⟩
  refine ⟨_, rfl, _, rfl, _, rfl, hsz, ?_⟩
  rw [hws2]
  have fN : ∀ {n : Nat}, n < 1000 → m_number_in [.d (.str (numS n))] = some (.d (.list [.int (n : Int)])) := fun {n} h => by
    rw [← (num_ok h).1]
    exact if_pos (Nat.le_trans (num_ok h).2.2.1 (by decide))
  have io : ∀ f : List (List PyData), (∀ l ∈ f, ∀ d ∈ l, Laid 0 d) → inOk (.list []) (f.map PyData.list) := fun f h => inOk_empty (n := 0) h (by decide)
  cases h with
  | do2 h v hh hv =>
    have f1 := fN hh
    have f2 := fN hv
    have i1 : inOk (.list []) [.list [.int (h : Int)], .list [.int (v : Int)]] := io [[.int (h : Int)], [.int (v : Int)]] fun l hl d hd => by
      simp only [List.mem_cons, List.not_mem_nil, or_false] at hl
      rcases hl with rfl | rfl <;> (rw [List.mem_singleton.mp hd]; exact .int _)
    repeat (first | exact Or.inl rfl | refine ⟨Nat.le_of_ble_eq_true rfl, ?_⟩ | refine ⟨rfl, ?_⟩ | refine ⟨trivial, ?_⟩ | refine ⟨Or.inl rfl, ?_⟩ | refine ⟨_, f1, ?_⟩ | refine ⟨_, f2, ?_⟩ | refine ⟨i1, ?_⟩ | refine ⟨_, rfl, ?_⟩)
    exact Or.inl ⟨_, rfl, k⟩
  | do1 h hh =>
    have f1 := fN hh
    have i1 : inOk (.list []) [.list [.int (h : Int)]] := io [[.int (h : Int)]] fun l hl d hd => by
      simp only [List.mem_cons, List.not_mem_nil, or_false] at hl
      rcases hl with rfl
      rw [List.mem_singleton.mp hd]
      exact .int _
    repeat (first | exact Or.inl rfl | refine ⟨Nat.le_of_ble_eq_true rfl, ?_⟩ | refine ⟨rfl, ?_⟩ | refine ⟨trivial, ?_⟩ | refine ⟨Or.inl rfl, ?_⟩ | refine ⟨_, f1, ?_⟩ | refine ⟨i1, ?_⟩ | refine ⟨_, rfl, ?_⟩)
    exact Or.inl ⟨_, rfl, k⟩
  | wr h hh =>
    have f1 := fN hh
    have i1 : inOk (.list []) [.list [.int (h : Int)]] := io [[.int (h : Int)]] fun l hl d hd => by
      simp only [List.mem_cons, List.not_mem_nil, or_false] at hl
      rcases hl with rfl
      rw [List.mem_singleton.mp hd]
      exact .int _
    have i2 : inOk (.str ("write" : Str)) [.str ("write" : Str), .str ("again" : Str)] := Or.inl ⟨rfl, rfl⟩
    repeat (first | exact Or.inl rfl | refine ⟨Nat.le_of_ble_eq_true rfl, ?_⟩ | refine ⟨rfl, ?_⟩ | refine ⟨trivial, ?_⟩ | refine ⟨Or.inl rfl, ?_⟩ | refine ⟨_, f1, ?_⟩ | refine ⟨i1, ?_⟩ | refine ⟨i2, ?_⟩ | refine ⟨_, rfl, ?_⟩)
    exact Or.inl ⟨_, rfl, k⟩
  | ag =>
    have i1 : inOk (.list []) ([] : List PyData) := io [] fun l hl => by cases hl
    have i2 : inOk (.str ("again" : Str)) [.str ("write" : Str), .str ("again" : Str)] := Or.inl ⟨rfl, rfl⟩
    repeat (first | exact Or.inl rfl | refine ⟨Nat.le_of_ble_eq_true rfl, ?_⟩ | refine ⟨rfl, ?_⟩ | refine ⟨trivial, ?_⟩ | refine ⟨Or.inl rfl, ?_⟩ | refine ⟨i1, ?_⟩ | refine ⟨i2, ?_⟩ | refine ⟨_, rfl, ?_⟩)
    exact Or.inl ⟨_, rfl, k⟩
abbrev nm_show_run : List Str := ["run", "step"]
theorem sc_show_run : FnScope nm_show_run ["run"] (defScope s_show_run) := ⟨rfl, rfl, rfl, by decide +kernel, rfl, by decide +kernel, by decide +kernel⟩
theorem ok_show_run (T : Tx w K mg) (D : Df K mg "show_run" s_show_run ["run"]) (G_show_step : DefOk P w K mg base 1 "show_step" ["step"] (spR K 1 m_show_step)) : DefOk P w K mg base 2 "show_run" ["run"] (spR K 1 m_show_run) := by
  have nd := sc_show_run.nd
  refine defR D sc_show_run (fun f cdv A outer s H E G0 hr => (dss_one (ds_ret (de_if (dt_truth (dv 0)) (de_join (de_str rfl) (de_f (df_lc (own := [("step", 1)]) rfl nd (di_any (dv 0)) (blkOk_by (own := [("step", 1)]) (N := nm_show_run) (sc := defScope s_show_run) (by decide +kernel)) (fun _ _ _ _ _ => (dg_name (i := 1) rfl nd rfl (by first | exact Or.inl rfl | exact Or.inr rfl))) (fun _ _ _ _ _ => dts_nil rfl) (fun _ _ _ _ _ => (dcR G_show_step hr (by rfl) (da_cons (dv 1) (da_nil rfl))))))) (de_str rfl))))) ?_
  rintro ds R hl ⟨ps, rfl, h, k⟩
  unfold runX
  cases he : (ps.map fun p : Sp2 => p.1).isEmpty with
  | true =>
    have e : ps = [] := by simpa using List.isEmpty_iff.mp he
    subst e
    repeat (first | exact Or.inl rfl | refine ⟨Nat.le_of_ble_eq_true rfl, ?_⟩ | refine ⟨rfl, ?_⟩ | refine ⟨trivial, ?_⟩ | refine ⟨Or.inl rfl, ?_⟩ | refine ⟨_, rfl, ?_⟩)
    exact Or.inl ⟨_, rfl, k⟩
  | false =>
    have hne : ps ≠ [] := fun e => by subst e; cases he
    repeat (first | exact Or.inl rfl | refine ⟨Nat.le_of_ble_eq_true rfl, ?_⟩ | refine ⟨rfl, ?_⟩ | refine ⟨trivial, ?_⟩ | refine ⟨Or.inl rfl, ?_⟩ | refine ⟨_, rfl, ?_⟩ | rw [he])
    rw [List.map_map]
    refine lcW_map2 (i := 1) (fun p : Sp2 => p.1) (fun p => .str (Txt.join sp1 p.2)) ps [] _ _ ?_ ?_ ?_
    · exact Nat.le_trans (show 0 + ps.length ≤ 6 by have := h.1; omega) (by decide)
    · intro p hp R s q
      repeat (first | exact Or.inl rfl | refine ⟨Nat.le_of_ble_eq_true rfl, ?_⟩ | refine ⟨rfl, ?_⟩ | refine ⟨trivial, ?_⟩ | refine ⟨Or.inl rfl, ?_⟩ | refine ⟨_, rfl, ?_⟩)
      exact ⟨p.1, p.2, rfl, h.2 p hp, q⟩
    · rw [List.nil_append]
      have es : strsOf (ps.map fun p : Sp2 => PyData.str (Txt.join sp1 p.2)) = some (ps.map fun p : Sp2 => Txt.join sp1 p.2) := by
        rw [← strsOf_map, List.map_map]
        rfl
      have hz : ((ps.map fun p : Sp2 => Txt.join sp1 p.2).map (·.length)).sum + (ps.map fun p : Sp2 => Txt.join sp1 p.2).length * sc2.length ≤ 16777216 := by
        have e := sum_len_le (ps.map fun p : Sp2 => Txt.join sp1 p.2) 27 (fun p hp => by
          obtain ⟨q, hq, rfl⟩ := List.mem_map.mp hp
          exact (h.2 q hq).small)
        have h1 := h.1
        rw [List.length_map] at e ⊢
        rw [show sc2.length = 2 from rfl]
        omega
      repeat (first | exact Or.inl rfl | refine ⟨Nat.le_of_ble_eq_true rfl, ?_⟩ | refine ⟨rfl, ?_⟩ | refine ⟨trivial, ?_⟩ | refine ⟨Or.inl rfl, ?_⟩ | refine ⟨_, es, ?_⟩ | refine ⟨hz, ?_⟩ | refine ⟨_, rfl, ?_⟩)
      rw [runT_eq hne] at k
      exact Or.inl ⟨_, rfl, k⟩
abbrev nm_run_in : List Str := ["text", "found", "part", "one"]
theorem sc_run_in : FnScope nm_run_in ["text"] (defScope s_run_in) := ⟨rfl, rfl, rfl, by decide +kernel, rfl, by decide +kernel, by decide +kernel⟩
theorem ok_run_in (T : Tx w K mg) (D : Df K mg "run_in" s_run_in ["text"]) (G_step_in : DefOk P w K mg base 2 "step_in" ["text"] (spR K 1 m_step_in)) : DefOk P w K mg base 3 "run_in" ["text"] (spR K 1 m_run_in) := by
  have nd := sc_run_in.nd
  have t_tuple : mg "tuple" = none := T.b0 _ (by decide +kernel)
  refine defR D sc_run_in (fun f cdv A outer s H E G0 hr => (dss_cons (ds_if (dt_cmp (od_eq rfl (u64 hr)) (dv 0) (de_str rfl) (nomark _)) (dss_one (ds_ret (de_f (df_lst (da_cons (de_tup (da_nil rfl)) (da_nil rfl)))))) (dss_nil rfl))
  (dss_cons (ds_setLc (i := 1) (py := ⟨_, _, _, _⟩) (own := [("part", 2)]) rfl nd rfl rfl (sw_true rfl rfl rfl (by decide +kernel)) (di_any (de_f (df_split (dv 0) (de_str rfl)))) (blkOk_by (own := [("part", 2)]) (N := nm_run_in) (sc := defScope s_run_in) (by decide +kernel)) (fun _ _ _ _ _ => (dg_name (i := 2) rfl nd rfl (by first | exact Or.inl rfl | exact Or.inr rfl))) (fun _ _ _ _ _ => dts_nil rfl) (fun _ _ _ _ _ => (dcR G_step_in hr (by rfl) (da_cons (dv 2) (da_nil rfl)))))
  (dss_one (ds_ret (de_if (dt_cmp (od_in rfl (u65 hr)) (de_f (df_lst (da_nil rfl))) (dv 1) (by rfl)) (de_f (df_lst (da_nil rfl))) (de_f (df_lst (da_cons (de_callTy (cd_tuple rfl) (by rfl) t_tuple (by decide +kernel) (da_cons (de_f (df_lc (own := [("one", 3)]) rfl nd (di_any (dv 1)) (blkOk_by (own := [("one", 3)]) (N := nm_run_in) (sc := defScope s_run_in) (by decide +kernel)) (fun _ _ _ _ _ => (dg_name (i := 3) rfl nd rfl (by first | exact Or.inl rfl | exact Or.inr rfl))) (fun _ _ _ _ _ => dts_nil rfl) (fun _ _ _ _ _ => (de_ix (ixd_any rfl) (dv 3) (de_int rfl))))) (da_nil rfl))) (da_nil rfl)))))))))) ?_
  rintro ds R hl ⟨ps, rfl, h, k⟩
  by_cases hne : ps = []
  · subst hne
    repeat (first | exact Or.inl rfl | refine ⟨Nat.le_of_ble_eq_true rfl, ?_⟩ | refine ⟨rfl, ?_⟩ | refine ⟨trivial, ?_⟩ | refine ⟨Or.inl rfl, ?_⟩ | refine ⟨_, rfl, ?_⟩)
    exact Or.inl ⟨_, rfl, k⟩
  · have nd := run_notDash h hne
    have hb := run_back h hne
    have hl := run_len h
    generalize hT : runT ps = T at nd hb hl
    have hsz : ((((("; " : String)) : Str)).length == 0) = false ∧ T.length + 2 ≤ sizeLine := ⟨by decide +kernel, Nat.le_trans (show _ ≤ 300 by omega) (by decide)⟩
    repeat (first | exact Or.inl rfl | refine ⟨Nat.le_of_ble_eq_true rfl, ?_⟩ | refine ⟨rfl, ?_⟩ | refine ⟨trivial, ?_⟩ | refine ⟨Or.inl rfl, ?_⟩ | refine ⟨hsz, ?_⟩ | refine ⟨_, rfl, ?_⟩ | rw [nd])
    have hb2 : Txt.split T ("; " : String) = ps.map fun p : Sp2 => Txt.join sp1 p.2 := hb
    rw [hb2, List.map_map, List.map_map]
    refine lcW_map2 (i := 2) (fun p : Sp2 => .str (Txt.join sp1 p.2)) (fun p => .list [p.1]) ps [] _ _ ?_ ?_ ?_
    · exact Nat.le_trans (show 0 + ps.length ≤ 6 by have := h.1; omega) (by decide)
    · intro p hp R s q
      repeat (first | exact Or.inl rfl | refine ⟨Nat.le_of_ble_eq_true rfl, ?_⟩ | refine ⟨rfl, ?_⟩ | refine ⟨trivial, ?_⟩ | refine ⟨Or.inl rfl, ?_⟩ | refine ⟨_, rfl, ?_⟩)
      exact ⟨p.1, p.2, rfl, h.2 p hp, q⟩
    · rw [List.nil_append]
      have io : inOk (.list []) ((ps.map fun p : Sp2 => [p.1]).map PyData.list) := inOk_empty (n := 1) (fun z hz d hd => by
        obtain ⟨e, he, rfl⟩ := List.mem_map.mp hz
        rw [List.mem_singleton.mp hd]
        exact (h.2 e he).laid) (by decide)
      have ie : inD (.list []) ((ps.map fun p : Sp2 => [p.1]).map PyData.list) = false := by
        rw [inD_empty, List.any_map]
        exact List.any_eq_false.mpr fun e _ => by simp
      rw [List.map_map] at io ie
      have io2 : inOk (.list []) (ps.map fun p : Sp2 => PyData.list [p.1]) := io
      have ie2 : (true == inD (.list []) (ps.map fun p : Sp2 => PyData.list [p.1])) = false := by rw [show inD (.list []) (ps.map fun p : Sp2 => PyData.list [p.1]) = false from ie]; rfl
      repeat (first | exact Or.inl rfl | refine ⟨Nat.le_of_ble_eq_true rfl, ?_⟩ | refine ⟨rfl, ?_⟩ | refine ⟨trivial, ?_⟩ | refine ⟨Or.inl rfl, ?_⟩ | refine ⟨io2, ?_⟩ | refine ⟨_, rfl, ?_⟩ | rw [ie2])
      rw [List.map_map]
      refine lcW_map2 (i := 3) (fun p : Sp2 => .list [p.1]) (fun p => p.1) ps [] _ _ ?_ ?_ ?_
      · exact Nat.le_trans (show 0 + ps.length ≤ 6 by have := h.1; omega) (by decide)
      · intro p hp R s q
        repeat (first | exact Or.inl rfl | refine ⟨Nat.le_of_ble_eq_true rfl, ?_⟩ | refine ⟨rfl, ?_⟩ | refine ⟨trivial, ?_⟩ | refine ⟨Or.inl rfl, ?_⟩ | refine ⟨_, rfl, ?_⟩)
        exact q
      · rw [List.nil_append]
        repeat (first | exact Or.inl rfl | refine ⟨Nat.le_of_ble_eq_true rfl, ?_⟩ | refine ⟨rfl, ?_⟩ | refine ⟨trivial, ?_⟩ | refine ⟨Or.inl rfl, ?_⟩ | refine ⟨_, rfl, ?_⟩)
        exact Or.inl ⟨_, rfl, k⟩
abbrev nm_read_run : List Str := ["text"]
theorem sc_read_run : FnScope nm_read_run ["text"] (defScope s_read_run) := ⟨rfl, rfl, rfl, by decide +kernel, rfl, by decide +kernel, by decide +kernel⟩
theorem ok_read_run (T : Tx w K mg) (D : Df K mg "read_run" s_read_run ["text"]) (G_run_in : DefOk P w K mg base 3 "run_in" ["text"] (spR K 1 m_run_in)) (G_the_one : DefOk P w K mg base 1 "the_one" ["found", "text"] (spP K 2 m_the_one)) : DefOk P w K mg base 4 "read_run" ["text"] (spR K 1 m_read_run) := by
  have nd := sc_read_run.nd
  have t_isinstance : mg "isinstance" = none := T.b0 _ (by decide +kernel)
  have t_str : mg "str" = none := T.b0 _ (by decide +kernel)
  refine defR D sc_read_run (fun f cdv A outer s H E G0 hr => (dss_one (ds_ret (dcP G_the_one (hr.mono (by decide)) (by rfl) (da_cons (de_if (dt_truth (de_callB (cd_isi rfl) (by rfl) t_isinstance (by decide +kernel) (da_cons (dv 0) (da_cons (de_cls (T := "str") rfl (by rfl) t_str (by decide +kernel)) (da_nil rfl))))) (dcR G_run_in hr (by rfl) (da_cons (dv 0) (da_nil rfl))) (de_f (df_lst (da_nil rfl)))) (da_cons (dv 0) (da_nil rfl))))))) ?_
  rintro ds R hl ⟨ps, rfl, h, k⟩
  repeat (first | exact Or.inl rfl | refine ⟨Nat.le_of_ble_eq_true rfl, ?_⟩ | refine ⟨rfl, ?_⟩ | refine ⟨trivial, ?_⟩ | refine ⟨Or.inl rfl, ?_⟩ | refine ⟨_, rfl, ?_⟩)
  refine ⟨h, ?_⟩
  have f : m_the_one [.d (.list [runX ps]), .d (.str (runT ps))] = some (.d (runX ps)) := rfl
  repeat (first | exact Or.inl rfl | refine ⟨Nat.le_of_ble_eq_true rfl, ?_⟩ | refine ⟨rfl, ?_⟩ | refine ⟨trivial, ?_⟩ | refine ⟨Or.inl rfl, ?_⟩ | refine ⟨_, f, ?_⟩ | refine ⟨_, rfl, ?_⟩)
  exact Or.inl ⟨_, rfl, k⟩

end
end L2.DD

set_option maxRecDepth 100000
set_option maxHeartbeats 4000000
namespace L2.DD
open PySem PySem.Spec PyProof.Rows

section
variable {P : Program} {w : World} {K : PySem.W.Frag} {mg : Str → Option Value} {base : Heap}
theorem sc__law_take : FnScope ["pot", "upto", "digit", "prime", "mixed"] ["pot", "upto"] (defScope s__law_take) := ⟨rfl, rfl, rfl, by decide +kernel, rfl, by decide +kernel, by decide +kernel⟩
def KeepP (p : Addr) (H H' : Hp) : Prop := ∀ b o, b ≠ p → H b = some o → H' b = some o
def spTake : Sp := fun vs H Q _ => ∃ (p : Addr) (u m : Int) (n : Nat), vs = [.ref p, .int u] ∧ PotAt H p m n ∧ 0 ≤ m ∧ m < 2 ^ 61 ∧ n ≤ 1000000 ∧ 1 ≤ u ∧ u < 536870912 ∧
  ∀ (d : Int) (H' : Hp), 0 ≤ d → d < u → PotAt H' p m (n + 1) → KeepP p H H' → Q (.int d) H'
theorem raw_take {f : Addr} {fd : FuncData} (F : Fun K "_law_take" "_law_take" s__law_take f fd) (T : Tx w K mg) : FnOk P w K mg base CX0 1 f fd ["pot", "upto"] spTake := by
  have tInt : mg "int" = none := T.b0 _ (by decide +kernel)
  refine F.ok sc__law_take (fun vs H Q E h => ?_) (fun cdv A outer s H vs Q E hr h => ?_)
  · obtain ⟨p, u, m, n, rfl, _⟩ := h
    rfl
  · obtain ⟨p, u, m, n, rfl, ⟨o, c, hp, ho, hc0, hcn⟩, hm0, hm1, hn, hu1, hu2, k⟩ := h
    refine ⟨_, pss_cons (ps_if (pt_cmpR op_gt (pe_ix ix_list (pv 0) pe_int (fun _ _ => rfl)) pe_int (nomark _))
        (pss_cons (ps_set (i := 2) sc__law_take.nd rfl (Or.inl rfl) (pe_op op_mod (pe_callTy call_int1 (by rfl) tInt (by decide +kernel) (pa_cons (pe_ix ix_list (pv 0) pe_int (fun _ _ => rfl)) pa_nil)) (pv 1)))
        (pss_cons (ps_asg (pe_op op_fdiv (pe_ix ix_list (pv 0) pe_int (fun _ _ => rfl)) (pv 1)) (pg_sub (pv 0) pe_int set_list))
        (pss_one (ps_ret (pv 2))))) pss_nil)
      (pss_cons (ps_asg (pe_op op_add (pe_ix ix_list (pv 0) pe_int (fun _ _ => rfl)) pe_int) (pg_sub (pv 0) pe_int set_list))
      (pss_cons (ps_set (i := 3) sc__law_take.nd rfl (Or.inl rfl) (pe_ix ix_list (pe_lst (pa_cons pe_int (pa_cons pe_int (pa_cons pe_int (pa_cons pe_int (pa_cons pe_int pa_nil)))))) (pe_op op_mod (pe_callTy call_int1 (by rfl) tInt (by decide +kernel) (pa_cons (pe_ix ix_list (pv 0) pe_int (fun _ _ => rfl)) pa_nil)) pe_int) (fun _ _ => rfl)))
      (pss_cons (ps_set (i := 4) sc__law_take.nd rfl (Or.inl rfl) (pe_op op_mod (pe_callTy call_int1 (by rfl) tInt (by decide +kernel) (pa_cons (pe_op op_pow (pe_callTy call_int1 (by rfl) tInt (by decide +kernel) (pa_cons (pe_op op_add (pe_op op_add (pe_ix ix_list (pv 0) pe_int (fun _ _ => rfl)) (pe_op op_mul (pe_op op_mul pe_int (pe_ix ix_list (pv 0) pe_int (fun _ _ => rfl))) (pe_ix ix_list (pv 0) pe_int (fun _ _ => rfl)))) pe_int) pa_nil)) pe_int) pa_nil)) (pv 3)))
      (pss_cons (ps_set (i := 4) sc__law_take.nd rfl (Or.inl rfl) (pe_op op_mod (pe_callTy call_int1 (by rfl) tInt (by decide +kernel) (pa_cons (pe_op op_mul (pv 4) (pe_op op_add (pe_op op_mod (pe_callTy call_int1 (by rfl) tInt (by decide +kernel) (pa_cons (pv 4) pa_nil)) pe_int) (pe_op op_mul pe_int (pe_ix ix_list (pv 0) pe_int (fun _ _ => rfl))))) pa_nil)) pe_int))
      (pss_one (ps_ret (pe_op op_mod (pe_callTy call_int1 (by rfl) tInt (by decide +kernel) (pa_cons (pe_op op_fdiv (pv 4) pe_int) pa_nil)) (pv 1)))))))), ?_⟩
    have at0 : atI ([.int o, .int m, .int c] : List V) 0 = some (.int o) := rfl
    refine ⟨_, rfl, p, _, _, _, rfl, rfl, SqL.of hp, at0, _, _, rfl, rfl, _, rfl, ?_⟩
    have at2 : ∀ c' : Int, atI ([.int o, .int m, .int c'] : List V) 2 = some (.int c') := fun _ => rfl
    have at1 : ∀ c' : Int, atI ([.int o, .int m, .int c'] : List V) 1 = some (.int m) := fun _ => rfl
    refine ite2 (fun hpos => ?_) (fun _ => ?_)
    · refine ⟨_, rfl, p, _, _, _, rfl, rfl, SqL.of hp, at0, .inl ⟨_, rfl, _, rfl, _, _, rfl, rfl, (by show (0 : Int) < u; omega), ?_⟩⟩
      refine ⟨_, rfl, p, _, _, _, rfl, rfl, SqL.of hp, at0, _, rfl, _, _, rfl, rfl, ⟨by omega, by omega⟩, _, rfl, p, _, _, 0, rfl, rfl, hp, rfl, ?_⟩
      refine ⟨_, rfl, ?_⟩
      refine k _ _ (Int.emod_nonneg _ (by omega)) (Int.emod_lt_of_pos _ (by omega)) ⟨o / u, c, upd_same, Int.ediv_nonneg ho (by omega), hc0, by omega⟩ fun b ob hb e => ?_
      rw [upd_ne hb]
      exact e
    · refine ⟨_, rfl, p, _, _, _, rfl, rfl, SqL.of hp, at2 c, _, _, rfl, rfl, _, rfl, p, _, _, 2, rfl, rfl, hp, rfl, ?_⟩
      have hp1 : (upd H p (.lst [.int o, .int m, .int (c + 1)])) p = some (.lst [.int o, .int m, .int (c + 1)]) := upd_same
      refine ⟨(by show 5 ≤ sizeLine; decide), fun q hq => ?_⟩
      have nqp : p ≠ q := ne_of_none hp1 hq
      have hp2 : (upd (upd H p (.lst [.int o, .int m, .int (c + 1)])) q (.lst [.int 2147483647, .int 2147483629, .int 2147483587, .int 2147483579, .int 2147483563])) p = some (.lst [.int o, .int m, .int (c + 1)]) := by
        rw [upd_ne nqp]
        exact hp1
      have kp : KeepP p H (upd (upd H p (.lst [.int o, .int m, .int (c + 1)])) q (.lst [.int 2147483647, .int 2147483629, .int 2147483587, .int 2147483579, .int 2147483563])) := fun b ob hb e => by
        have e1 : (upd H p (.lst [.int o, .int m, .int (c + 1)])) b = some ob := by rw [upd_ne hb]; exact e
        rw [upd_ne (ne_of_none e1 hq)]
        exact e1
      have hq2 : (upd (upd H p (.lst [.int o, .int m, .int (c + 1)])) q (.lst [.int 2147483647, .int 2147483629, .int 2147483587, .int 2147483579, .int 2147483563])) q = some (.lst [.int 2147483647, .int 2147483629, .int 2147483587, .int 2147483579, .int 2147483563]) := upd_same
      obtain ⟨pr, hpr, pr0, pr1⟩ : ∃ pr : Int, atI ([.int 2147483647, .int 2147483629, .int 2147483587, .int 2147483579, .int 2147483563] : List V) ((c + 1) % 5) = some (.int pr) ∧ 0 < pr ∧ pr < 2147483648 := by
        have hr5 : (c + 1) % 5 = 0 ∨ (c + 1) % 5 = 1 ∨ (c + 1) % 5 = 2 ∨ (c + 1) % 5 = 3 ∨ (c + 1) % 5 = 4 := by omega
        rcases hr5 with e | e | e | e | e <;> rw [e]
        · exact ⟨2147483647, rfl, by decide, by decide⟩
        · exact ⟨2147483629, rfl, by decide, by decide⟩
        · exact ⟨2147483587, rfl, by decide, by decide⟩
        · exact ⟨2147483579, rfl, by decide, by decide⟩
        · exact ⟨2147483563, rfl, by decide, by decide⟩
      refine ⟨_, rfl, p, _, _, _, rfl, rfl, SqL.of hp2, at2 _, .inl ⟨_, rfl, _, _, rfl, rfl, (by show (0 : Int) < 5; decide), q, _, _, _, rfl, rfl, SqL.of hq2, hpr, ?_⟩⟩
      have hb : (m + 98999 * (c + 1) * (c + 1) + 43).natAbs < 2 ^ 64 := by
        have h1 : (c + 1) * (c + 1) ≤ 1000001 * 1000001 := Int.mul_le_mul (by omega) (by omega) (by omega) (by omega)
        have h2 : 0 ≤ (c + 1) * (c + 1) := Int.mul_nonneg (by omega) (by omega)
        have h3 : 98999 * (c + 1) * (c + 1) = 98999 * ((c + 1) * (c + 1)) := Int.mul_assoc _ _ _
        omega
      refine ⟨_, rfl, p, _, _, _, rfl, rfl, SqL.of hp2, at1 _, _, rfl, p, _, _, _, rfl, rfl, SqL.of hp2, at2 _, _, _, rfl, rfl, .inl ⟨by decide, by decide⟩,
        _, rfl, p, _, _, _, rfl, rfl, SqL.of hp2, at2 _, _, _, rfl, rfl, .inr ⟨by omega, by omega⟩, _, _, rfl, rfl, _, _, rfl, rfl, .inl ⟨_, rfl, _, _, rfl, rfl, ⟨by decide, by decide, hb⟩, .inl ⟨_, rfl, _, rfl, _, _, rfl, rfl, pr0, ?_⟩⟩⟩
      generalize hx : (m + 98999 * (c + 1) * (c + 1) + 43) ^ (3 : Int).toNat % pr = x1
      have x0 : 0 ≤ x1 := by rw [← hx]; exact Int.emod_nonneg _ (by omega)
      have x2 : x1 < 2147483648 := by rw [← hx]; exact Int.lt_trans (Int.emod_lt_of_pos _ pr0) pr1
      refine ⟨_, rfl, _, rfl, .inl ⟨_, rfl, _, _, rfl, rfl, (by show (0 : Int) < 10007; decide), _, rfl, p, _, _, _, rfl, rfl, SqL.of hp2, at2 _, _, _, rfl, rfl, .inl ⟨by decide, by decide⟩, _, _, rfl, rfl, _, _, rfl, rfl, .inl ⟨by omega, by omega⟩, .inl ⟨_, rfl, _, _, rfl, rfl, (by show (0 : Int) < 2305843009213693907; decide), ?_⟩⟩⟩
      refine ⟨_, rfl, _, _, rfl, rfl, ⟨by decide, by decide⟩, .inl ⟨_, rfl, _, rfl, _, _, rfl, rfl, (by show (0 : Int) < u; omega), ?_⟩⟩
      exact k _ _ (Int.emod_nonneg _ (by omega)) (Int.emod_lt_of_pos _ (by omega)) ⟨o, c + 1, hp2, ho, by omega, by omega⟩ kp
theorem ok__law_take (T : Tx w K mg) (D : Df K mg "_law_take" s__law_take ["pot", "upto"]) : DefOk P w K mg base 1 "_law_take" ["pot", "upto"] (spD K 2 m__law_take) := by
  obtain ⟨f, fd, a, b, c, F⟩ := D.ex
  refine ⟨f, fd, a, b, c, (raw_take F T).imp ?_⟩
  rintro vs H Q E ⟨p, mm, G, ds, s, R, hl, hp, gp, sg, rv, ⟨u, rfl, hs, h1, h2, k⟩, q⟩
  cases rv with
  | cons r1 r2 =>
    cases r2 with
    | cons r2 r3 =>
      cases r3
      have r1 : _ = V.ref p := r1
      subst r1
      have r2 : DR K G _ (.int u) := r2
      cases r2
      refine ⟨p, u, mm, s, rfl, hp.at_, hp.lo, hp.hi, hs, h1, h2, fun d H' d0 d1 pt kp => ?_⟩
      exact q (.d (.int d)) (s + 1) _ G H' (k d d0 d1) kp ⟨pt, hp.lo, hp.hi⟩ (Same.refl G) (fun b o e => kp b o (fun z => by rw [z, gp] at e; cases e) (sg b o e)) gp (fun _ _ h => h) (.int d)
/-! ### the pot -/
def CPowW (i j : Int) : Prop := 0 ≤ j ∧ (Builtin.Int.intBits i : Int) * j ≤ 2 ^ 27
theorem op_powW {X : Cx} : OpR X (binaryOp .Pow) (rI CPowW fun i j => .int (i ^ j.toNat)) := opI fun _ _ _ _ _ _ _ hc q => pow_int hc.1 hc.2 q
theorem Same.new {H : Hp} {q : Addr} {o : HO} (h : H q = none) : Same H (upd H q o) := fun b u e => by
  rw [upd_ne (ne_of_none e h)]
  exact e
def spPot (K : PySem.W.Frag) : Sp := fun vs H Q _ => ∃ (a : Addr) (k : Nat) (ns : List Int), vs = [.ref a, .int (k : Int)] ∧ SqL K H a (ns.map V.int) ∧ k < 1000 ∧ ns.length ≤ 63 ∧
  ∀ (p : Addr) (m : Int) (H' : Hp), Same H H' → H p = none → PotAt H' p m 0 → 0 ≤ m → m < 2 ^ 61 → Q (.ref p) H'
theorem sc__law_pot : FnScope ["script", "k", "cell", "own", "mixed"] ["script", "k"] (defScope s__law_pot) := ⟨rfl, rfl, rfl, by decide +kernel, rfl, by decide +kernel, by decide +kernel⟩
theorem ok__law_pot (T : Tx w K mg) (D : Df K mg "_law_pot" s__law_pot ["script", "k"]) : DefOk P w K mg base 1 "_law_pot" ["script", "k"] (spPot K) := by
  obtain ⟨f, fd, a1, b1, c1, F⟩ := D.ex
  refine ⟨f, fd, a1, b1, c1, ?_⟩
  have tLen : mg "len" = none := T.b0 _ (by decide +kernel)
  have tInt : mg "int" = none := T.b0 _ (by decide +kernel)
  have tAbs : mg "abs" = none := T.b0 _ (by decide +kernel)
  refine F.ok sc__law_pot (fun vs H Q E h => ?_) (fun cdv A outer s H vs Q E hr h => ?_)
  · obtain ⟨a, k, ns, rfl, _⟩ := h
    rfl
  · obtain ⟨a, k, ns, rfl, hS, hk, hn, q⟩ := h
    refine ⟨_, pss_cons (ps_set (i := 2) sc__law_pot.nd rfl (Or.inl rfl) (pe_ifExp (pt_cmpR op_lt (pv 1) (pe_callB call_len_seq (by rfl) tLen PySem.boot_len (pa_cons (pv 0) pa_nil)) (nomark _)) (pe_ix ix_list (pv 0) (pv 1) (fun _ _ => rfl)) (pe_op op_add (pe_op op_mul pe_int (pv 1)) pe_int)))
      (pss_cons (ps_set (i := 3) sc__law_pot.nd rfl (Or.inl rfl) (pe_op op_mul (pe_op op_mod (pe_callTy call_int1 (by rfl) tInt (by decide +kernel) (pa_cons (pe_callB call_abs (by rfl) tAbs (by decide +kernel) (pa_cons (pv 2) pa_nil)) pa_nil)) (pe_op op_powW (pe_op op_powW pe_int pe_int) pe_int))
        (pe_callTy call_int1 (by rfl) tInt (by decide +kernel) (pa_cons (pe_cmpR op_ge (pe_callB call_abs (by rfl) tAbs (by decide +kernel) (pa_cons (pv 2) pa_nil)) (pe_op op_powW pe_int pe_int) (nomark _)) pa_nil))))
      (pss_cons (ps_set (i := 4) sc__law_pot.nd rfl (Or.inl rfl) (pe_op op_add (pe_op op_add (pe_op op_mul (pe_op op_mod (pe_callTy call_int1 (by rfl) tInt (by decide +kernel) (pa_cons (pv 2) pa_nil)) pe_int) pe_int) (pe_op op_mul (pe_op op_mul pe_int (pv 1)) (pv 1))) pe_int))
      (pss_one (ps_ret (pe_lst (pa_cons (pv 3) (pa_cons (pe_op op_mod (pe_callTy call_int1 (by rfl) tInt (by decide +kernel) (pa_cons (pv 4) pa_nil)) pe_int) (pa_cons pe_int pa_nil)))))))), ?_⟩
    have k0 : CPowW 10 60 := ⟨by decide, by decide +kernel⟩
    have k1 : CPowW (10 ^ (60 : Int).toNat) 5 := ⟨by decide, by decide +kernel⟩
    have k2 : CPowW 10 18 := ⟨by decide, by decide +kernel⟩
    have big : (0 : Int) < (10 ^ (60 : Int).toNat) ^ (5 : Int).toNat := Int.pow_pos (Int.pow_pos (by decide))
    have own : ∀ (z : Int) (b : Bool), 0 ≤ z % ((10 ^ (60 : Int).toNat) ^ (5 : Int).toNat) * (if b = true then 1 else 0) := fun z b => Int.mul_nonneg (Int.emod_nonneg _ (by omega)) (by split <;> decide)
    have bit : ∀ b : Bool, -(2 ^ 64) < (if b = true then (1 : Int) else 0) ∧ (if b = true then (1 : Int) else 0) < 2 ^ 64 := fun b => by cases b <;> decide
    have md : ∀ z : Int, -(2 ^ 64) < z % 2305843009213693951 ∧ z % 2305843009213693951 < 2 ^ 64 := fun z => ⟨by have := Int.emod_nonneg z (show (2305843009213693951 : Int) ≠ 0 by decide); omega, by have := Int.emod_lt_of_pos z (show (0 : Int) < 2305843009213693951 by decide); omega⟩
    refine ⟨_, rfl, _, rfl, a, _, rfl, .inl hS, _, _, rfl, rfl, _, rfl, ite2 (fun h1 => ?_) (fun h1 => ?_)⟩
    · have hk2 : k < ns.length := by
        have := of_decide_eq_true h1
        rw [List.length_map] at this
        omega
      refine ⟨_, rfl, _, rfl, a, _, _, .int ns[k], rfl, rfl, hS, atI_nat (by rw [List.getElem?_map, List.getElem?_eq_getElem hk2]; rfl), ?_⟩
      refine ⟨_, rfl, _, rfl, .inl ⟨_, rfl, _, _, rfl, rfl, k0, _, _, rfl, rfl, k1, _, _, rfl, rfl, big, _, rfl, _, rfl, _, _, rfl, rfl, k2, _, _, rfl, rfl, .inr ⟨_, rfl, _, _, rfl, rfl, .inr (bit _), ?_⟩⟩⟩
      refine ⟨_, rfl, .inl ⟨_, rfl, _, _, rfl, rfl, (by show (0 : Int) < 2305843009213693951; decide), _, _, rfl, rfl, .inl (md _), _, rfl, _, _, rfl, rfl, .inl ⟨by decide, by decide⟩, _, rfl, _, _, rfl, rfl, .inr ⟨by omega, by omega⟩, _, _, rfl, rfl, _, _, rfl, rfl, ?_⟩⟩
      refine ⟨_, rfl, _, rfl, .inl ⟨_, rfl, _, _, rfl, rfl, (by show (0 : Int) < 2305843009213693921; decide), (by show 3 ≤ sizeLine; decide), fun p gp => ?_⟩⟩
      exact q p _ _ (Same.new gp) gp ⟨_, 0, upd_same, own _ _, by decide, by decide⟩ (Int.emod_nonneg _ (by decide)) (Int.lt_trans (Int.emod_lt_of_pos _ (by decide)) (by decide))
    · refine ⟨_, rfl, _, _, rfl, rfl, .inl ⟨by decide, by decide⟩, _, _, rfl, rfl, ?_⟩
      refine ⟨_, rfl, _, rfl, .inl ⟨_, rfl, _, _, rfl, rfl, k0, _, _, rfl, rfl, k1, _, _, rfl, rfl, big, _, rfl, _, rfl, _, _, rfl, rfl, k2, _, _, rfl, rfl, .inr ⟨_, rfl, _, _, rfl, rfl, .inr (bit _), ?_⟩⟩⟩
      refine ⟨_, rfl, .inl ⟨_, rfl, _, _, rfl, rfl, (by show (0 : Int) < 2305843009213693951; decide), _, _, rfl, rfl, .inl (md _), _, rfl, _, _, rfl, rfl, .inl ⟨by decide, by decide⟩, _, rfl, _, _, rfl, rfl, .inr ⟨by omega, by omega⟩, _, _, rfl, rfl, _, _, rfl, rfl, ?_⟩⟩
      refine ⟨_, rfl, _, rfl, .inl ⟨_, rfl, _, _, rfl, rfl, (by show (0 : Int) < 2305843009213693921; decide), (by show 3 ≤ sizeLine; decide), fun p gp => ?_⟩⟩
      exact q p _ _ (Same.new gp) gp ⟨_, 0, upd_same, own _ _, by decide, by decide⟩ (Int.emod_nonneg _ (by decide)) (Int.lt_trans (Int.emod_lt_of_pos _ (by decide)) (by decide))
abbrev nm__law_of : List Str := ["pot", "some"]
theorem sc__law_of : FnScope nm__law_of ["pot", "some"] (defScope s__law_of) := ⟨rfl, rfl, rfl, by decide +kernel, rfl, by decide +kernel, by decide +kernel⟩
theorem ok__law_of (T : Tx w K mg) (D : Df K mg "_law_of" s__law_of ["pot", "some"]) (G__law_take : DefOk P w K mg base 1 "_law_take" ["pot", "upto"] (spD K 2 m__law_take)) : DefOk P w K mg base 2 "_law_of" ["pot", "some"] (spD K 2 m__law_of) := by
  have nd := sc__law_of.nd
  have t_len : mg "len" = none := T.b0 _ (by decide +kernel)
  refine defD D sc__law_of (fun f cdv A outer s H E hr p mm G0 => (dss_one (ds_ret (de_ix (ixd_any rfl) (dv 1) (dcD G__law_take hr (by rfl) (da_cons (dv 0) (da_cons (de_callB (cd_len rfl) (by rfl) t_len (by decide +kernel) (da_cons (dv 1) (da_nil rfl))) (da_nil rfl)))))))) ?_
  rintro p ds R s hl ⟨x, n, rfl, hn, h1, h2, hs, k⟩
  repeat (first | exact Or.inl rfl | refine ⟨Nat.le_of_ble_eq_true rfl, ?_⟩ | refine ⟨rfl, ?_⟩ | refine ⟨trivial, ?_⟩ | refine ⟨Or.inl rfl, ?_⟩ | refine ⟨_, hn, ?_⟩ | refine ⟨_, isPot_self _ _, ?_⟩ | refine ⟨_, rfl, ?_⟩)
  refine ⟨hs, by omega, by omega, fun d d0 d1 => ?_⟩
  obtain ⟨j, rfl⟩ : ∃ j : Nat, d = (j : Int) := ⟨d.toNat, by omega⟩
  have hj : j < n := by omega
  have he : ∃ z, ixD x (j : Int) = some z := by
    cases x with
    | o u => cases hn
    | d x =>
      cases x with
      | list ds => cases hn; exact ⟨ds[j], atI_nat (List.getElem?_eq_getElem hj)⟩
      | tuple ds => cases hn; exact ⟨ds[j], atI_nat (List.getElem?_eq_getElem hj)⟩
      | str z =>
        have hn : (if z.length ≤ sizeLine then some z.length else none) = some n := hn
        split at hn
        · cases hn
          rename_i hz
          have hj2 : j < z.cps.toList.length := by rw [Array.length_toList]; exact hj
          refine ⟨.str ⟨#[z.cps.toList[j]]⟩, ?_⟩
          show (if z.length ≤ sizeLine then (atI z.cps.toList (j : Int)).map fun c => PyData.str ⟨#[c]⟩ else none) = _
          rw [if_pos hz, atI_nat (List.getElem?_eq_getElem hj2)]
          rfl
        · cases hn
      | _ => cases hn
  obtain ⟨z, hz⟩ := he
  exact ⟨_, rfl, _, hz, Or.inl ⟨_, rfl, k j z hj hz⟩⟩
abbrev nm__law_name : List Str := ["pot", "letters", "drawn", "turn"]
theorem sc__law_name : FnScope nm__law_name ["pot"] (defScope s__law_name) := ⟨rfl, rfl, rfl, by decide +kernel, rfl, by decide +kernel, by decide +kernel⟩
theorem ok__law_name (T : Tx w K mg) (D : Df K mg "_law_name" s__law_name ["pot"]) (G__law_of : DefOk P w K mg base 2 "_law_of" ["pot", "some"] (spD K 2 m__law_of)) (G__law_take : DefOk P w K mg base 1 "_law_take" ["pot", "upto"] (spD K 2 m__law_take)) : DefOk P w K mg base 3 "_law_name" ["pot"] (spD K 1 m__law_name) := by
  have nd := sc__law_name.nd
  have t_range : mg "range" = none := T.b0 _ (by decide +kernel)
  refine defD D sc__law_name (fun f cdv A outer s H E hr p mm G0 => (dss_cons (ds_set (i := 1) nd rfl (by first | exact Or.inl rfl | exact Or.inr rfl) (de_str rfl))
  (dss_cons (ds_set (i := 2) nd rfl (by first | exact Or.inl rfl | exact Or.inr rfl) (de_join (de_str rfl) (de_f (df_lc (own := [("turn", 3)]) rfl nd (di_range1 (by rfl) t_range (da_cons (de_op (od_plus rfl) (de_int rfl) (dcD G__law_take (hr.mono (by decide)) (by rfl) (da_cons (dv 0) (da_cons (de_int rfl) (da_nil rfl))))) (da_nil rfl))) (blkOk_by (own := [("turn", 3)]) (N := nm__law_name) (sc := defScope s__law_name) (by decide +kernel)) (fun _ _ _ _ _ => (dg_name (i := 3) rfl nd rfl (by first | exact Or.inl rfl | exact Or.inr rfl))) (fun _ _ _ _ _ => dts_nil rfl) (fun _ _ _ _ _ => (dcD G__law_of hr (by rfl) (da_cons (dv 0) (da_cons (dv 1) (da_nil rfl)))))))))
  (dss_one (ds_ret (dcD G__law_of hr (by rfl) (da_cons (dv 0) (da_cons (de_f (df_lst (da_cons (dv 2) (da_cons (dv 2) (da_cons (dv 2) (da_cons (de_str rfl) (da_cons (de_str rfl) (da_cons (de_str rfl) (da_cons (de_str rfl) (da_cons (de_str rfl) (da_cons (de_str rfl) (da_cons (de_str rfl) (da_nil rfl))))))))))))) (da_nil rfl))))))))) ?_
  rintro p ds R s hl ⟨rfl, hs, k⟩
  repeat (first | exact Or.inl rfl | refine ⟨Nat.le_of_ble_eq_true rfl, ?_⟩ | refine ⟨rfl, ?_⟩ | refine ⟨trivial, ?_⟩ | refine ⟨Or.inl rfl, ?_⟩ | refine ⟨_, isPot_self _ _, ?_⟩ | refine ⟨_, rfl, ?_⟩)
  refine ⟨by omega, by decide, by decide, fun t t0 t1 => ?_⟩
  have ht : (1 + t).toNat ≤ 8 ∧ 1 ≤ (1 + t).toNat := by omega
  have hrg : -(2 ^ 62) ≤ 1 + t ∧ 1 + t < 2 ^ 62 := by omega
  repeat (first | exact Or.inl rfl | refine ⟨Nat.le_of_ble_eq_true rfl, ?_⟩ | refine ⟨rfl, ?_⟩ | refine ⟨trivial, ?_⟩ | refine ⟨Or.inl rfl, ?_⟩ | refine ⟨hrg, ?_⟩ | refine ⟨_, rfl, ?_⟩)
  refine lcW_inv (i := 3) (fun j acc s' => ∃ cs : List Nat, cs.length = j ∧ (∀ c ∈ cs, c ∈ lets.cps.toList) ∧ acc = cs.map sign ∧ s' ≤ s + 1 + j) _ 0 [] (s + 1) ⟨[], rfl, (fun _ z => nomatch z), rfl, Nat.le_refl _⟩ ?_ ?_ ?_ ?_
  · rw [rangeL_len]
    exact Nat.le_trans (show 0 + (1 + t).toNat ≤ 8 by omega) (by decide)
  · rintro m d acc s' hd ⟨cs, hc1, hc2, rfl, hs'⟩
    obtain ⟨hm, rfl⟩ := rangeL_get hd
    refine ⟨_, rfl, _, rfl, rfl, _, isPot_self _ _, _, 26, rfl, rfl, by decide, by decide, by omega, fun j z hj hz => ?_⟩
    obtain ⟨c, rfl, hc⟩ := ix_sign hz
    refine ⟨_, rfl, cs ++ [c], by simp [hc1], fun x hx => ?_, by simp [sign], by omega⟩
    rcases List.mem_append.mp hx with hx | hx
    · exact hc2 x hx
    · rw [List.mem_singleton.mp hx]
      exact hc
  · rintro acc s' ⟨cs, hc1, hc2, rfl, hs'⟩
    rw [rangeL_len, Nat.zero_add] at hc1 hs'
    have hj : ((cs.map fun c => (⟨#[c]⟩ : Str)).map (·.length)).sum + (cs.map fun c => (⟨#[c]⟩ : Str)).length * (("" : String) : Str).length ≤ 16777216 := by
      have e := sum_len_le (cs.map fun c => (⟨#[c]⟩ : Str)) 1 (fun p hp => by
        obtain ⟨z, hz, rfl⟩ := List.mem_map.mp hp
        exact Nat.le_refl 1)
      have e0 : (("" : String) : Str).length = 0 := rfl
      rw [List.length_map] at e
      rw [e0]
      omega
    have hn := signs_name hc2 (by omega) (by omega)
    have hss := strs_signs cs
    repeat (first | exact Or.inl rfl | refine ⟨Nat.le_of_ble_eq_true rfl, ?_⟩ | refine ⟨rfl, ?_⟩ | refine ⟨trivial, ?_⟩ | refine ⟨Or.inl rfl, ?_⟩ | refine ⟨_, isPot_self _ _, ?_⟩ | refine ⟨_, hss, ?_⟩ | refine ⟨hj, ?_⟩ | refine ⟨_, rfl, ?_⟩)
    generalize Txt.join ("" : String) (cs.map fun c => (⟨#[c]⟩ : Str)) = nm at hn ⊢
    refine ⟨_, _, rfl, rfl, Nat.le_of_ble_eq_true rfl, Nat.le_of_ble_eq_true rfl, by omega, fun j d hj hd => ?_⟩
    have hd := ix_mem hd
    have key : ∀ x : Str, isName x = true → GivesR R (.rt (.d (.str x))) (s' + 1) := fun x hx => Or.inl ⟨_, rfl, k x _ hx (by omega)⟩
    simp only [List.mem_cons, List.not_mem_nil, or_false] at hd
    rcases hd with rfl | rfl | rfl | rfl | rfl | rfl | rfl | rfl | rfl | rfl
    · exact key _ hn
    · exact key _ hn
    · exact key _ hn
    all_goals exact key _ (by decide +kernel)
  · intro env
    show Mono _
    repeat' (first | exact mo_ret | exact mo_get | exact mo_ask | exact mo_take | exact mo_of | exact mo_name | exact mo_count | exact mo_fact | exact mo_sq _ | exact mo_rq | exact mo_lrt | exact mo_sr | exact mo_rr | exact mo_run | exact mo_question _ | refine mo_callDW ?_ | refine mo_callRW ?_ | exact mo_question_at _ | exact mo_inTW | exact mo_ixTW | exact mo_callW | exact mo_eqW | exact mo_neW | exact mo_intW | exact mo_plusW | exact mo_isW | exact mo_inW | exact mo_ixW | exact mo_isiW | exact mo_lenW | exact mo_strW | exact mo_intCW | exact mo_allW | exact mo_anyW | exact mo_tupW | exact mo_reprW | exact mo_splitW | exact mo_joinW | exact mo_fmtW | exact mo_range1W | exact mo_range2W | exact mo_parW | refine mo_ite ?_ ?_ | refine mo_headW ?_ | refine mo_seqW ?_ | refine mo_lcW ?_ ?_ ?_ _ _ | refine mo_bnd ?_ (fun _ => ?_) | intro _)
def m__law_count : List Dv → Wp Nat Dv := fun ds R s => ds = [] ∧ s + 100 ≤ dmax ∧ ∀ (n s' : Nat), n < 1000 → s' ≤ s + 2 → R (.d (.int (n : Int))) s'
theorem mo_count (ds : List Dv) : Mono (m__law_count ds) := fun R R' s h ⟨a, b, c⟩ => ⟨a, b, fun x s' h1 h2 => h _ _ (c x s' h1 h2)⟩
def m__law_fact : List Dv → Wp Nat Dv := fun ds R s => ds = [] ∧ s + 200 ≤ dmax ∧ ∀ (x : PyData) (ts : List Str) (s' : Nat), Fact x ts → s' ≤ s + 60 → R (.d x) s'
theorem mo_fact (ds : List Dv) : Mono (m__law_fact ds) := fun R R' s h ⟨a, b, c⟩ => ⟨a, b, fun x ts s' h1 h2 => h _ _ (c x ts s' h1 h2)⟩
abbrev nm__law_count : List Str := ["pot"]
theorem sc__law_count : FnScope nm__law_count ["pot"] (defScope s__law_count) := ⟨rfl, rfl, rfl, by decide +kernel, rfl, by decide +kernel, by decide +kernel⟩
theorem ok__law_count (T : Tx w K mg) (D : Df K mg "_law_count" s__law_count ["pot"]) (G__law_of : DefOk P w K mg base 2 "_law_of" ["pot", "some"] (spD K 2 m__law_of)) (G__law_take : DefOk P w K mg base 1 "_law_take" ["pot", "upto"] (spD K 2 m__law_take)) : DefOk P w K mg base 3 "_law_count" ["pot"] (spD K 1 m__law_count) := by
  have nd := sc__law_count.nd
  refine defD D sc__law_count (fun f cdv A outer s H E hr p mm G0 => (dss_one (ds_ret (dcD G__law_of hr (by rfl) (da_cons (dv 0) (da_cons (de_f (df_lst (da_cons (de_int rfl) (da_cons (de_int rfl) (da_cons (de_int rfl) (da_cons (de_int rfl) (da_cons (de_int rfl) (da_cons (dcD G__law_take (hr.mono (by decide)) (by rfl) (da_cons (dv 0) (da_cons (de_int rfl) (da_nil rfl)))) (da_nil rfl))))))))) (da_nil rfl))))))) ?_
  rintro p ds R s hl ⟨rfl, hs, k⟩
  have hdm : dmax = 1000000 := rfl
  repeat (first | exact Or.inl rfl | refine ⟨Nat.le_of_ble_eq_true rfl, ?_⟩ | refine ⟨rfl, ?_⟩ | refine ⟨trivial, ?_⟩ | refine ⟨Or.inl rfl, ?_⟩ | refine ⟨_, isPot_self _ _, ?_⟩ | refine ⟨_, rfl, ?_⟩)
  refine ⟨by omega, by decide, by decide, fun t t0 t1 => ?_⟩
  repeat (first | exact Or.inl rfl | refine ⟨Nat.le_of_ble_eq_true rfl, ?_⟩ | refine ⟨rfl, ?_⟩ | refine ⟨trivial, ?_⟩ | refine ⟨Or.inl rfl, ?_⟩ | refine ⟨_, isPot_self _ _, ?_⟩ | refine ⟨_, rfl, ?_⟩)
  refine ⟨_, _, rfl, rfl, Nat.le_of_ble_eq_true rfl, Nat.le_of_ble_eq_true rfl, by omega, fun j d hj hd => ?_⟩
  have hd := ix_mem hd
  have key : ∀ n : Nat, n < 1000 → GivesR R (.rt (.d (.int (n : Int)))) (s + 1 + 1) := fun n hn => Or.inl ⟨_, rfl, k n _ hn (by omega)⟩
  simp only [List.mem_cons, List.not_mem_nil, or_false] at hd
  rcases hd with rfl | rfl | rfl | rfl | rfl | rfl
  · exact key 0 (by decide)
  · exact key 1 (by decide)
  · exact key 3 (by decide)
  · exact key 10 (by decide)
  · exact key 999 (by decide)
  · obtain ⟨n, rfl⟩ : ∃ n : Nat, t = (n : Int) := ⟨t.toNat, by omega⟩
    exact key n (by omega)
abbrev nm__law_fact : List Str := ["pot", "word"]
theorem sc__law_fact : FnScope nm__law_fact ["pot"] (defScope s__law_fact) := ⟨rfl, rfl, rfl, by decide +kernel, rfl, by decide +kernel, by decide +kernel⟩
theorem ok__law_fact (T : Tx w K mg) (D : Df K mg "_law_fact" s__law_fact ["pot"]) (G__law_count : DefOk P w K mg base 3 "_law_count" ["pot"] (spD K 1 m__law_count)) (G__law_name : DefOk P w K mg base 3 "_law_name" ["pot"] (spD K 1 m__law_name)) (G__law_of : DefOk P w K mg base 2 "_law_of" ["pot", "some"] (spD K 2 m__law_of)) : DefOk P w K mg base 4 "_law_fact" ["pot"] (spD K 1 m__law_fact) := by
  have nd := sc__law_fact.nd
  refine defD D sc__law_fact (fun f cdv A outer s H E hr p mm G0 => (dss_cons (ds_set (i := 1) nd rfl (by first | exact Or.inl rfl | exact Or.inr rfl) (dcD G__law_of (hr.mono (by decide)) (by rfl) (da_cons (dv 0) (da_cons (de_f (df_lst (da_cons (de_str rfl) (da_cons (de_str rfl) (da_cons (de_str rfl) (da_cons (de_str rfl) (da_cons (de_str rfl) (da_cons (de_str rfl) (da_cons (de_str rfl) (da_cons (de_str rfl) (da_cons (de_str rfl) (da_cons (de_str rfl) (da_nil rfl))))))))))))) (da_nil rfl)))))
  (dss_cons (ds_if (dt_cmp (od_in rfl (u65 hr)) (dv 1) (de_tup (da_cons (de_str rfl) (da_cons (de_str rfl) (da_nil rfl)))) (by rfl)) (dss_one (ds_ret (de_tup (da_cons (dv 1) (da_cons (dcD G__law_name hr (by rfl) (da_cons (dv 0) (da_nil rfl))) (da_cons (dcD G__law_of (hr.mono (by decide)) (by rfl) (da_cons (dv 0) (da_cons (de_f (df_lst (da_cons (de_non rfl) (da_cons (dcD G__law_name hr (by rfl) (da_cons (dv 0) (da_nil rfl))) (da_nil rfl))))) (da_nil rfl)))) (da_nil rfl))))))) (dss_nil rfl))
  (dss_cons (ds_if (dt_cmp (od_eq rfl (u64 hr)) (dv 1) (de_str rfl) (nomark _)) (dss_one (ds_ret (de_tup (da_cons (dv 1) (da_cons (dcD G__law_name hr (by rfl) (da_cons (dv 0) (da_nil rfl))) (da_cons (dcD G__law_name hr (by rfl) (da_cons (dv 0) (da_nil rfl))) (da_nil rfl))))))) (dss_nil rfl))
  (dss_cons (ds_if (dt_cmp (od_in rfl (u65 hr)) (dv 1) (de_tup (da_cons (de_str rfl) (da_cons (de_str rfl) (da_nil rfl)))) (by rfl)) (dss_one (ds_ret (de_tup (da_cons (dv 1) (da_cons (de_if (dt_cmp (od_eq rfl (u64 hr)) (dv 1) (de_str rfl) (nomark _)) (dcD G__law_count hr (by rfl) (da_cons (dv 0) (da_nil rfl))) (dcD G__law_name hr (by rfl) (da_cons (dv 0) (da_nil rfl)))) (da_nil rfl)))))) (dss_nil rfl))
  (dss_one (ds_ret (de_tup (da_cons (dv 1) (da_cons (dcD G__law_name hr (by rfl) (da_cons (dv 0) (da_nil rfl))) (da_cons (dcD G__law_count hr (by rfl) (da_cons (dv 0) (da_nil rfl))) (da_nil rfl)))))))))))) ?_
  rintro p ds R s hl ⟨rfl, hs, k⟩
  have hdm : dmax = 1000000 := rfl
  repeat (first | exact Or.inl rfl | refine ⟨Nat.le_of_ble_eq_true rfl, ?_⟩ | refine ⟨rfl, ?_⟩ | refine ⟨trivial, ?_⟩ | refine ⟨Or.inl rfl, ?_⟩ | refine ⟨_, isPot_self _ _, ?_⟩ | refine ⟨_, rfl, ?_⟩)
  refine ⟨_, _, rfl, rfl, Nat.le_of_ble_eq_true rfl, Nat.le_of_ble_eq_true rfl, by omega, fun j d hj hd => ?_⟩
  have hd := ix_mem hd
  have i1 : ∀ a : Str, inOk (.str a) [.str ("by" : Str), .str ("at" : Str)] := fun _ => Or.inl ⟨rfl, rfl⟩
  have i2 : ∀ a : Str, inOk (.str a) [.str ("fell" : Str), .str ("ended" : Str)] := fun _ => Or.inl ⟨rfl, rfl⟩
  simp only [List.mem_cons, List.not_mem_nil, or_false] at hd
  rcases hd with rfl | rfl | rfl | rfl | rfl | rfl | rfl | rfl | rfl | rfl
  · repeat (first | exact Or.inl rfl | refine ⟨Nat.le_of_ble_eq_true rfl, ?_⟩ | refine ⟨rfl, ?_⟩ | refine ⟨trivial, ?_⟩ | refine ⟨Or.inl rfl, ?_⟩ | refine ⟨_, isPot_self _ _, ?_⟩ | refine ⟨i1 _, ?_⟩ | refine ⟨i2 _, ?_⟩ | refine ⟨_, rfl, ?_⟩)
    refine ⟨by omega, fun a s1 ha hs1 => ?_⟩
    repeat (first | exact Or.inl rfl | refine ⟨Nat.le_of_ble_eq_true rfl, ?_⟩ | refine ⟨rfl, ?_⟩ | refine ⟨trivial, ?_⟩ | refine ⟨Or.inl rfl, ?_⟩ | refine ⟨_, isPot_self _ _, ?_⟩ | refine ⟨i1 _, ?_⟩ | refine ⟨i2 _, ?_⟩ | refine ⟨_, rfl, ?_⟩)
    refine ⟨by omega, fun n s2 hn hs2 => ?_⟩
    repeat (first | exact Or.inl rfl | refine ⟨Nat.le_of_ble_eq_true rfl, ?_⟩ | refine ⟨rfl, ?_⟩ | refine ⟨trivial, ?_⟩ | refine ⟨Or.inl rfl, ?_⟩ | refine ⟨_, isPot_self _ _, ?_⟩ | refine ⟨i1 _, ?_⟩ | refine ⟨i2 _, ?_⟩ | refine ⟨_, rfl, ?_⟩)
    exact Or.inl ⟨_, rfl, k _ _ _ (Fact.nn _ a n (by simp [k5]) ha hn) (by omega)⟩
  · repeat (first | exact Or.inl rfl | refine ⟨Nat.le_of_ble_eq_true rfl, ?_⟩ | refine ⟨rfl, ?_⟩ | refine ⟨trivial, ?_⟩ | refine ⟨Or.inl rfl, ?_⟩ | refine ⟨_, isPot_self _ _, ?_⟩ | refine ⟨i1 _, ?_⟩ | refine ⟨i2 _, ?_⟩ | refine ⟨_, rfl, ?_⟩)
    refine ⟨by omega, fun a s1 ha hs1 => ?_⟩
    repeat (first | exact Or.inl rfl | refine ⟨Nat.le_of_ble_eq_true rfl, ?_⟩ | refine ⟨rfl, ?_⟩ | refine ⟨trivial, ?_⟩ | refine ⟨Or.inl rfl, ?_⟩ | refine ⟨_, isPot_self _ _, ?_⟩ | refine ⟨i1 _, ?_⟩ | refine ⟨i2 _, ?_⟩ | refine ⟨_, rfl, ?_⟩)
    refine ⟨by omega, fun b s2 hb hs2 => ?_⟩
    repeat (first | exact Or.inl rfl | refine ⟨Nat.le_of_ble_eq_true rfl, ?_⟩ | refine ⟨rfl, ?_⟩ | refine ⟨trivial, ?_⟩ | refine ⟨Or.inl rfl, ?_⟩ | refine ⟨_, isPot_self _ _, ?_⟩ | refine ⟨i1 _, ?_⟩ | refine ⟨i2 _, ?_⟩ | refine ⟨_, rfl, ?_⟩)
    exact Or.inl ⟨_, rfl, k _ _ _ (Fact.ah a b ha hb) (by omega)⟩
  · repeat (first | exact Or.inl rfl | refine ⟨Nat.le_of_ble_eq_true rfl, ?_⟩ | refine ⟨rfl, ?_⟩ | refine ⟨trivial, ?_⟩ | refine ⟨Or.inl rfl, ?_⟩ | refine ⟨_, isPot_self _ _, ?_⟩ | refine ⟨i1 _, ?_⟩ | refine ⟨i2 _, ?_⟩ | refine ⟨_, rfl, ?_⟩)
    refine ⟨by omega, fun a s1 ha hs1 => ?_⟩
    repeat (first | exact Or.inl rfl | refine ⟨Nat.le_of_ble_eq_true rfl, ?_⟩ | refine ⟨rfl, ?_⟩ | refine ⟨trivial, ?_⟩ | refine ⟨Or.inl rfl, ?_⟩ | refine ⟨_, isPot_self _ _, ?_⟩ | refine ⟨i1 _, ?_⟩ | refine ⟨i2 _, ?_⟩ | refine ⟨_, rfl, ?_⟩)
    refine ⟨by omega, fun n s2 hn hs2 => ?_⟩
    repeat (first | exact Or.inl rfl | refine ⟨Nat.le_of_ble_eq_true rfl, ?_⟩ | refine ⟨rfl, ?_⟩ | refine ⟨trivial, ?_⟩ | refine ⟨Or.inl rfl, ?_⟩ | refine ⟨_, isPot_self _ _, ?_⟩ | refine ⟨i1 _, ?_⟩ | refine ⟨i2 _, ?_⟩ | refine ⟨_, rfl, ?_⟩)
    exact Or.inl ⟨_, rfl, k _ _ _ (Fact.nn _ a n (by simp [k5]) ha hn) (by omega)⟩
  · repeat (first | exact Or.inl rfl | refine ⟨Nat.le_of_ble_eq_true rfl, ?_⟩ | refine ⟨rfl, ?_⟩ | refine ⟨trivial, ?_⟩ | refine ⟨Or.inl rfl, ?_⟩ | refine ⟨_, isPot_self _ _, ?_⟩ | refine ⟨i1 _, ?_⟩ | refine ⟨i2 _, ?_⟩ | refine ⟨_, rfl, ?_⟩)
    refine ⟨by omega, fun a s1 ha hs1 => ?_⟩
    repeat (first | exact Or.inl rfl | refine ⟨Nat.le_of_ble_eq_true rfl, ?_⟩ | refine ⟨rfl, ?_⟩ | refine ⟨trivial, ?_⟩ | refine ⟨Or.inl rfl, ?_⟩ | refine ⟨_, isPot_self _ _, ?_⟩ | refine ⟨i1 _, ?_⟩ | refine ⟨i2 _, ?_⟩ | refine ⟨_, rfl, ?_⟩)
    refine ⟨by omega, fun n s2 hn hs2 => ?_⟩
    repeat (first | exact Or.inl rfl | refine ⟨Nat.le_of_ble_eq_true rfl, ?_⟩ | refine ⟨rfl, ?_⟩ | refine ⟨trivial, ?_⟩ | refine ⟨Or.inl rfl, ?_⟩ | refine ⟨_, isPot_self _ _, ?_⟩ | refine ⟨i1 _, ?_⟩ | refine ⟨i2 _, ?_⟩ | refine ⟨_, rfl, ?_⟩)
    exact Or.inl ⟨_, rfl, k _ _ _ (Fact.nn _ a n (by simp [k5]) ha hn) (by omega)⟩
  · repeat (first | exact Or.inl rfl | refine ⟨Nat.le_of_ble_eq_true rfl, ?_⟩ | refine ⟨rfl, ?_⟩ | refine ⟨trivial, ?_⟩ | refine ⟨Or.inl rfl, ?_⟩ | refine ⟨_, isPot_self _ _, ?_⟩ | refine ⟨i1 _, ?_⟩ | refine ⟨i2 _, ?_⟩ | refine ⟨_, rfl, ?_⟩)
    refine ⟨by omega, fun a s1 ha hs1 => ?_⟩
    repeat (first | exact Or.inl rfl | refine ⟨Nat.le_of_ble_eq_true rfl, ?_⟩ | refine ⟨rfl, ?_⟩ | refine ⟨trivial, ?_⟩ | refine ⟨Or.inl rfl, ?_⟩ | refine ⟨_, isPot_self _ _, ?_⟩ | refine ⟨i1 _, ?_⟩ | refine ⟨i2 _, ?_⟩ | refine ⟨_, rfl, ?_⟩)
    refine ⟨by omega, fun n s2 hn hs2 => ?_⟩
    repeat (first | exact Or.inl rfl | refine ⟨Nat.le_of_ble_eq_true rfl, ?_⟩ | refine ⟨rfl, ?_⟩ | refine ⟨trivial, ?_⟩ | refine ⟨Or.inl rfl, ?_⟩ | refine ⟨_, isPot_self _ _, ?_⟩ | refine ⟨i1 _, ?_⟩ | refine ⟨i2 _, ?_⟩ | refine ⟨_, rfl, ?_⟩)
    exact Or.inl ⟨_, rfl, k _ _ _ (Fact.nn _ a n (by simp [k5]) ha hn) (by omega)⟩
  · repeat (first | exact Or.inl rfl | refine ⟨Nat.le_of_ble_eq_true rfl, ?_⟩ | refine ⟨rfl, ?_⟩ | refine ⟨trivial, ?_⟩ | refine ⟨Or.inl rfl, ?_⟩ | refine ⟨_, isPot_self _ _, ?_⟩ | refine ⟨i1 _, ?_⟩ | refine ⟨i2 _, ?_⟩ | refine ⟨_, rfl, ?_⟩)
    refine ⟨by omega, fun a s1 ha hs1 => ?_⟩
    repeat (first | exact Or.inl rfl | refine ⟨Nat.le_of_ble_eq_true rfl, ?_⟩ | refine ⟨rfl, ?_⟩ | refine ⟨trivial, ?_⟩ | refine ⟨Or.inl rfl, ?_⟩ | refine ⟨_, isPot_self _ _, ?_⟩ | refine ⟨i1 _, ?_⟩ | refine ⟨i2 _, ?_⟩ | refine ⟨_, rfl, ?_⟩)
    refine ⟨by omega, fun b s2 hb hs2 => ?_⟩
    repeat (first | exact Or.inl rfl | refine ⟨Nat.le_of_ble_eq_true rfl, ?_⟩ | refine ⟨rfl, ?_⟩ | refine ⟨trivial, ?_⟩ | refine ⟨Or.inl rfl, ?_⟩ | refine ⟨_, isPot_self _ _, ?_⟩ | refine ⟨i1 _, ?_⟩ | refine ⟨i2 _, ?_⟩ | refine ⟨_, rfl, ?_⟩)
    refine ⟨_, _, rfl, rfl, Nat.le_of_ble_eq_true rfl, Nat.le_of_ble_eq_true rfl, by omega, fun j2 d hj2 hd => ?_⟩
    have hd := ix_mem hd
    have hp : nameOrNone d = true := by
      simp only [List.mem_cons, List.not_mem_nil, or_false] at hd
      rcases hd with rfl | rfl
      · rfl
      · exact hb
    clear hd
    repeat (first | exact Or.inl rfl | refine ⟨Nat.le_of_ble_eq_true rfl, ?_⟩ | refine ⟨rfl, ?_⟩ | refine ⟨trivial, ?_⟩ | refine ⟨Or.inl rfl, ?_⟩ | refine ⟨_, isPot_self _ _, ?_⟩ | refine ⟨i1 _, ?_⟩ | refine ⟨i2 _, ?_⟩ | refine ⟨_, rfl, ?_⟩)
    exact Or.inl ⟨_, rfl, k _ _ _ (Fact.no _ a d (by simp [k2]) ha hp) (by omega)⟩
  · repeat (first | exact Or.inl rfl | refine ⟨Nat.le_of_ble_eq_true rfl, ?_⟩ | refine ⟨rfl, ?_⟩ | refine ⟨trivial, ?_⟩ | refine ⟨Or.inl rfl, ?_⟩ | refine ⟨_, isPot_self _ _, ?_⟩ | refine ⟨i1 _, ?_⟩ | refine ⟨i2 _, ?_⟩ | refine ⟨_, rfl, ?_⟩)
    refine ⟨by omega, fun a s1 ha hs1 => ?_⟩
    repeat (first | exact Or.inl rfl | refine ⟨Nat.le_of_ble_eq_true rfl, ?_⟩ | refine ⟨rfl, ?_⟩ | refine ⟨trivial, ?_⟩ | refine ⟨Or.inl rfl, ?_⟩ | refine ⟨_, isPot_self _ _, ?_⟩ | refine ⟨i1 _, ?_⟩ | refine ⟨i2 _, ?_⟩ | refine ⟨_, rfl, ?_⟩)
    refine ⟨by omega, fun b s2 hb hs2 => ?_⟩
    repeat (first | exact Or.inl rfl | refine ⟨Nat.le_of_ble_eq_true rfl, ?_⟩ | refine ⟨rfl, ?_⟩ | refine ⟨trivial, ?_⟩ | refine ⟨Or.inl rfl, ?_⟩ | refine ⟨_, isPot_self _ _, ?_⟩ | refine ⟨i1 _, ?_⟩ | refine ⟨i2 _, ?_⟩ | refine ⟨_, rfl, ?_⟩)
    refine ⟨_, _, rfl, rfl, Nat.le_of_ble_eq_true rfl, Nat.le_of_ble_eq_true rfl, by omega, fun j2 d hj2 hd => ?_⟩
    have hd := ix_mem hd
    have hp : nameOrNone d = true := by
      simp only [List.mem_cons, List.not_mem_nil, or_false] at hd
      rcases hd with rfl | rfl
      · rfl
      · exact hb
    clear hd
    repeat (first | exact Or.inl rfl | refine ⟨Nat.le_of_ble_eq_true rfl, ?_⟩ | refine ⟨rfl, ?_⟩ | refine ⟨trivial, ?_⟩ | refine ⟨Or.inl rfl, ?_⟩ | refine ⟨_, isPot_self _ _, ?_⟩ | refine ⟨i1 _, ?_⟩ | refine ⟨i2 _, ?_⟩ | refine ⟨_, rfl, ?_⟩)
    exact Or.inl ⟨_, rfl, k _ _ _ (Fact.no _ a d (by simp [k2]) ha hp) (by omega)⟩
  · repeat (first | exact Or.inl rfl | refine ⟨Nat.le_of_ble_eq_true rfl, ?_⟩ | refine ⟨rfl, ?_⟩ | refine ⟨trivial, ?_⟩ | refine ⟨Or.inl rfl, ?_⟩ | refine ⟨_, isPot_self _ _, ?_⟩ | refine ⟨i1 _, ?_⟩ | refine ⟨i2 _, ?_⟩ | refine ⟨_, rfl, ?_⟩)
    refine ⟨by omega, fun n s1 hn hs1 => ?_⟩
    repeat (first | exact Or.inl rfl | refine ⟨Nat.le_of_ble_eq_true rfl, ?_⟩ | refine ⟨rfl, ?_⟩ | refine ⟨trivial, ?_⟩ | refine ⟨Or.inl rfl, ?_⟩ | refine ⟨_, isPot_self _ _, ?_⟩ | refine ⟨i1 _, ?_⟩ | refine ⟨i2 _, ?_⟩ | refine ⟨_, rfl, ?_⟩)
    exact Or.inl ⟨_, rfl, k _ _ _ (Fact.fe n hn) (by omega)⟩
  · repeat (first | exact Or.inl rfl | refine ⟨Nat.le_of_ble_eq_true rfl, ?_⟩ | refine ⟨rfl, ?_⟩ | refine ⟨trivial, ?_⟩ | refine ⟨Or.inl rfl, ?_⟩ | refine ⟨_, isPot_self _ _, ?_⟩ | refine ⟨i1 _, ?_⟩ | refine ⟨i2 _, ?_⟩ | refine ⟨_, rfl, ?_⟩)
    refine ⟨by omega, fun a s1 ha hs1 => ?_⟩
    repeat (first | exact Or.inl rfl | refine ⟨Nat.le_of_ble_eq_true rfl, ?_⟩ | refine ⟨rfl, ?_⟩ | refine ⟨trivial, ?_⟩ | refine ⟨Or.inl rfl, ?_⟩ | refine ⟨_, isPot_self _ _, ?_⟩ | refine ⟨i1 _, ?_⟩ | refine ⟨i2 _, ?_⟩ | refine ⟨_, rfl, ?_⟩)
    refine ⟨by omega, fun n s2 hn hs2 => ?_⟩
    repeat (first | exact Or.inl rfl | refine ⟨Nat.le_of_ble_eq_true rfl, ?_⟩ | refine ⟨rfl, ?_⟩ | refine ⟨trivial, ?_⟩ | refine ⟨Or.inl rfl, ?_⟩ | refine ⟨_, isPot_self _ _, ?_⟩ | refine ⟨i1 _, ?_⟩ | refine ⟨i2 _, ?_⟩ | refine ⟨_, rfl, ?_⟩)
    exact Or.inl ⟨_, rfl, k _ _ _ (Fact.nn _ a n (by simp [k5]) ha hn) (by omega)⟩
  · repeat (first | exact Or.inl rfl | refine ⟨Nat.le_of_ble_eq_true rfl, ?_⟩ | refine ⟨rfl, ?_⟩ | refine ⟨trivial, ?_⟩ | refine ⟨Or.inl rfl, ?_⟩ | refine ⟨_, isPot_self _ _, ?_⟩ | refine ⟨i1 _, ?_⟩ | refine ⟨i2 _, ?_⟩ | refine ⟨_, rfl, ?_⟩)
    refine ⟨by omega, fun a s1 ha hs1 => ?_⟩
    repeat (first | exact Or.inl rfl | refine ⟨Nat.le_of_ble_eq_true rfl, ?_⟩ | refine ⟨rfl, ?_⟩ | refine ⟨trivial, ?_⟩ | refine ⟨Or.inl rfl, ?_⟩ | refine ⟨_, isPot_self _ _, ?_⟩ | refine ⟨i1 _, ?_⟩ | refine ⟨i2 _, ?_⟩ | refine ⟨_, rfl, ?_⟩)
    exact Or.inl ⟨_, rfl, k _ _ _ (Fact.en a ha) (by omega)⟩
theorem sum_le1 {α : Type} : ∀ (l : List α) (f : α → Nat), (∀ a ∈ l, f a ≤ 1) → (l.map f).sum ≤ l.length
  | [], _, _ => Nat.le_refl _
  | a :: l, f, h => by
    have ih := sum_le1 l f fun b hb => h b (List.mem_cons_of_mem _ hb)
    have := h a List.mem_cons_self
    rw [List.map_cons, List.sum_cons, List.length_cons]
    omega
def cq : Nat → Nat
  | 0 => 70
  | n + 1 => 4 * cq n + 10
theorem cq_up (n : Nat) : 70 ≤ cq n := by
  induction n with
  | zero => exact Nat.le_refl _
  | succ n ih => show 70 ≤ 4 * cq n + 10; omega
def m__law_question : Nat → List Dv → Wp Nat Dv
  | 0 => fun _ _ _ => False
  | n + 1 => fun ds R s => ∃ left : Nat, ds = [.d (.int (left : Int)), .d (.int (n : Int))] ∧ 1 ≤ left ∧ left ≤ 4 ∧ n ≤ 1000 ∧ s + cq n + 200 ≤ dmax ∧ ∀ (x : PyData) (ts : List Str) (c s' : Nat), QT n x ts c → c ≤ left → s' ≤ s + cq n → R (.d x) s'
theorem mo_question : ∀ (n : Nat) (ds : List Dv), Mono (m__law_question n ds)
  | 0, _ => fun _ _ _ _ h => h.elim
  | n + 1, _ => fun R R' s h ⟨l, a, b, c, d, e, f⟩ => ⟨l, a, b, c, d, e, fun x ts c s' h1 h2 h3 => h _ _ (f x ts c s' h1 h2 h3)⟩
theorem no_spD {n : Nat} {m : List Dv → Wp Nat Dv} (h : ∀ ds R s, ¬ m ds R s) : ∀ vs H Q E, ¬ spD K n m vs H Q E := by
  rintro vs H Q E ⟨p, mm, G, ds, s, R, _, _, _, _, _, z, _⟩
  exact h ds R s z
abbrev nm__law_question : List Str := ["pot", "left", "deep", "way", "many", "first", "bits", "turn"]
theorem sc__law_question : FnScope nm__law_question ["pot", "left", "deep"] (defScope s__law_question) := ⟨rfl, rfl, rfl, by decide +kernel, rfl, by decide +kernel, by decide +kernel⟩
theorem ok__law_question (T : Tx w K mg) (D : Df K mg "_law_question" s__law_question ["pot", "left", "deep"]) (G__law_fact : DefOk P w K mg base 4 "_law_fact" ["pot"] (spD K 1 m__law_fact)) (G__law_take : DefOk P w K mg base 1 "_law_take" ["pot", "upto"] (spD K 2 m__law_take)) {k n : Nat} (hk : 10 ≤ k) (G__law_question : DefOk P w K mg base k "_law_question" ["pot", "left", "deep"] (spD K 3 (m__law_question n))) : DefOk P w K mg base (k + 1) "_law_question" ["pot", "left", "deep"] (spD K 3 (m__law_question (n + 1))) := by
  have nd := sc__law_question.nd
  have t_range : mg "range" = none := T.b0 _ (by decide +kernel)
  have t_tuple : mg "tuple" = none := T.b0 _ (by decide +kernel)
  refine defD D sc__law_question (fun f cdv A outer s H E hr p mm G0 => (dss_cons (ds_set (i := 3) nd rfl (by first | exact Or.inl rfl | exact Or.inr rfl) (de_if (dt_cmp (od_gt) (dv 2) (de_int rfl) (nomark _)) (dcD G__law_take (hr.mono (by omega)) (by rfl) (da_cons (dv 0) (da_cons (de_int rfl) (da_nil rfl)))) (de_int rfl)))
  (dss_cons (ds_if (dt_cmp (od_eq rfl (u64 hr)) (dv 3) (de_int rfl) (nomark _)) (dss_one (ds_ret (de_tup (da_cons (de_str rfl) (da_cons (dcD G__law_question hr (by rfl) (da_cons (dv 0) (da_cons (dv 1) (da_cons (de_op (od_sub) (dv 2) (de_int rfl)) (da_nil rfl))))) (da_nil rfl)))))) (dss_nil rfl))
  (dss_cons (ds_if (DW.dt (dw_and (dt_cmp (od_gt) (dv 3) (de_int rfl) (nomark _)) (dw_and1 (dt_cmp (od_gt) (dv 1) (de_int rfl) (nomark _))))) (dss_cons (ds_set (i := 4) nd rfl (by first | exact Or.inl rfl | exact Or.inr rfl) (de_op (od_plus rfl) (de_int rfl) (dcD G__law_take (hr.mono (by omega)) (by rfl) (da_cons (dv 0) (da_cons (de_op (od_sub) (dv 1) (de_int rfl)) (da_nil rfl))))))
  (dss_cons (ds_set (i := 5) nd rfl (by first | exact Or.inl rfl | exact Or.inr rfl) (de_op (od_plus rfl) (de_op (od_sub) (dv 1) (dv 4)) (de_int rfl)))
  (dss_cons (ds_set (i := 6) nd rfl (by first | exact Or.inl rfl | exact Or.inr rfl) (de_op (od_plus rfl) (de_f (df_lst (da_cons (dcD G__law_question hr (by rfl) (da_cons (dv 0) (da_cons (dv 5) (da_cons (de_op (od_sub) (dv 2) (de_int rfl)) (da_nil rfl))))) (da_nil rfl)))) (de_f (df_lc (own := [("turn", 7)]) rfl nd (di_range1 (by rfl) t_range (da_cons (de_op (od_sub) (dv 4) (de_int rfl)) (da_nil rfl))) (blkOk_by (own := [("turn", 7)]) (N := nm__law_question) (sc := defScope s__law_question) (by decide +kernel)) (fun _ _ _ _ _ => (dg_name (i := 7) rfl nd rfl (by first | exact Or.inl rfl | exact Or.inr rfl))) (fun _ _ _ _ _ => dts_nil rfl) (fun _ _ _ _ _ => (dcD G__law_question hr (by rfl) (da_cons (dv 0) (da_cons (de_int rfl) (da_cons (de_op (od_sub) (dv 2) (de_int rfl)) (da_nil rfl))))))))))
  (dss_one (ds_ret (de_op (od_plus rfl) (de_tup (da_cons (de_ix (ixd_any rfl) (de_f (df_lst (da_cons (de_str rfl) (da_cons (de_str rfl) (da_nil rfl))))) (de_op (od_sub) (dv 3) (de_int rfl))) (da_nil rfl))) (de_callTy (cd_tuple rfl) (by rfl) t_tuple (by decide +kernel) (da_cons (dv 6) (da_nil rfl))))))))) (dss_nil rfl))
  (dss_one (ds_ret (dcD G__law_fact (hr.mono (by omega)) (by rfl) (da_cons (dv 0) (da_nil rfl))))))))) ?_
  rintro p ds R s hl ⟨left, rfl, h1, h4, hn, hs, k⟩
  have hdm : dmax = 1000000 := rfl
  have fact : ∀ {s1 : Nat}, s1 ≤ s + 1 → s1 + 60 ≤ s + cq n → m__law_fact [] (fun d s' => GivesR R (.rt d) s') s1 := fun {s1} h2 h3 => by
    refine ⟨rfl, by omega, fun x ts s' hx hs' => ?_⟩
    exact Or.inl ⟨_, rfl, k x ts 1 s' (QT.fact hx) h1 (by omega)⟩
  match n with
  | 0 =>
    repeat (first | exact Or.inl rfl | refine ⟨Nat.le_of_ble_eq_true rfl, ?_⟩ | refine ⟨rfl, ?_⟩ | refine ⟨trivial, ?_⟩ | refine ⟨Or.inl rfl, ?_⟩ | refine ⟨_, isPot_self _ _, ?_⟩ | refine ⟨_, rfl, ?_⟩)
    exact (fact (s1 := s) (by omega) (by show s + 60 ≤ s + 70; omega)).2
  | m + 1 =>
    have up := cq_up m
    have ec : cq (m + 1) = 4 * cq m + 10 := rfl
    have hpos : decide ((0 : Int) < ((m + 1 : Nat) : Int)) = true := decide_eq_true (by omega)
    repeat (first | exact Or.inl rfl | refine ⟨Nat.le_of_ble_eq_true rfl, ?_⟩ | refine ⟨rfl, ?_⟩ | refine ⟨trivial, ?_⟩ | refine ⟨Or.inl rfl, ?_⟩ | refine ⟨_, isPot_self _ _, ?_⟩ | refine ⟨_, rfl, ?_⟩ | rw [hpos])
    refine ⟨by omega, by decide, by decide, fun t t0 t1 => ?_⟩
    have ht : t = 0 ∨ t = 1 ∨ t = 2 ∨ t = 3 := by omega
    have sub1 : (((m + 1 : Nat) : Int) - 1) = (m : Int) := by omega
    rcases ht with rfl | rfl | rfl | rfl
    · repeat (first | exact Or.inl rfl | refine ⟨Nat.le_of_ble_eq_true rfl, ?_⟩ | refine ⟨rfl, ?_⟩ | refine ⟨trivial, ?_⟩ | refine ⟨Or.inl rfl, ?_⟩ | refine ⟨_, isPot_self _ _, ?_⟩ | refine ⟨_, rfl, ?_⟩)
      exact (fact (s1 := s + 1) (by omega) (by omega)).2
    · repeat (first | exact Or.inl rfl | refine ⟨Nat.le_of_ble_eq_true rfl, ?_⟩ | refine ⟨rfl, ?_⟩ | refine ⟨trivial, ?_⟩ | refine ⟨Or.inl rfl, ?_⟩ | refine ⟨_, isPot_self _ _, ?_⟩ | refine ⟨_, rfl, ?_⟩)
      refine ⟨left, congrArg (fun z => [Dv.d (.int (left : Int)), Dv.d (PyData.int z)]) sub1, h1, h4, by omega, by omega, fun x ts c s2 hq hc hs2 => ?_⟩
      repeat (first | exact Or.inl rfl | refine ⟨Nat.le_of_ble_eq_true rfl, ?_⟩ | refine ⟨rfl, ?_⟩ | refine ⟨trivial, ?_⟩ | refine ⟨Or.inl rfl, ?_⟩ | refine ⟨_, rfl, ?_⟩)
      exact Or.inl ⟨_, rfl, k _ _ _ _ (Or.inr (Or.inl ⟨x, ts, rfl, rfl, hq⟩)) hc (by omega)⟩
    · by_cases hl1 : left = 1
      · have hgt : decide ((1 : Int) < (left : Int)) = false := decide_eq_false (by omega)
        repeat (first | exact Or.inl rfl | refine ⟨Nat.le_of_ble_eq_true rfl, ?_⟩ | refine ⟨rfl, ?_⟩ | refine ⟨trivial, ?_⟩ | refine ⟨Or.inl rfl, ?_⟩ | refine ⟨_, isPot_self _ _, ?_⟩ | refine ⟨_, rfl, ?_⟩ | rw [hgt])
        exact (fact (s1 := s + 1) (by omega) (by omega)).2
      · have hgt : decide ((1 : Int) < (left : Int)) = true := decide_eq_true (by omega)
        repeat (first | exact Or.inl rfl | refine ⟨Nat.le_of_ble_eq_true rfl, ?_⟩ | refine ⟨rfl, ?_⟩ | refine ⟨trivial, ?_⟩ | refine ⟨Or.inl rfl, ?_⟩ | refine ⟨_, isPot_self _ _, ?_⟩ | refine ⟨_, rfl, ?_⟩ | rw [hgt])
        refine ⟨by omega, by omega, by omega, fun u u0 u1 => ?_⟩
        obtain ⟨v, rfl⟩ : ∃ v : Nat, u = (v : Int) := ⟨u.toNat, by omega⟩
        obtain ⟨f, hf⟩ : ∃ f : Nat, (left : Int) - (2 + (v : Int)) + 1 = (f : Int) := ⟨((left : Int) - (2 + (v : Int)) + 1).toNat, by omega⟩
        have hrg : -(2 ^ 62) ≤ (2 + (v : Int)) - 1 ∧ (2 + (v : Int)) - 1 < 2 ^ 62 := by omega
        repeat (first | exact Or.inl rfl | refine ⟨Nat.le_of_ble_eq_true rfl, ?_⟩ | refine ⟨rfl, ?_⟩ | refine ⟨trivial, ?_⟩ | refine ⟨Or.inl rfl, ?_⟩ | refine ⟨_, isPot_self _ _, ?_⟩ | refine ⟨_, rfl, ?_⟩)
        refine ⟨f, (congrArg (fun z => [Dv.d (.int ((left : Int) - (2 + (v : Int)) + 1)), Dv.d (PyData.int z)]) sub1).trans (congrArg (fun z => [Dv.d (.int z), Dv.d (PyData.int (m : Int))]) hf), by omega, by omega, by omega, by omega, fun x1 ts1 c1 s2 hq1 hc1 hs2 => ?_⟩
        repeat (first | exact Or.inl rfl | refine ⟨Nat.le_of_ble_eq_true rfl, ?_⟩ | refine ⟨rfl, ?_⟩ | refine ⟨trivial, ?_⟩ | refine ⟨Or.inl rfl, ?_⟩ | refine ⟨hrg, ?_⟩ | refine ⟨_, rfl, ?_⟩)
        refine lcW_inv (i := 7) (fun j acc s' => ∃ qs : List Qp, qs.length = j ∧ acc = qs.map (fun q => q.1) ∧ (∀ q ∈ qs, QT m q.1 q.2.1 q.2.2 ∧ q.2.2 ≤ 1) ∧ s' ≤ s2 + cq m * j) _ 0 [] s2 ⟨[], rfl, rfl, fun _ h => (by cases h), Nat.le_refl _⟩ ?_ ?_ ?_ ?_
        · rw [rangeL_len]
          exact Nat.le_trans (show 0 + ((2 + (v : Int)) - 1).toNat ≤ 4 by omega) (by decide)
        · rintro j d acc s' hd ⟨qs, hj, rfl, hq, hs'⟩
          obtain ⟨hj2, rfl⟩ := rangeL_get hd
          rw [Nat.zero_add] at hj hs'
          have hmul : cq m * j ≤ cq m * 2 := Nat.mul_le_mul_left _ (by omega)
          repeat (first | exact Or.inl rfl | refine ⟨Nat.le_of_ble_eq_true rfl, ?_⟩ | refine ⟨rfl, ?_⟩ | refine ⟨trivial, ?_⟩ | refine ⟨Or.inl rfl, ?_⟩ | refine ⟨_, isPot_self _ _, ?_⟩ | refine ⟨_, rfl, ?_⟩)
          refine ⟨1, congrArg (fun z => [Dv.d (.int (1 : Int)), Dv.d (PyData.int z)]) sub1, by omega, by omega, by omega, by omega, fun x ts c s3 hq3 hc3 hs3 => ?_⟩
          refine ⟨x, rfl, qs ++ [(x, ts, c)], by simp [hj], by simp, fun q hq' => ?_, ?_⟩
          · rcases List.mem_append.mp hq' with h | h
            · exact hq q h
            · rw [List.mem_singleton.mp h]
              exact ⟨hq3, hc3⟩
          · rw [Nat.zero_add, Nat.mul_succ]
            omega
        · rintro acc s' ⟨qs, hj, rfl, hq, hs'⟩
          rw [rangeL_len, Nat.zero_add] at hj hs'
          have hlen : qs.length ≤ 3 := by omega
          have hmul : cq m * ((2 + (v : Int)) - 1).toNat ≤ cq m * 3 := Nat.mul_le_mul_left _ (by omega)
          have z1 : ([x1] : List PyData).length + (qs.map fun q => q.1).length ≤ sizeLine := by
            rw [List.length_map]
            exact Nat.le_trans (show 1 + qs.length ≤ 4 by omega) (by decide)
          have z2 : ([.str ("and" : Str)] : List PyData).length + ([x1] ++ qs.map fun q => q.1).length ≤ sizeLine := by
            rw [List.length_append, List.length_map]
            exact Nat.le_trans (show 1 + (1 + qs.length) ≤ 5 by omega) (by decide)
          repeat (first | exact Or.inl rfl | refine ⟨Nat.le_of_ble_eq_true rfl, ?_⟩ | refine ⟨rfl, ?_⟩ | refine ⟨trivial, ?_⟩ | refine ⟨Or.inl rfl, ?_⟩ | refine ⟨z1, ?_⟩ | refine ⟨z2, ?_⟩ | refine ⟨_, rfl, ?_⟩)
          have hsum := sum_le1 qs (fun q => q.2.2) fun q h => (hq q h).2
          refine Or.inl ⟨_, rfl, k _ _ _ _ (Or.inr (Or.inr ⟨true, (x1, ts1, c1) :: qs, by simp; omega, by simp; omega, rfl, rfl, rfl, fun q hq' => ?_⟩)) ?_ (by omega)⟩
          · rcases List.mem_cons.mp hq' with rfl | h
            · exact hq1
            · exact (hq q h).1
          · rw [List.map_cons, List.sum_cons]
            show c1 + _ ≤ left
            omega
        · intro env
          show Mono _
          repeat' (first | exact mo_ret | exact mo_get | exact mo_ask | exact mo_take | exact mo_of | exact mo_name | exact mo_count | exact mo_fact | exact mo_sq _ | exact mo_rq | exact mo_lrt | exact mo_sr | exact mo_rr | exact mo_run | exact mo_question _ | refine mo_callDW ?_ | refine mo_callRW ?_ | exact mo_question_at _ | exact mo_inTW | exact mo_ixTW | exact mo_callW | exact mo_eqW | exact mo_neW | exact mo_intW | exact mo_plusW | exact mo_isW | exact mo_inW | exact mo_ixW | exact mo_isiW | exact mo_lenW | exact mo_strW | exact mo_intCW | exact mo_allW | exact mo_anyW | exact mo_tupW | exact mo_reprW | exact mo_splitW | exact mo_joinW | exact mo_fmtW | exact mo_range1W | exact mo_range2W | exact mo_parW | refine mo_ite ?_ ?_ | refine mo_headW ?_ | refine mo_seqW ?_ | refine mo_lcW ?_ ?_ ?_ _ _ | refine mo_bnd ?_ (fun _ => ?_) | intro _)
    · by_cases hl1 : left = 1
      · have hgt : decide ((1 : Int) < (left : Int)) = false := decide_eq_false (by omega)
        repeat (first | exact Or.inl rfl | refine ⟨Nat.le_of_ble_eq_true rfl, ?_⟩ | refine ⟨rfl, ?_⟩ | refine ⟨trivial, ?_⟩ | refine ⟨Or.inl rfl, ?_⟩ | refine ⟨_, isPot_self _ _, ?_⟩ | refine ⟨_, rfl, ?_⟩ | rw [hgt])
        exact (fact (s1 := s + 1) (by omega) (by omega)).2
      · have hgt : decide ((1 : Int) < (left : Int)) = true := decide_eq_true (by omega)
        repeat (first | exact Or.inl rfl | refine ⟨Nat.le_of_ble_eq_true rfl, ?_⟩ | refine ⟨rfl, ?_⟩ | refine ⟨trivial, ?_⟩ | refine ⟨Or.inl rfl, ?_⟩ | refine ⟨_, isPot_self _ _, ?_⟩ | refine ⟨_, rfl, ?_⟩ | rw [hgt])
        refine ⟨by omega, by omega, by omega, fun u u0 u1 => ?_⟩
        obtain ⟨v, rfl⟩ : ∃ v : Nat, u = (v : Int) := ⟨u.toNat, by omega⟩
        obtain ⟨f, hf⟩ : ∃ f : Nat, (left : Int) - (2 + (v : Int)) + 1 = (f : Int) := ⟨((left : Int) - (2 + (v : Int)) + 1).toNat, by omega⟩
        have hrg : -(2 ^ 62) ≤ (2 + (v : Int)) - 1 ∧ (2 + (v : Int)) - 1 < 2 ^ 62 := by omega
        repeat (first | exact Or.inl rfl | refine ⟨Nat.le_of_ble_eq_true rfl, ?_⟩ | refine ⟨rfl, ?_⟩ | refine ⟨trivial, ?_⟩ | refine ⟨Or.inl rfl, ?_⟩ | refine ⟨_, isPot_self _ _, ?_⟩ | refine ⟨_, rfl, ?_⟩)
        refine ⟨f, (congrArg (fun z => [Dv.d (.int ((left : Int) - (2 + (v : Int)) + 1)), Dv.d (PyData.int z)]) sub1).trans (congrArg (fun z => [Dv.d (.int z), Dv.d (PyData.int (m : Int))]) hf), by omega, by omega, by omega, by omega, fun x1 ts1 c1 s2 hq1 hc1 hs2 => ?_⟩
        repeat (first | exact Or.inl rfl | refine ⟨Nat.le_of_ble_eq_true rfl, ?_⟩ | refine ⟨rfl, ?_⟩ | refine ⟨trivial, ?_⟩ | refine ⟨Or.inl rfl, ?_⟩ | refine ⟨hrg, ?_⟩ | refine ⟨_, rfl, ?_⟩)
        refine lcW_inv (i := 7) (fun j acc s' => ∃ qs : List Qp, qs.length = j ∧ acc = qs.map (fun q => q.1) ∧ (∀ q ∈ qs, QT m q.1 q.2.1 q.2.2 ∧ q.2.2 ≤ 1) ∧ s' ≤ s2 + cq m * j) _ 0 [] s2 ⟨[], rfl, rfl, fun _ h => (by cases h), Nat.le_refl _⟩ ?_ ?_ ?_ ?_
        · rw [rangeL_len]
          exact Nat.le_trans (show 0 + ((2 + (v : Int)) - 1).toNat ≤ 4 by omega) (by decide)
        · rintro j d acc s' hd ⟨qs, hj, rfl, hq, hs'⟩
          obtain ⟨hj2, rfl⟩ := rangeL_get hd
          rw [Nat.zero_add] at hj hs'
          have hmul : cq m * j ≤ cq m * 2 := Nat.mul_le_mul_left _ (by omega)
          repeat (first | exact Or.inl rfl | refine ⟨Nat.le_of_ble_eq_true rfl, ?_⟩ | refine ⟨rfl, ?_⟩ | refine ⟨trivial, ?_⟩ | refine ⟨Or.inl rfl, ?_⟩ | refine ⟨_, isPot_self _ _, ?_⟩ | refine ⟨_, rfl, ?_⟩)
          refine ⟨1, congrArg (fun z => [Dv.d (.int (1 : Int)), Dv.d (PyData.int z)]) sub1, by omega, by omega, by omega, by omega, fun x ts c s3 hq3 hc3 hs3 => ?_⟩
          refine ⟨x, rfl, qs ++ [(x, ts, c)], by simp [hj], by simp, fun q hq' => ?_, ?_⟩
          · rcases List.mem_append.mp hq' with h | h
            · exact hq q h
            · rw [List.mem_singleton.mp h]
              exact ⟨hq3, hc3⟩
          · rw [Nat.zero_add, Nat.mul_succ]
            omega
        · rintro acc s' ⟨qs, hj, rfl, hq, hs'⟩
          rw [rangeL_len, Nat.zero_add] at hj hs'
          have hlen : qs.length ≤ 3 := by omega
          have hmul : cq m * ((2 + (v : Int)) - 1).toNat ≤ cq m * 3 := Nat.mul_le_mul_left _ (by omega)
          have z1 : ([x1] : List PyData).length + (qs.map fun q => q.1).length ≤ sizeLine := by
            rw [List.length_map]
            exact Nat.le_trans (show 1 + qs.length ≤ 4 by omega) (by decide)
          have z2 : ([.str ("or" : Str)] : List PyData).length + ([x1] ++ qs.map fun q => q.1).length ≤ sizeLine := by
            rw [List.length_append, List.length_map]
            exact Nat.le_trans (show 1 + (1 + qs.length) ≤ 5 by omega) (by decide)
          repeat (first | exact Or.inl rfl | refine ⟨Nat.le_of_ble_eq_true rfl, ?_⟩ | refine ⟨rfl, ?_⟩ | refine ⟨trivial, ?_⟩ | refine ⟨Or.inl rfl, ?_⟩ | refine ⟨z1, ?_⟩ | refine ⟨z2, ?_⟩ | refine ⟨_, rfl, ?_⟩)
          have hsum := sum_le1 qs (fun q => q.2.2) fun q h => (hq q h).2
          refine Or.inl ⟨_, rfl, k _ _ _ _ (Or.inr (Or.inr ⟨false, (x1, ts1, c1) :: qs, by simp; omega, by simp; omega, rfl, rfl, rfl, fun q hq' => ?_⟩)) ?_ (by omega)⟩
          · rcases List.mem_cons.mp hq' with rfl | h
            · exact hq1
            · exact (hq q h).1
          · rw [List.map_cons, List.sum_cons]
            show c1 + _ ≤ left
            omega
        · intro env
          show Mono _
          repeat' (first | exact mo_ret | exact mo_get | exact mo_ask | exact mo_take | exact mo_of | exact mo_name | exact mo_count | exact mo_fact | exact mo_sq _ | exact mo_rq | exact mo_lrt | exact mo_sr | exact mo_rr | exact mo_run | exact mo_question _ | refine mo_callDW ?_ | refine mo_callRW ?_ | exact mo_question_at _ | exact mo_inTW | exact mo_ixTW | exact mo_callW | exact mo_eqW | exact mo_neW | exact mo_intW | exact mo_plusW | exact mo_isW | exact mo_inW | exact mo_ixW | exact mo_isiW | exact mo_lenW | exact mo_strW | exact mo_intCW | exact mo_allW | exact mo_anyW | exact mo_tupW | exact mo_reprW | exact mo_splitW | exact mo_joinW | exact mo_fmtW | exact mo_range1W | exact mo_range2W | exact mo_parW | refine mo_ite ?_ ?_ | refine mo_headW ?_ | refine mo_seqW ?_ | refine mo_lcW ?_ ?_ ?_ _ _ | refine mo_bnd ?_ (fun _ => ?_) | intro _)
theorem all__law_question (T : Tx w K mg) (D : Df K mg "_law_question" s__law_question ["pot", "left", "deep"]) (G__law_fact : DefOk P w K mg base 4 "_law_fact" ["pot"] (spD K 1 m__law_fact)) (G__law_take : DefOk P w K mg base 1 "_law_take" ["pot", "upto"] (spD K 2 m__law_take)) :
    ∀ n, DefOk P w K mg base (10 + n) "_law_question" ["pot", "left", "deep"] (spD K 3 (m__law_question n))
  | 0 => defNo D (no_spD fun _ _ _ h => h)
  | n + 1 => ok__law_question T D G__law_fact G__law_take (k := 10 + n) (n := n) (Nat.le_add_right 10 n) (all__law_question T D G__law_fact G__law_take n)
def m__law_run : List Dv → Wp Nat Dv := fun ds R s => ds = [] ∧ s + 300 ≤ dmax ∧ ∀ (ps : List Sp2) (s' : Nat), Steps ps → s' ≤ s + 60 → R (.d (runX ps)) s'
theorem mo_run (ds : List Dv) : Mono (m__law_run ds) := fun R R' s h ⟨a, b, c⟩ => ⟨a, b, fun x s' h1 h2 => h _ _ (c x s' h1 h2)⟩
abbrev nm__law_run : List Str := ["pot", "found", "turn", "hand", "value"]
theorem sc__law_run : FnScope nm__law_run ["pot"] (defScope s__law_run) := ⟨rfl, rfl, rfl, by decide +kernel, rfl, by decide +kernel, by decide +kernel⟩
theorem ok__law_run (T : Tx w K mg) (D : Df K mg "_law_run" s__law_run ["pot"]) (G__law_count : DefOk P w K mg base 3 "_law_count" ["pot"] (spD K 1 m__law_count)) (G__law_of : DefOk P w K mg base 2 "_law_of" ["pot", "some"] (spD K 2 m__law_of)) (G__law_take : DefOk P w K mg base 1 "_law_take" ["pot", "upto"] (spD K 2 m__law_take)) : DefOk P w K mg base 4 "_law_run" ["pot"] (spD K 1 m__law_run) := by
  have nd := sc__law_run.nd
  have t_range : mg "range" = none := T.b0 _ (by decide +kernel)
  have t_tuple : mg "tuple" = none := T.b0 _ (by decide +kernel)
  refine defD D sc__law_run (fun f cdv A outer s H E hr p mm G0 => (dss_cons (ds_own (i := 1) nd rfl (by first | exact Or.inl rfl | exact Or.inr rfl) (df_lst (da_nil rfl)))
  (dss_cons (ds_for PassesOwn.never rfl (di_range1 (by rfl) t_range (da_cons (dcD G__law_take (hr.mono (by decide)) (by rfl) (da_cons (dv 0) (da_cons (de_int rfl) (da_nil rfl)))) (da_nil rfl))) (dg_name (i := 2) rfl nd rfl (by first | exact Or.inl rfl | exact Or.inr rfl)) (dss_cons (ds_par (i := 3) (j := 4) rfl nd rfl rfl (by decide) rfl rfl (da_cons (dcD G__law_of (hr.mono (by decide)) (by rfl) (da_cons (dv 0) (da_cons (de_f (df_lst (da_cons (de_int rfl) (da_cons (de_int rfl) (da_cons (dcD G__law_count hr (by rfl) (da_cons (dv 0) (da_nil rfl))) (da_nil rfl)))))) (da_nil rfl)))) (da_cons (dcD G__law_of (hr.mono (by decide)) (by rfl) (da_cons (dv 0) (da_cons (de_f (df_lst (da_cons (de_non rfl) (da_cons (de_int rfl) (da_cons (dcD G__law_count hr (by rfl) (da_cons (dv 0) (da_nil rfl))) (da_nil rfl)))))) (da_nil rfl)))) (da_nil rfl))) (by rfl))
  (dss_one (ds_append (i := 1) rfl (by first | exact Or.inl rfl | exact Or.inr (Or.inl rfl)) (dcD G__law_of (hr.mono (by decide)) (by rfl) (da_cons (dv 0) (da_cons (de_f (df_lst (da_cons (de_tup (da_cons (de_str rfl) (da_cons (dv 3) (da_cons (dv 4) (da_nil rfl))))) (da_cons (de_tup (da_cons (de_str rfl) (da_cons (dv 3) (da_nil rfl)))) (da_cons (de_tup (da_cons (de_str rfl) (da_nil rfl))) (da_nil rfl)))))) (da_nil rfl))))))))
  (dss_freeze 1 (dss_one (ds_ret (de_callTy (cd_tuple rfl) (by rfl) t_tuple (by decide +kernel) (da_cons (dv 1) (da_nil rfl))))))))) ?_
  rintro p ds R s hl ⟨rfl, hs, k⟩
  have hdm : dmax = 1000000 := rfl
  repeat (first | exact Or.inl rfl | refine ⟨Nat.le_of_ble_eq_true rfl, ?_⟩ | refine ⟨rfl, ?_⟩ | refine ⟨trivial, ?_⟩ | refine ⟨Or.inl rfl, ?_⟩ | refine ⟨_, isPot_self _ _, ?_⟩ | refine ⟨_, rfl, ?_⟩)
  refine ⟨by omega, by decide, by decide, fun t t0 t1 => ?_⟩
  have hrt : -(2 ^ 62) ≤ t ∧ t < 2 ^ 62 := by omega
  repeat (first | exact Or.inl rfl | refine ⟨Nat.le_of_ble_eq_true rfl, ?_⟩ | refine ⟨rfl, ?_⟩ | refine ⟨trivial, ?_⟩ | refine ⟨Or.inl rfl, ?_⟩ | refine ⟨hrt, ?_⟩ | refine ⟨_, rfl, ?_⟩)
  refine forW_inv (fun j env s' => ∃ ps : List Sp2, (∃ a b c, env = [some (.v (.o (.ref p))), some (.own (ps.map fun q => q.1)), a, b, c]) ∧ ps.length = j ∧ (∀ q ∈ ps, Step q.1 q.2) ∧ s' ≤ s + 1 + 8 * j) _ 0 _ (s + 1) ⟨[], ⟨none, none, none, rfl⟩, rfl, fun _ h => (by cases h), Nat.le_refl _⟩ ?_ ?_ ?_
  · rintro m d env s' hd ⟨ps, ⟨a, b, c, rfl⟩, hp1, hp2, hs'⟩
    obtain ⟨hm, rfl⟩ := rangeL_get hd
    repeat (first | exact Or.inl rfl | refine ⟨Nat.le_of_ble_eq_true rfl, ?_⟩ | refine ⟨rfl, ?_⟩ | refine ⟨trivial, ?_⟩ | refine ⟨Or.inl rfl, ?_⟩ | refine ⟨_, isPot_self _ _, ?_⟩ | refine ⟨_, rfl, ?_⟩)
    refine ⟨by omega, fun n1 s1 hn1 hs1 => ?_⟩
    repeat (first | exact Or.inl rfl | refine ⟨Nat.le_of_ble_eq_true rfl, ?_⟩ | refine ⟨rfl, ?_⟩ | refine ⟨trivial, ?_⟩ | refine ⟨Or.inl rfl, ?_⟩ | refine ⟨_, isPot_self _ _, ?_⟩ | refine ⟨_, rfl, ?_⟩)
    refine ⟨_, _, rfl, rfl, Nat.le_of_ble_eq_true rfl, Nat.le_of_ble_eq_true rfl, by omega, fun j1 hv hj1 hd => ?_⟩
    obtain ⟨h, hh, rfl⟩ : ∃ h : Nat, h < 1000 ∧ hv = .int (h : Int) := by
      have hd := ix_mem hd
      simp only [List.mem_cons, List.not_mem_nil, or_false] at hd
      rcases hd with rfl | rfl | rfl
      · exact ⟨0, by decide, rfl⟩
      · exact ⟨1, by decide, rfl⟩
      · exact ⟨n1, hn1, rfl⟩
    clear hd
    repeat (first | exact Or.inl rfl | refine ⟨Nat.le_of_ble_eq_true rfl, ?_⟩ | refine ⟨rfl, ?_⟩ | refine ⟨trivial, ?_⟩ | refine ⟨Or.inl rfl, ?_⟩ | refine ⟨_, isPot_self _ _, ?_⟩ | refine ⟨_, rfl, ?_⟩)
    refine ⟨by omega, fun n2 s2 hn2 hs2 => ?_⟩
    repeat (first | exact Or.inl rfl | refine ⟨Nat.le_of_ble_eq_true rfl, ?_⟩ | refine ⟨rfl, ?_⟩ | refine ⟨trivial, ?_⟩ | refine ⟨Or.inl rfl, ?_⟩ | refine ⟨_, isPot_self _ _, ?_⟩ | refine ⟨_, rfl, ?_⟩)
    refine ⟨_, _, rfl, rfl, Nat.le_of_ble_eq_true rfl, Nat.le_of_ble_eq_true rfl, by omega, fun j2 vv hj2 hd => ?_⟩
    have hvv : vv = .none ∨ ∃ v : Nat, v < 1000 ∧ vv = .int (v : Int) := by
      have hd := ix_mem hd
      simp only [List.mem_cons, List.not_mem_nil, or_false] at hd
      rcases hd with rfl | rfl | rfl
      · exact .inl rfl
      · exact .inr ⟨0, by decide, rfl⟩
      · exact .inr ⟨n2, hn2, rfl⟩
    clear hd
    repeat (first | exact Or.inl rfl | refine ⟨Nat.le_of_ble_eq_true rfl, ?_⟩ | refine ⟨rfl, ?_⟩ | refine ⟨trivial, ?_⟩ | refine ⟨Or.inl rfl, ?_⟩ | refine ⟨_, isPot_self _ _, ?_⟩ | refine ⟨_, rfl, ?_⟩)
    refine ⟨_, _, rfl, rfl, Nat.le_of_ble_eq_true rfl, Nat.le_of_ble_eq_true rfl, by omega, fun j3 z hj3 hd => ?_⟩
    have hz : ∃ ts, Step z ts := by
      have hd := ix_mem hd
      simp only [List.mem_cons, List.not_mem_nil, or_false] at hd
      rcases hd with rfl | rfl | rfl
      · rcases hvv with rfl | ⟨v, hv, rfl⟩
        · exact ⟨_, .do1 h hh⟩
        · exact ⟨_, .do2 h v hh hv⟩
      · exact ⟨_, .wr h hh⟩
      · exact ⟨_, .ag⟩
    clear hd
    obtain ⟨ts, hz⟩ := hz
    have hlen : (ps.map fun q : Sp2 => q.1).length < sizeLine := by
      rw [List.length_map]
      exact Nat.lt_of_le_of_lt (show _ ≤ 10 by omega) (by decide)
    repeat (first | exact Or.inl rfl | refine ⟨Nat.le_of_ble_eq_true rfl, ?_⟩ | refine ⟨rfl, ?_⟩ | refine ⟨trivial, ?_⟩ | refine ⟨Or.inl rfl, ?_⟩ | refine ⟨hlen, ?_⟩ | refine ⟨_, rfl, ?_⟩)
    refine ⟨ps ++ [(z, ts)], ⟨_, _, _, by rw [List.map_append]; rfl⟩, by simp [hp1], fun q hq => ?_, by omega⟩
    rcases List.mem_append.mp hq with hq | hq
    · exact hp2 q hq
    · rw [List.mem_singleton.mp hq]
      exact hz
  · rintro env s' ⟨ps, ⟨a, b, c, rfl⟩, hp1, hp2, hs'⟩
    rw [rangeL_len, Nat.zero_add] at hp1 hs'
    repeat (first | exact Or.inl rfl | refine ⟨Nat.le_of_ble_eq_true rfl, ?_⟩ | refine ⟨rfl, ?_⟩ | refine ⟨trivial, ?_⟩ | refine ⟨Or.inl rfl, ?_⟩ | refine ⟨_, rfl, ?_⟩)
    exact Or.inl ⟨_, rfl, k ps _ ⟨by omega, hp2⟩ (by omega)⟩
  · intro d env
    show Mono _
    repeat' (first | exact mo_ret | exact mo_get | exact mo_ask | exact mo_take | exact mo_of | exact mo_name | exact mo_count | exact mo_fact | exact mo_sq _ | exact mo_rq | exact mo_lrt | exact mo_sr | exact mo_rr | exact mo_run | exact mo_question _ | refine mo_callDW ?_ | refine mo_callRW ?_ | exact mo_question_at _ | exact mo_inTW | exact mo_ixTW | exact mo_callW | exact mo_eqW | exact mo_neW | exact mo_intW | exact mo_plusW | exact mo_isW | exact mo_inW | exact mo_ixW | exact mo_isiW | exact mo_lenW | exact mo_strW | exact mo_intCW | exact mo_allW | exact mo_anyW | exact mo_tupW | exact mo_reprW | exact mo_splitW | exact mo_joinW | exact mo_fmtW | exact mo_range1W | exact mo_range2W | exact mo_parW | refine mo_ite ?_ ?_ | refine mo_headW ?_ | refine mo_seqW ?_ | refine mo_lcW ?_ ?_ ?_ _ _ | refine mo_bnd ?_ (fun _ => ?_) | intro _)

end
end L2.DD

set_option maxRecDepth 100000
set_option maxHeartbeats 4000000
namespace L2.DD
open PySem PySem.Spec PyProof.Rows
section
variable {P : Program} {w : World} {K : PySem.W.Frag} {mg : Str → Option Value} {base : Heap}
def lcScope (d : Scope) : List Stmt → Scope
  | .Assign _ (.ListComp _ _ sc _) _ :: _ => sc
  | _ => d
def m__law_run_text : List Dv → Wp Unit Dv := m_show_run
theorem mo_sq : ∀ (n : Nat) (ds : List Dv), Mono (m_show_question n ds)
  | 0, _ => fun _ _ _ _ h => h.elim
  | n + 1, _ => fun R R' s h ⟨x, ts, c, a, b, d, e⟩ => ⟨x, ts, c, a, b, d, h _ _ e⟩
theorem mo_rq (ds : List Dv) : Mono (m_read_question ds) := fun R R' s h ⟨x, ts, c, a, b, d, e⟩ => ⟨x, ts, c, a, b, d, h _ _ e⟩
theorem mo_sr (ds : List Dv) : Mono (m_show_run ds) := fun R R' s h ⟨x, a, b, e⟩ => ⟨x, a, b, h _ _ e⟩
theorem mo_lrt (ds : List Dv) : Mono (m__law_run_text ds) := mo_sr ds
theorem mo_rr (ds : List Dv) : Mono (m_read_run ds) := fun R R' s h ⟨x, a, b, e⟩ => ⟨x, a, b, h _ _ e⟩
abbrev nm__law_run_text : List Str := ["run", "rows", "part", "step"]
theorem sc__law_run_text : FnScope nm__law_run_text ["run"] (defScope s__law_run_text) := ⟨rfl, rfl, rfl, by decide +kernel, rfl, by decide +kernel, by decide +kernel⟩
theorem ok__law_run_text (T : Tx w K mg) (D : Df K mg "_law_run_text" s__law_run_text ["run"]) : DefOk P w K mg base 1 "_law_run_text" ["run"] (spR K 1 m__law_run_text) := by
  have nd := sc__law_run_text.nd
  have t_str : mg "str" = none := T.b0 _ (by decide +kernel)
  refine defR D sc__law_run_text (fun f cdv A outer s H E G0 hr => (dss_cons (ds_setLc (i := 1) (py := ⟨_, _, _, _⟩) (own := [("step", 3)]) rfl nd rfl rfl (sw_true rfl rfl rfl (by decide +kernel)) (di_any (dv 0)) (blkOk_by (own := [("step", 3)]) (N := nm__law_run_text) (sc := defScope s__law_run_text) (by decide +kernel)) (fun _ _ _ _ _ => (dg_name (i := 3) rfl nd rfl (by first | exact Or.inl rfl | exact Or.inr rfl))) (fun _ _ _ _ _ => dts_nil rfl) (fun _ _ _ _ _ => (de_join (de_str rfl) (de_f (df_lc (own := [("part", 2)]) rfl nd (di_any (dv 3)) (blkOk_by (own := [("part", 2)]) (N := nm__law_run_text) (sc := lcScope (defScope s__law_run_text) (defBody s__law_run_text)) (by decide +kernel)) (fun _ _ _ _ _ => (dg_name (i := 2) rfl nd rfl (by first | exact Or.inl rfl | exact Or.inr rfl))) (fun _ _ _ _ _ => dts_one (dt_cmp (od_isNot) (dv 2) (de_non rfl) (nomark _))) (fun _ _ _ _ _ => (de_callTy (cd_str) (by rfl) t_str (by decide +kernel) (da_cons (dv 2) (da_nil rfl)))))))))
  (dss_one (ds_ret (de_if (dt_cmp (od_ne rfl (u64 hr)) (dv 1) (de_f (df_lst (da_nil rfl))) (nomark _)) (de_join (de_str rfl) (dv 1)) (de_str rfl)))))) ?_
  rintro ds R hl ⟨ps, rfl, h, k⟩
  unfold runX
  repeat (first | exact Or.inl rfl | refine ⟨Nat.le_of_ble_eq_true rfl, ?_⟩ | refine ⟨rfl, ?_⟩ | refine ⟨trivial, ?_⟩ | refine ⟨Or.inl rfl, ?_⟩ | refine ⟨_, rfl, ?_⟩)
  rw [List.map_map]
  refine lcW_map2 (i := 3) (fun p : Sp2 => p.1) (fun p => .str (Txt.join sp1 p.2)) ps [] _ _ ?_ ?_ ?_
  · exact Nat.le_trans (show 0 + ps.length ≤ 6 by have := h.1; omega) (by decide)
  · intro p hp R s q
    have hst := h.2 p hp
    obtain ⟨x, ts⟩ := p
    have hst : Step x ts := hst
    have hz : (ts.map (·.length)).sum + ts.length * sp1.length ≤ 16777216 := jn_size (k := 3) (fun t ht => Nat.le_trans (hst.tok.1 t ht).l8 (by decide)) hst.tok.2.2 (by decide)
    cases hst with
    | do2 h v hh hv =>
      have e1 := num_str hh
      have e2 := num_str hv
      repeat (first | exact Or.inl rfl | refine ⟨Nat.le_of_ble_eq_true rfl, ?_⟩ | refine ⟨rfl, ?_⟩ | refine ⟨trivial, ?_⟩ | refine ⟨Or.inl rfl, ?_⟩ | refine ⟨_, e1, ?_⟩ | refine ⟨_, e2, ?_⟩ | refine ⟨hz, ?_⟩ | refine ⟨_, rfl, ?_⟩)
      exact q
    | do1 h hh =>
      have e1 := num_str hh
      repeat (first | exact Or.inl rfl | refine ⟨Nat.le_of_ble_eq_true rfl, ?_⟩ | refine ⟨rfl, ?_⟩ | refine ⟨trivial, ?_⟩ | refine ⟨Or.inl rfl, ?_⟩ | refine ⟨_, e1, ?_⟩ | refine ⟨hz, ?_⟩ | refine ⟨_, rfl, ?_⟩)
      exact q
    | wr h hh =>
      have e1 := num_str hh
      repeat (first | exact Or.inl rfl | refine ⟨Nat.le_of_ble_eq_true rfl, ?_⟩ | refine ⟨rfl, ?_⟩ | refine ⟨trivial, ?_⟩ | refine ⟨Or.inl rfl, ?_⟩ | refine ⟨_, e1, ?_⟩ | refine ⟨hz, ?_⟩ | refine ⟨_, rfl, ?_⟩)
      exact q
    | ag =>
      repeat (first | exact Or.inl rfl | refine ⟨Nat.le_of_ble_eq_true rfl, ?_⟩ | refine ⟨rfl, ?_⟩ | refine ⟨trivial, ?_⟩ | refine ⟨Or.inl rfl, ?_⟩ | refine ⟨hz, ?_⟩ | refine ⟨_, rfl, ?_⟩)
      exact q
  · rw [List.nil_append]
    have es : strsOf (ps.map fun p : Sp2 => PyData.str (Txt.join sp1 p.2)) = some (ps.map fun p : Sp2 => Txt.join sp1 p.2) := by
      rw [← strsOf_map, List.map_map]
      rfl
    have hz : ((ps.map fun p : Sp2 => Txt.join sp1 p.2).map (·.length)).sum + (ps.map fun p : Sp2 => Txt.join sp1 p.2).length * sc2.length ≤ 16777216 := by
      have e := sum_len_le (ps.map fun p : Sp2 => Txt.join sp1 p.2) 27 (fun p hp => by
        obtain ⟨q, hq, rfl⟩ := List.mem_map.mp hp
        exact (h.2 q hq).small)
      have h1 := h.1
      rw [List.length_map] at e ⊢
      rw [show sc2.length = 2 from rfl]
      omega
    have okE : eqOk (.list (ps.map fun p : Sp2 => PyData.str (Txt.join sp1 p.2))) (.list []) := Or.inr ⟨(Laid.list (n := 0) fun d hd => by
      obtain ⟨q, hq, rfl⟩ := List.mem_map.mp hd
      exact .str fun c hc => by have := words_sign (h.2 q hq).tok.1 c hc; omega).shaped (by decide), by decide +kernel⟩
    have eE := empty_eqv (ps.map fun p : Sp2 => PyData.str (Txt.join sp1 p.2))
    repeat (first | exact Or.inl rfl | refine ⟨Nat.le_of_ble_eq_true rfl, ?_⟩ | refine ⟨rfl, ?_⟩ | refine ⟨trivial, ?_⟩ | refine ⟨Or.inl rfl, ?_⟩ | refine ⟨okE, ?_⟩ | refine ⟨_, rfl, ?_⟩)
    rw [eE]
    by_cases hne : ps = []
    · subst hne
      repeat (first | exact Or.inl rfl | refine ⟨Nat.le_of_ble_eq_true rfl, ?_⟩ | refine ⟨rfl, ?_⟩ | refine ⟨trivial, ?_⟩ | refine ⟨Or.inl rfl, ?_⟩ | refine ⟨_, rfl, ?_⟩)
      exact Or.inl ⟨_, rfl, k⟩
    · have en : (ps.map fun p : Sp2 => PyData.str (Txt.join sp1 p.2)).isEmpty = false := by
        cases ps with
        | nil => exact absurd rfl hne
        | cons a r => rfl
      rw [en]
      rw [runT_eq hne] at k
      repeat (first | exact Or.inl rfl | refine ⟨Nat.le_of_ble_eq_true rfl, ?_⟩ | refine ⟨rfl, ?_⟩ | refine ⟨trivial, ?_⟩ | refine ⟨Or.inl rfl, ?_⟩ | refine ⟨_, es, ?_⟩ | refine ⟨hz, ?_⟩ | refine ⟨_, rfl, ?_⟩)
      exact Or.inl ⟨_, rfl, k⟩
def m__law_right : List Dv → Wp Nat Dv := fun ds R s => ds = [] ∧ s = 0 ∧ ∀ s', R (.d (.bool true)) s'
abbrev nm__law_right : List Str := ["pot", "turn", "thing", "kept", "page", "run"]
theorem sc__law_right : FnScope nm__law_right ["pot"] (defScope s__law_right) := ⟨rfl, rfl, rfl, by decide +kernel, rfl, by decide +kernel, by decide +kernel⟩
theorem ok__law_right (T : Tx w K mg) (D : Df K mg "_law_right" s__law_right ["pot"]) (G__law_question : DefOk P w K mg base 15 "_law_question" ["pot", "left", "deep"] (spD K 3 (m__law_question 5))) (G__law_question_text : DefOk P w K mg base 6 "_law_question_text" ["thing"] (spR K 1 (m__law_question_text 5))) (G__law_run : DefOk P w K mg base 4 "_law_run" ["pot"] (spD K 1 m__law_run)) (G__law_run_text : DefOk P w K mg base 1 "_law_run_text" ["run"] (spR K 1 m__law_run_text)) (G_read_question : DefOk P w K mg base 22 "read_question" ["text"] (spR K 1 m_read_question)) (G_read_run : DefOk P w K mg base 4 "read_run" ["text"] (spR K 1 m_read_run)) (G_show_question : DefOk P w K mg base 6 "show_question" ["question"] (spR K 1 (m_show_question 5))) (G_show_run : DefOk P w K mg base 2 "show_run" ["run"] (spR K 1 m_show_run)) : DefG P w K mg base 23 "_law_right" ["pot"] (spD K 1 m__law_right) := by
  have nd := sc__law_right.nd
  have t_range : mg "range" = none := T.b0 _ (by decide +kernel)
  have t_repr : mg "repr" = none := T.b0 _ (by decide +kernel)
  refine defDG D sc__law_right (fun f cdv A outer s H E hG hr p mm G0 => (dss_cons (ds_for PassesOwn.never rfl (di_range1 (by rfl) t_range (da_cons (de_int rfl) (da_nil rfl))) (dg_name (i := 1) rfl nd rfl (by first | exact Or.inl rfl | exact Or.inr rfl)) (dss_cons (ds_set (i := 2) nd rfl (by first | exact Or.inl rfl | exact Or.inr rfl) (dcD G__law_question (hr.mono (by decide)) (by rfl) (da_cons (dv 0) (da_cons (de_int rfl) (da_cons (de_int rfl) (da_nil rfl))))))
  (dss_cons (ds_par (i := 3) (j := 4) rfl nd rfl rfl (by decide) rfl rfl (da_cons (de_callB (cd_repr rfl hG (u64 hr)) (by rfl) t_repr (by decide +kernel) (da_cons (dv 2) (da_nil rfl))) (da_cons (dcR G__law_question_text (hr.mono (by decide)) (by rfl) (da_cons (dv 2) (da_nil rfl))) (da_nil rfl))) (by rfl))
  (dss_one (ds_if (DW.dt (dw_or (dt_cmp (od_ne rfl (u64 hr)) (de_callB (cd_repr rfl hG (u64 hr)) (by rfl) t_repr (by decide +kernel) (da_cons (dcR G_show_question (hr.mono (by decide)) (by rfl) (da_cons (dv 2) (da_nil rfl))) (da_nil rfl))) (de_callB (cd_repr rfl hG (u64 hr)) (by rfl) t_repr (by decide +kernel) (da_cons (dv 4) (da_nil rfl))) (nomark _)) (dw_or (dt_cmp (od_ne rfl (u64 hr)) (de_callB (cd_repr rfl hG (u64 hr)) (by rfl) t_repr (by decide +kernel) (da_cons (dcR G_read_question hr (by rfl) (da_cons (dv 4) (da_nil rfl))) (da_nil rfl))) (dv 3) (nomark _)) (dw_or1 (dt_cmp (od_ne rfl (u64 hr)) (de_callB (cd_repr rfl hG (u64 hr)) (by rfl) t_repr (by decide +kernel) (da_cons (dv 2) (da_nil rfl))) (dv 3) (nomark _)))))) (dss_one (ds_ret (de_bl rfl))) (dss_nil rfl))))))
  (dss_cons (ds_for PassesOwn.never rfl (di_range1 (by rfl) t_range (da_cons (de_int rfl) (da_nil rfl))) (dg_name (i := 1) rfl nd rfl (by first | exact Or.inl rfl | exact Or.inr rfl)) (dss_cons (ds_set (i := 5) nd rfl (by first | exact Or.inl rfl | exact Or.inr rfl) (dcD G__law_run (hr.mono (by decide)) (by rfl) (da_cons (dv 0) (da_nil rfl))))
  (dss_cons (ds_par (i := 3) (j := 4) rfl nd rfl rfl (by decide) rfl rfl (da_cons (de_callB (cd_repr rfl hG (u64 hr)) (by rfl) t_repr (by decide +kernel) (da_cons (dv 5) (da_nil rfl))) (da_cons (dcR G__law_run_text (hr.mono (by decide)) (by rfl) (da_cons (dv 5) (da_nil rfl))) (da_nil rfl))) (by rfl))
  (dss_one (ds_if (DW.dt (dw_or (dt_cmp (od_ne rfl (u64 hr)) (de_callB (cd_repr rfl hG (u64 hr)) (by rfl) t_repr (by decide +kernel) (da_cons (dcR G_show_run (hr.mono (by decide)) (by rfl) (da_cons (dv 5) (da_nil rfl))) (da_nil rfl))) (de_callB (cd_repr rfl hG (u64 hr)) (by rfl) t_repr (by decide +kernel) (da_cons (dv 4) (da_nil rfl))) (nomark _)) (dw_or (dt_cmp (od_ne rfl (u64 hr)) (de_callB (cd_repr rfl hG (u64 hr)) (by rfl) t_repr (by decide +kernel) (da_cons (dcR G_read_run (hr.mono (by decide)) (by rfl) (da_cons (dv 4) (da_nil rfl))) (da_nil rfl))) (dv 3) (nomark _)) (dw_or1 (dt_cmp (od_ne rfl (u64 hr)) (de_callB (cd_repr rfl hG (u64 hr)) (by rfl) t_repr (by decide +kernel) (da_cons (dv 5) (da_nil rfl))) (dv 3) (nomark _)))))) (dss_one (ds_ret (de_bl rfl))) (dss_nil rfl))))))
  (dss_one (ds_ret (de_bl rfl)))))) ?_
  rintro p ds R s hl ⟨rfl, rfl, k⟩
  have hdm : dmax = 1000000 := rfl
  have hcq : cq 4 = 18770 := by decide +kernel
  have hr12 : -(2 ^ 62) ≤ (12 : Int) ∧ (12 : Int) < 2 ^ 62 := by decide
  have hr8 : -(2 ^ 62) ≤ (8 : Int) ∧ (8 : Int) < 2 ^ 62 := by decide
  repeat (first | exact Or.inl rfl | refine ⟨Nat.le_of_ble_eq_true rfl, ?_⟩ | refine ⟨rfl, ?_⟩ | refine ⟨trivial, ?_⟩ | refine ⟨Or.inl rfl, ?_⟩ | refine ⟨hr12, ?_⟩ | refine ⟨_, rfl, ?_⟩)
  refine forW_inv (fun j env s' => (∃ a b c d e, env = [some (.v (.o (.ref p))), a, b, c, d, e]) ∧ s' ≤ 20000 * j) _ 0 _ 0 ⟨⟨_, _, _, _, _, rfl⟩, Nat.le_refl _⟩ ?_ ?_ ?_
  · rintro m d env s' hd ⟨⟨a, b, c, d1, e, rfl⟩, hs⟩
    obtain ⟨hm, rfl⟩ := rangeL_get hd
    have hm : m < 12 := hm
    repeat (first | exact Or.inl rfl | refine ⟨Nat.le_of_ble_eq_true rfl, ?_⟩ | refine ⟨rfl, ?_⟩ | refine ⟨trivial, ?_⟩ | refine ⟨Or.inl rfl, ?_⟩ | refine ⟨_, isPot_self _ _, ?_⟩ | refine ⟨_, rfl, ?_⟩)
    refine ⟨by show s' + cq 4 + 200 ≤ dmax; rw [hcq]; omega, fun x ts c s2 hq hc hs2 => ?_⟩
    have hs2 : s2 ≤ s' + cq 4 := hs2
    rw [hcq] at hs2
    have r1 := quest_ok hq
    have r2 := quest_text hq
    have e1 := eqv_self_str (PyData.str (Txt.join sp1 ts)).shown
    have e2 := eqv_self_str x.shown
    repeat (first | exact Or.inl rfl | refine ⟨Nat.le_of_ble_eq_true rfl, ?_⟩ | refine ⟨rfl, ?_⟩ | refine ⟨trivial, ?_⟩ | refine ⟨Or.inl rfl, ?_⟩ | refine ⟨r1, ?_⟩ | refine ⟨_, rfl, ?_⟩)
    refine ⟨x, ts, c, rfl, hq, by decide, ?_⟩
    repeat (first | exact Or.inl rfl | refine ⟨Nat.le_of_ble_eq_true rfl, ?_⟩ | refine ⟨rfl, ?_⟩ | refine ⟨trivial, ?_⟩ | refine ⟨Or.inl rfl, ?_⟩ | refine ⟨_, rfl, ?_⟩)
    refine ⟨x, ts, c, rfl, hq, by decide, ?_⟩
    repeat (first | exact Or.inl rfl | refine ⟨Nat.le_of_ble_eq_true rfl, ?_⟩ | refine ⟨rfl, ?_⟩ | refine ⟨trivial, ?_⟩ | refine ⟨Or.inl rfl, ?_⟩ | refine ⟨r1, ?_⟩ | refine ⟨r2, ?_⟩ | refine ⟨_, rfl, ?_⟩ | rw [e1] | rw [e2])
    refine ⟨ts, x, c, rfl, hq, hc, ?_⟩
    repeat (first | exact Or.inl rfl | refine ⟨Nat.le_of_ble_eq_true rfl, ?_⟩ | refine ⟨rfl, ?_⟩ | refine ⟨trivial, ?_⟩ | refine ⟨Or.inl rfl, ?_⟩ | refine ⟨r1, ?_⟩ | refine ⟨r2, ?_⟩ | refine ⟨_, rfl, ?_⟩ | rw [e1] | rw [e2])
    exact ⟨⟨_, _, _, _, _, rfl⟩, by omega⟩
  · rintro env s' ⟨⟨a, b, c, d1, e, rfl⟩, hs⟩
    rw [rangeL_len] at hs
    have hs : s' ≤ 20000 * 12 := hs
    repeat (first | exact Or.inl rfl | refine ⟨Nat.le_of_ble_eq_true rfl, ?_⟩ | refine ⟨rfl, ?_⟩ | refine ⟨trivial, ?_⟩ | refine ⟨Or.inl rfl, ?_⟩ | refine ⟨hr8, ?_⟩ | refine ⟨_, rfl, ?_⟩)
    refine forW_inv (fun j env s' => (∃ a b c d e, env = [some (.v (.o (.ref p))), a, b, c, d, e]) ∧ s' ≤ 240000 + 1000 * j) _ 0 _ s' ⟨⟨_, _, _, _, _, rfl⟩, by omega⟩ ?_ ?_ ?_
    · rintro m d env s' hd ⟨⟨a, b, c, d1, e, rfl⟩, hs⟩
      obtain ⟨hm, rfl⟩ := rangeL_get hd
      have hm : m < 8 := hm
      repeat (first | exact Or.inl rfl | refine ⟨Nat.le_of_ble_eq_true rfl, ?_⟩ | refine ⟨rfl, ?_⟩ | refine ⟨trivial, ?_⟩ | refine ⟨Or.inl rfl, ?_⟩ | refine ⟨_, isPot_self _ _, ?_⟩ | refine ⟨_, rfl, ?_⟩)
      refine ⟨by omega, fun ps s2 hps hs2 => ?_⟩
      have r1 := run_ok hps
      have r2 := run_text hps
      have e1 := eqv_self_str (PyData.str (runT ps)).shown
      have e2 := eqv_self_str (runX ps).shown
      obtain ⟨X, hX⟩ : ∃ X, runX ps = X := ⟨_, rfl⟩
      obtain ⟨T0, hT⟩ : ∃ T0, runT ps = T0 := ⟨_, rfl⟩
      rw [hX] at r1 e2 ⊢
      rw [hT] at r2 e1
      repeat (first | exact Or.inl rfl | refine ⟨Nat.le_of_ble_eq_true rfl, ?_⟩ | refine ⟨rfl, ?_⟩ | refine ⟨trivial, ?_⟩ | refine ⟨Or.inl rfl, ?_⟩ | refine ⟨r1, ?_⟩ | refine ⟨_, rfl, ?_⟩)
      refine ⟨ps, by rw [hX], hps, ?_⟩
      rw [hT]
      repeat (first | exact Or.inl rfl | refine ⟨Nat.le_of_ble_eq_true rfl, ?_⟩ | refine ⟨rfl, ?_⟩ | refine ⟨trivial, ?_⟩ | refine ⟨Or.inl rfl, ?_⟩ | refine ⟨_, rfl, ?_⟩)
      refine ⟨ps, by rw [hX], hps, ?_⟩
      rw [hT]
      repeat (first | exact Or.inl rfl | refine ⟨Nat.le_of_ble_eq_true rfl, ?_⟩ | refine ⟨rfl, ?_⟩ | refine ⟨trivial, ?_⟩ | refine ⟨Or.inl rfl, ?_⟩ | refine ⟨r1, ?_⟩ | refine ⟨r2, ?_⟩ | refine ⟨_, rfl, ?_⟩ | rw [e1] | rw [e2])
      refine ⟨ps, by rw [hT], hps, ?_⟩
      rw [hX]
      repeat (first | exact Or.inl rfl | refine ⟨Nat.le_of_ble_eq_true rfl, ?_⟩ | refine ⟨rfl, ?_⟩ | refine ⟨trivial, ?_⟩ | refine ⟨Or.inl rfl, ?_⟩ | refine ⟨r1, ?_⟩ | refine ⟨r2, ?_⟩ | refine ⟨_, rfl, ?_⟩ | rw [e1] | rw [e2])
      exact ⟨⟨_, _, _, _, _, rfl⟩, by omega⟩
    · rintro env s' ⟨⟨a, b, c, d1, e, rfl⟩, hs⟩
      repeat (first | exact Or.inl rfl | refine ⟨Nat.le_of_ble_eq_true rfl, ?_⟩ | refine ⟨rfl, ?_⟩ | refine ⟨trivial, ?_⟩ | refine ⟨Or.inl rfl, ?_⟩ | refine ⟨_, rfl, ?_⟩)
      exact Or.inl ⟨_, rfl, k _⟩
    · intro d env
      show Mono _
      repeat' (first | exact mo_ret | exact mo_get | exact mo_ask | exact mo_take | exact mo_of | exact mo_name | exact mo_count | exact mo_fact | exact mo_sq _ | exact mo_rq | exact mo_lrt | exact mo_sr | exact mo_rr | exact mo_run | exact mo_question _ | refine mo_callDW ?_ | refine mo_callRW ?_ | exact mo_question_at _ | exact mo_inTW | exact mo_ixTW | exact mo_callW | exact mo_eqW | exact mo_neW | exact mo_intW | exact mo_plusW | exact mo_isW | exact mo_inW | exact mo_ixW | exact mo_isiW | exact mo_lenW | exact mo_strW | exact mo_intCW | exact mo_allW | exact mo_anyW | exact mo_tupW | exact mo_reprW | exact mo_splitW | exact mo_joinW | exact mo_fmtW | exact mo_range1W | exact mo_range2W | exact mo_parW | refine mo_ite ?_ ?_ | refine mo_headW ?_ | refine mo_seqW ?_ | refine mo_lcW ?_ ?_ ?_ _ _ | refine mo_bnd ?_ (fun _ => ?_) | intro _)
  · intro d env
    show Mono _
    repeat' (first | exact mo_ret | exact mo_get | exact mo_ask | exact mo_take | exact mo_of | exact mo_name | exact mo_count | exact mo_fact | exact mo_sq _ | exact mo_rq | exact mo_lrt | exact mo_sr | exact mo_rr | exact mo_run | exact mo_question _ | refine mo_callDW ?_ | refine mo_callRW ?_ | exact mo_question_at _ | exact mo_inTW | exact mo_ixTW | exact mo_callW | exact mo_eqW | exact mo_neW | exact mo_intW | exact mo_plusW | exact mo_isW | exact mo_inW | exact mo_ixW | exact mo_isiW | exact mo_lenW | exact mo_strW | exact mo_intCW | exact mo_allW | exact mo_anyW | exact mo_tupW | exact mo_reprW | exact mo_splitW | exact mo_joinW | exact mo_fmtW | exact mo_range1W | exact mo_range2W | exact mo_parW | refine mo_ite ?_ ?_ | refine mo_headW ?_ | refine mo_seqW ?_ | refine mo_lcW ?_ ?_ ?_ _ _ | refine mo_bnd ?_ (fun _ => ?_) | intro _)

end
end L2.DD

set_option maxRecDepth 100000
set_option maxHeartbeats 4000000
namespace L2.DD
open PySem PySem.Spec PyProof.Rows
section
variable {P : Program} {w : World} {K : PySem.W.Frag} {mg : Str → Option Value} {base : Heap}
theorem sc_law : FnScope ["script", "k", "pot"] ["script"] (defScope s_law) := ⟨rfl, rfl, rfl, by decide +kernel, rfl, by decide +kernel, by decide +kernel⟩
theorem ok_law {f : Addr} {fd : FuncData} (T : Tx w K mg) (F : Fun K "law" "law" s_law f fd) (GP : DefOk P w K mg base 1 "_law_pot" ["script", "k"] (spPot K)) (GR : DefG P w K mg base 23 "_law_right" ["pot"] (spD K 1 m__law_right)) :
    FnG P w K mg base CX0 (24) f fd ["script"] (spLaw K) := by
  have tRange : mg "range" = none := T.b0 _ (by decide +kernel)
  have tLen : mg "len" = none := T.b0 _ (by decide +kernel)
  have tMax : mg "max" = none := T.b0 _ (by decide +kernel)
  have tMin : mg "min" = none := T.b0 _ (by decide +kernel)
  obtain ⟨fP, fdP, gP, kP, bP, FP⟩ := GP.ex
  obtain ⟨fR, fdR, gR, kR, bR, FR⟩ := GR.ex
  refine fnG_of F sc_law (fun vs H Q E h => ?_) (fun cdv A outer s H vs Q E hG hr h => ?_)
  · obtain ⟨a, ns, rfl, _⟩ := h
    rfl
  · obtain ⟨a, ns, rfl, hS, hl, q⟩ := h
    have hr1 : Room 1 _ := hr.mono (by decide)
    have nd := sc_law.nd
    refine ⟨_, (pss_cons (ps_for PassesOwn.never rfl (pi_range1 rfl tRange (pa_cons (pe_callB (call_max2 rfl) (by rfl) tMax (by decide +kernel) (pa_cons pe_int (pa_cons (pe_callB (call_min2 rfl) (by rfl) tMin (by decide +kernel) (pa_cons pe_int (pa_cons (pe_callB call_len_seq (by rfl) tLen PySem.boot_len (pa_cons (pv 0) pa_nil)) pa_nil))) pa_nil))) pa_nil)) (pg_name (i := 1) nd rfl (Or.inl rfl))
        (pss_cons (ps_set (i := 2) nd rfl (Or.inl rfl) (pe_call FP hr1 (by rfl) gP kP bP .nil pass0 (pa_cons (pv 0) (pa_cons (pv 1) pa_nil))))
        (pss_one (ps_if (pt_not (pt_val (pe_callG FR hG hr rfl gR kR bR (pa_cons (pv 2) pa_nil)))) (pss_one (ps_ret pe_bl)) pss_nil))))
      (pss_one (ps_ret pe_bl))), ?_⟩
    obtain ⟨t, jt, t3⟩ := lim_of ((ns.map V.int).length : Int) 4 (by decide) (by omega)
    refine ⟨_, rfl, a, _, rfl, .inl hS, _, _, rfl, _, _, rfl, _, rfl, ?_⟩
    rw [jt]
    refine ⟨by omega, by omega, ?_⟩
    rw [Int.toNat_natCast]
    refine for_range (lo := 0) (n := t) (fun i σ Hi => ∃ w1 w2 : Option V, σ = [some (.ref a), w1, w2] ∧ Same H Hi) ⟨_, _, rfl, Same.refl _⟩ ?_ ?_
    · rintro i σ Hi hi ⟨w1, w2, rfl, sI⟩
      refine ⟨_, rfl, _, rfl, a, i, ns, by rw [Int.zero_add]; rfl, sqL_same hS sI, by omega, hl, fun p m H1 s1 np hP hm0 hm1 => ?_⟩
      refine ⟨_, rfl, p, m, (fun _ => none), [], 0, (fun d _ => d = .d (.bool true)), rfl, ⟨hP, hm0, hm1⟩, rfl, (fun _ _ z => nomatch z), .cons rfl .nil, ⟨rfl, rfl, fun _ => rfl⟩, ?_⟩
      rintro d s' v G' H' rfl hk hpt hg hgh hgp hfr rv
      have rv : DR K G' v (.bool true) := rv
      cases rv
      refine ⟨_, rfl, ?_⟩
      refine iteF ⟨_, _, rfl, fun b o e => ?_⟩
      exact hk b o (fun z => by rw [z] at e; rw [sI p _ e] at np; cases np) (s1 b o (sI b o e))
    · rintro σ Hi ⟨w1, w2, rfl, sI⟩
      exact q _
theorem kt_strs {q : Addr} {od : Option Addr} {sl : Array (Option Value)} {n : Nat} (xs : List Str) {its : Array Value} (h : K.lookup q = some ⟨.type "tuple", od, .seq its n, sl⟩) (hz : its.size ≤ sizeLine) (hv : Vals (xs.map V.str) its.toList) : ∀ G, DR K G (.ref q) (.tuple (xs.map PyData.str)) := fun G =>
  .tup (.inr ⟨_, its, n, h, rfl, rfl, hz, hv⟩) (DRs.strs xs)
theorem tx_mk {h : Heap} (X : K.In h) (G : h.Ns mainGlobals mg) (b0 : PySem.W.nsIn K mainGlobals "isinstance" = some none) (b1 : PySem.W.nsIn K mainGlobals "str" = some none) (b2 : PySem.W.nsIn K mainGlobals "int" = some none) (b3 : PySem.W.nsIn K mainGlobals "len" = some none) (b4 : PySem.W.nsIn K mainGlobals "all" = some none) (b5 : PySem.W.nsIn K mainGlobals "zip" = some none) (b6 : PySem.W.nsIn K mainGlobals "tuple" = some none) (b7 : PySem.W.nsIn K mainGlobals "range" = some none) (b8 : PySem.W.nsIn K mainGlobals "repr" = some none) (b9 : PySem.W.nsIn K mainGlobals "abs" = some none) (b10 : PySem.W.nsIn K mainGlobals "max" = some none) (b11 : PySem.W.nsIn K mainGlobals "min" = some none) {t_LETTERS : PySem.Tok} (c_LETTERS : PySem.W.nsIn K mainGlobals "LETTERS" = some (some (.str lets t_LETTERS))) {t_LONGEST_NAME : PySem.Tok} (c_LONGEST_NAME : PySem.W.nsIn K mainGlobals "LONGEST_NAME" = some (some (.int 8 t_LONGEST_NAME))) {t_MOST_FACTS : PySem.Tok} (c_MOST_FACTS : PySem.W.nsIn K mainGlobals "MOST_FACTS" = some (some (.int 4 t_MOST_FACTS))) {t_MOST_AROUND : PySem.Tok} (c_MOST_AROUND : PySem.W.nsIn K mainGlobals "MOST_AROUND" = some (some (.int 3 t_MOST_AROUND))) {t_DIGITS : PySem.Tok} (c_DIGITS : PySem.W.nsIn K mainGlobals "DIGITS" = some (some (.str digs t_DIGITS))) {t_MOST_DIGITS : PySem.Tok} (c_MOST_DIGITS : PySem.W.nsIn K mainGlobals "MOST_DIGITS" = some (some (.int 3 t_MOST_DIGITS)))
  {a_JOINERS : Addr} (c_JOINERS : PySem.W.nsIn K mainGlobals "JOINERS" = some (some (.ref a_JOINERS))) {od_JOINERS : Option Addr} {sl_JOINERS : Array (Option Value)} {nn_JOINERS : Nat} {t0_JOINERS t1_JOINERS : PySem.Tok} (j_JOINERS : K.lookup a_JOINERS = some ⟨.type "tuple", od_JOINERS, .seq #[.str "and" t0_JOINERS, .str "or" t1_JOINERS] nn_JOINERS, sl_JOINERS⟩)
  {a_LENGTHS : Addr} {es_LENGTHS : Array DictEntry} {n_LENGTHS : Nat} (c_LENGTHS : PySem.W.nsIn K mainGlobals "LENGTHS" = some (some (.ref a_LENGTHS))) (j_LENGTHS : K.lookup a_LENGTHS = some ⟨.type "dict", none, .dict es_LENGTHS n_LENGTHS, #[]⟩) (y_LENGTHS : PySem.W.KeysLit w.params es_LENGTHS.toList) (o_LENGTHS : (a_LENGTHS == sysModules) = false) {t_LENGTHS_did : PySem.Tok} (i_LENGTHS_did : PySem.W.nsIn K a_LENGTHS "did" = some (some (.int 3 t_LENGTHS_did))) {t_LENGTHS_ahead : PySem.Tok} (i_LENGTHS_ahead : PySem.W.nsIn K a_LENGTHS "ahead" = some (some (.int 3 t_LENGTHS_ahead))) {t_LENGTHS_asked : PySem.Tok} (i_LENGTHS_asked : PySem.W.nsIn K a_LENGTHS "asked" = some (some (.int 3 t_LENGTHS_asked))) {t_LENGTHS_was : PySem.Tok} (i_LENGTHS_was : PySem.W.nsIn K a_LENGTHS "was" = some (some (.int 3 t_LENGTHS_was))) {t_LENGTHS_is : PySem.Tok} (i_LENGTHS_is : PySem.W.nsIn K a_LENGTHS "is" = some (some (.int 3 t_LENGTHS_is))) {t_LENGTHS_by : PySem.Tok} (i_LENGTHS_by : PySem.W.nsIn K a_LENGTHS "by" = some (some (.int 3 t_LENGTHS_by))) {t_LENGTHS_at : PySem.Tok} (i_LENGTHS_at : PySem.W.nsIn K a_LENGTHS "at" = some (some (.int 3 t_LENGTHS_at))) {t_LENGTHS_fell : PySem.Tok} (i_LENGTHS_fell : PySem.W.nsIn K a_LENGTHS "fell" = some (some (.int 2 t_LENGTHS_fell))) {t_LENGTHS_spilt : PySem.Tok} (i_LENGTHS_spilt : PySem.W.nsIn K a_LENGTHS "spilt" = some (some (.int 3 t_LENGTHS_spilt))) {t_LENGTHS_ended : PySem.Tok} (i_LENGTHS_ended : PySem.W.nsIn K a_LENGTHS "ended" = some (some (.int 2 t_LENGTHS_ended))) (i_LENGTHS_not : PySem.W.nsIn K a_LENGTHS "not" = some none) (i_LENGTHS_and : PySem.W.nsIn K a_LENGTHS "and" = some none) (i_LENGTHS_or : PySem.W.nsIn K a_LENGTHS "or" = some none)
  {a_FACTS : Addr} {es_FACTS : Array DictEntry} {n_FACTS : Nat} (c_FACTS : PySem.W.nsIn K mainGlobals "FACTS" = some (some (.ref a_FACTS))) (j_FACTS : K.lookup a_FACTS = some ⟨.type "dict", none, .dict es_FACTS n_FACTS, #[]⟩) (y_FACTS : PySem.W.KeysLit w.params es_FACTS.toList) (o_FACTS : (a_FACTS == sysModules) = false) {q_FACTS_did : Addr} (i_FACTS_did : PySem.W.nsIn K a_FACTS "did" = some (some (.ref q_FACTS_did))) {od_FACTS_did : Option Addr} {sl_FACTS_did : Array (Option Value)} {nn_FACTS_did : Nat} {t0_FACTS_did t1_FACTS_did : PySem.Tok} (j_FACTS_did : K.lookup q_FACTS_did = some ⟨.type "tuple", od_FACTS_did, .seq #[.str "name" t0_FACTS_did, .str "number" t1_FACTS_did] nn_FACTS_did, sl_FACTS_did⟩) {q_FACTS_ahead : Addr} (i_FACTS_ahead : PySem.W.nsIn K a_FACTS "ahead" = some (some (.ref q_FACTS_ahead))) {od_FACTS_ahead : Option Addr} {sl_FACTS_ahead : Array (Option Value)} {nn_FACTS_ahead : Nat} {t0_FACTS_ahead t1_FACTS_ahead : PySem.Tok} (j_FACTS_ahead : K.lookup q_FACTS_ahead = some ⟨.type "tuple", od_FACTS_ahead, .seq #[.str "name" t0_FACTS_ahead, .str "name" t1_FACTS_ahead] nn_FACTS_ahead, sl_FACTS_ahead⟩) {q_FACTS_asked : Addr} (i_FACTS_asked : PySem.W.nsIn K a_FACTS "asked" = some (some (.ref q_FACTS_asked))) {od_FACTS_asked : Option Addr} {sl_FACTS_asked : Array (Option Value)} {nn_FACTS_asked : Nat} {t0_FACTS_asked t1_FACTS_asked : PySem.Tok} (j_FACTS_asked : K.lookup q_FACTS_asked = some ⟨.type "tuple", od_FACTS_asked, .seq #[.str "name" t0_FACTS_asked, .str "number" t1_FACTS_asked] nn_FACTS_asked, sl_FACTS_asked⟩) {q_FACTS_was : Addr} (i_FACTS_was : PySem.W.nsIn K a_FACTS "was" = some (some (.ref q_FACTS_was))) {od_FACTS_was : Option Addr} {sl_FACTS_was : Array (Option Value)} {nn_FACTS_was : Nat} {t0_FACTS_was t1_FACTS_was : PySem.Tok} (j_FACTS_was : K.lookup q_FACTS_was = some ⟨.type "tuple", od_FACTS_was, .seq #[.str "name" t0_FACTS_was, .str "number" t1_FACTS_was] nn_FACTS_was, sl_FACTS_was⟩) {q_FACTS_is : Addr} (i_FACTS_is : PySem.W.nsIn K a_FACTS "is" = some (some (.ref q_FACTS_is))) {od_FACTS_is : Option Addr} {sl_FACTS_is : Array (Option Value)} {nn_FACTS_is : Nat} {t0_FACTS_is t1_FACTS_is : PySem.Tok} (j_FACTS_is : K.lookup q_FACTS_is = some ⟨.type "tuple", od_FACTS_is, .seq #[.str "name" t0_FACTS_is, .str "number" t1_FACTS_is] nn_FACTS_is, sl_FACTS_is⟩) {q_FACTS_by : Addr} (i_FACTS_by : PySem.W.nsIn K a_FACTS "by" = some (some (.ref q_FACTS_by))) {od_FACTS_by : Option Addr} {sl_FACTS_by : Array (Option Value)} {nn_FACTS_by : Nat} {t0_FACTS_by t1_FACTS_by : PySem.Tok} (j_FACTS_by : K.lookup q_FACTS_by = some ⟨.type "tuple", od_FACTS_by, .seq #[.str "name" t0_FACTS_by, .str "none" t1_FACTS_by] nn_FACTS_by, sl_FACTS_by⟩) {q_FACTS_at : Addr} (i_FACTS_at : PySem.W.nsIn K a_FACTS "at" = some (some (.ref q_FACTS_at))) {od_FACTS_at : Option Addr} {sl_FACTS_at : Array (Option Value)} {nn_FACTS_at : Nat} {t0_FACTS_at t1_FACTS_at : PySem.Tok} (j_FACTS_at : K.lookup q_FACTS_at = some ⟨.type "tuple", od_FACTS_at, .seq #[.str "name" t0_FACTS_at, .str "none" t1_FACTS_at] nn_FACTS_at, sl_FACTS_at⟩) {q_FACTS_fell : Addr} (i_FACTS_fell : PySem.W.nsIn K a_FACTS "fell" = some (some (.ref q_FACTS_fell))) {od_FACTS_fell : Option Addr} {sl_FACTS_fell : Array (Option Value)} {nn_FACTS_fell : Nat} {t0_FACTS_fell : PySem.Tok} (j_FACTS_fell : K.lookup q_FACTS_fell = some ⟨.type "tuple", od_FACTS_fell, .seq #[.str "number" t0_FACTS_fell] nn_FACTS_fell, sl_FACTS_fell⟩) {q_FACTS_spilt : Addr} (i_FACTS_spilt : PySem.W.nsIn K a_FACTS "spilt" = some (some (.ref q_FACTS_spilt))) {od_FACTS_spilt : Option Addr} {sl_FACTS_spilt : Array (Option Value)} {nn_FACTS_spilt : Nat} {t0_FACTS_spilt t1_FACTS_spilt : PySem.Tok} (j_FACTS_spilt : K.lookup q_FACTS_spilt = some ⟨.type "tuple", od_FACTS_spilt, .seq #[.str "name" t0_FACTS_spilt, .str "number" t1_FACTS_spilt] nn_FACTS_spilt, sl_FACTS_spilt⟩) {q_FACTS_ended : Addr} (i_FACTS_ended : PySem.W.nsIn K a_FACTS "ended" = some (some (.ref q_FACTS_ended))) {od_FACTS_ended : Option Addr} {sl_FACTS_ended : Array (Option Value)} {nn_FACTS_ended : Nat} {t0_FACTS_ended : PySem.Tok} (j_FACTS_ended : K.lookup q_FACTS_ended = some ⟨.type "tuple", od_FACTS_ended, .seq #[.str "name" t0_FACTS_ended] nn_FACTS_ended, sl_FACTS_ended⟩) (i_FACTS_not : PySem.W.nsIn K a_FACTS "not" = some none) (i_FACTS_and : PySem.W.nsIn K a_FACTS "and" = some none) (i_FACTS_or : PySem.W.nsIn K a_FACTS "or" = some none) : Tx w K mg := by
  refine ⟨fun n hn => ?_, ⟨_, PySem.W.mg_of X G c_LETTERS⟩, ⟨_, PySem.W.mg_of X G c_LONGEST_NAME⟩, ⟨_, PySem.W.mg_of X G c_MOST_FACTS⟩, ⟨_, PySem.W.mg_of X G c_MOST_AROUND⟩, ⟨_, PySem.W.mg_of X G c_JOINERS, kt_strs ["and", "or"] j_JOINERS (Nat.le_of_ble_eq_true rfl) (.cons ⟨_, rfl⟩ (.cons ⟨_, rfl⟩ .nil))⟩, ⟨_, PySem.W.mg_of X G c_LENGTHS, ktd_of ⟨_, _, j_LENGTHS, y_LENGTHS⟩ o_LENGTHS ?_⟩, ⟨_, PySem.W.mg_of X G c_DIGITS⟩, ⟨_, PySem.W.mg_of X G c_MOST_DIGITS⟩, ⟨_, PySem.W.mg_of X G c_FACTS, ktd_of ⟨_, _, j_FACTS, y_FACTS⟩ o_FACTS ?_⟩⟩
  · simp only [List.mem_cons, List.mem_nil_iff, or_false] at hn
    rcases hn with rfl | rfl | rfl | rfl | rfl | rfl | rfl | rfl | rfl | rfl | rfl | rfl
    · exact PySem.W.mg_none_of X G b0
    · exact PySem.W.mg_none_of X G b1
    · exact PySem.W.mg_none_of X G b2
    · exact PySem.W.mg_none_of X G b3
    · exact PySem.W.mg_none_of X G b4
    · exact PySem.W.mg_none_of X G b5
    · exact PySem.W.mg_none_of X G b6
    · exact PySem.W.mg_none_of X G b7
    · exact PySem.W.mg_none_of X G b8
    · exact PySem.W.mg_none_of X G b9
    · exact PySem.W.mg_none_of X G b10
    · exact PySem.W.mg_none_of X G b11
  · exact ⟨⟨_, V.int 3, i_LENGTHS_did, ⟨_, rfl⟩, fun _ => .int _⟩, ⟨⟨_, V.int 3, i_LENGTHS_ahead, ⟨_, rfl⟩, fun _ => .int _⟩, ⟨⟨_, V.int 3, i_LENGTHS_asked, ⟨_, rfl⟩, fun _ => .int _⟩, ⟨⟨_, V.int 3, i_LENGTHS_was, ⟨_, rfl⟩, fun _ => .int _⟩, ⟨⟨_, V.int 3, i_LENGTHS_is, ⟨_, rfl⟩, fun _ => .int _⟩, ⟨⟨_, V.int 3, i_LENGTHS_by, ⟨_, rfl⟩, fun _ => .int _⟩, ⟨⟨_, V.int 3, i_LENGTHS_at, ⟨_, rfl⟩, fun _ => .int _⟩, ⟨⟨_, V.int 2, i_LENGTHS_fell, ⟨_, rfl⟩, fun _ => .int _⟩, ⟨⟨_, V.int 3, i_LENGTHS_spilt, ⟨_, rfl⟩, fun _ => .int _⟩, ⟨⟨_, V.int 2, i_LENGTHS_ended, ⟨_, rfl⟩, fun _ => .int _⟩, ⟨i_LENGTHS_not, ⟨i_LENGTHS_and, ⟨i_LENGTHS_or, trivial⟩⟩⟩⟩⟩⟩⟩⟩⟩⟩⟩⟩⟩
  · exact ⟨⟨_, V.ref q_FACTS_did, i_FACTS_did, rfl, kt_strs ["name", "number"] j_FACTS_did (Nat.le_of_ble_eq_true rfl) (.cons ⟨_, rfl⟩ (.cons ⟨_, rfl⟩ .nil))⟩, ⟨⟨_, V.ref q_FACTS_ahead, i_FACTS_ahead, rfl, kt_strs ["name", "name"] j_FACTS_ahead (Nat.le_of_ble_eq_true rfl) (.cons ⟨_, rfl⟩ (.cons ⟨_, rfl⟩ .nil))⟩, ⟨⟨_, V.ref q_FACTS_asked, i_FACTS_asked, rfl, kt_strs ["name", "number"] j_FACTS_asked (Nat.le_of_ble_eq_true rfl) (.cons ⟨_, rfl⟩ (.cons ⟨_, rfl⟩ .nil))⟩, ⟨⟨_, V.ref q_FACTS_was, i_FACTS_was, rfl, kt_strs ["name", "number"] j_FACTS_was (Nat.le_of_ble_eq_true rfl) (.cons ⟨_, rfl⟩ (.cons ⟨_, rfl⟩ .nil))⟩, ⟨⟨_, V.ref q_FACTS_is, i_FACTS_is, rfl, kt_strs ["name", "number"] j_FACTS_is (Nat.le_of_ble_eq_true rfl) (.cons ⟨_, rfl⟩ (.cons ⟨_, rfl⟩ .nil))⟩, ⟨⟨_, V.ref q_FACTS_by, i_FACTS_by, rfl, kt_strs ["name", "none"] j_FACTS_by (Nat.le_of_ble_eq_true rfl) (.cons ⟨_, rfl⟩ (.cons ⟨_, rfl⟩ .nil))⟩, ⟨⟨_, V.ref q_FACTS_at, i_FACTS_at, rfl, kt_strs ["name", "none"] j_FACTS_at (Nat.le_of_ble_eq_true rfl) (.cons ⟨_, rfl⟩ (.cons ⟨_, rfl⟩ .nil))⟩, ⟨⟨_, V.ref q_FACTS_fell, i_FACTS_fell, rfl, kt_strs ["number"] j_FACTS_fell (Nat.le_of_ble_eq_true rfl) (.cons ⟨_, rfl⟩ .nil)⟩, ⟨⟨_, V.ref q_FACTS_spilt, i_FACTS_spilt, rfl, kt_strs ["name", "number"] j_FACTS_spilt (Nat.le_of_ble_eq_true rfl) (.cons ⟨_, rfl⟩ (.cons ⟨_, rfl⟩ .nil))⟩, ⟨⟨_, V.ref q_FACTS_ended, i_FACTS_ended, rfl, kt_strs ["name"] j_FACTS_ended (Nat.le_of_ble_eq_true rfl) (.cons ⟨_, rfl⟩ .nil)⟩, ⟨i_FACTS_not, ⟨i_FACTS_and, ⟨i_FACTS_or, trivial⟩⟩⟩⟩⟩⟩⟩⟩⟩⟩⟩⟩⟩
theorem all_mk {fa : Addr} {fd : FuncData} (T : Tx w K mg) (D_is_name : Df K mg "is_name" s_is_name ["value"]) (D_facts_in : Df K mg "facts_in" s_facts_in ["question"]) (D_number_in : Df K mg "number_in" s_number_in ["word"]) (D_name_in : Df K mg "name_in" s_name_in ["word", "none"]) (D_show_question : Df K mg "show_question" s_show_question ["question"]) (D_question_in : Df K mg "question_in" s_question_in ["text"]) (D_question_at : Df K mg "question_at" s_question_at ["words", "at", "around"]) (D_joined_at : Df K mg "joined_at" s_joined_at ["words", "at", "many", "start", "around"]) (D_fact_at : Df K mg "fact_at" s_fact_at ["words", "at"]) (D_part_in : Df K mg "part_in" s_part_in ["form", "word"]) (D_show_step : Df K mg "show_step" s_show_step ["step"]) (D_step_in : Df K mg "step_in" s_step_in ["text"]) (D_show_run : Df K mg "show_run" s_show_run ["run"]) (D_run_in : Df K mg "run_in" s_run_in ["text"]) (D_the_one : Df K mg "the_one" s_the_one ["found", "text"]) (D_read_question : Df K mg "read_question" s_read_question ["text"]) (D_read_run : Df K mg "read_run" s_read_run ["text"]) (D__law_pot : Df K mg "_law_pot" s__law_pot ["script", "k"]) (D__law_take : Df K mg "_law_take" s__law_take ["pot", "upto"]) (D__law_of : Df K mg "_law_of" s__law_of ["pot", "some"]) (D__law_name : Df K mg "_law_name" s__law_name ["pot"]) (D__law_count : Df K mg "_law_count" s__law_count ["pot"]) (D__law_fact : Df K mg "_law_fact" s__law_fact ["pot"]) (D__law_question : Df K mg "_law_question" s__law_question ["pot", "left", "deep"]) (D__law_question_text : Df K mg "_law_question_text" s__law_question_text ["thing"]) (D__law_run : Df K mg "_law_run" s__law_run ["pot"]) (D__law_run_text : Df K mg "_law_run_text" s__law_run_text ["run"]) (D__law_right : Df K mg "_law_right" s__law_right ["pot"]) (F0 : Fun K "law" "law" s_law fa fd) (base : Heap) : FnG P w K mg base CX0 24 fa fd ["script"] (spLaw K) := by
  have G_number_in := ok_number_in (P := P) (w := w) (base := base) T D_number_in
  have G_is_name := ok_is_name (P := P) (w := w) (base := base) T D_is_name
  have G_facts_in : DefOk P w K mg base 6 "facts_in" ["question"] (spR K 1 (m_facts_in 5)) := all_facts_in T D_facts_in 5
  have G_name_in := ok_name_in (P := P) (w := w) (base := base) T D_name_in G_is_name
  have G_show_question : DefOk P w K mg base 6 "show_question" ["question"] (spR K 1 (m_show_question 5)) := all_show_question T D_show_question 5
  have G_part_in := ok_part_in (P := P) (w := w) (base := base) T D_part_in G_name_in G_number_in
  have G_fact_at := ok_fact_at (P := P) (w := w) (base := base) T D_fact_at G_part_in
  have G_question_at : DefOk P w K mg base 20 "question_at" ["words", "at", "around"] (spR K 3 (m_question_at 5)) := all_question_at T D_question_at D_joined_at G_fact_at G_number_in 5
  have G_question_in := ok_question_in (P := P) (w := w) (base := base) T D_question_in G_facts_in G_question_at
  have G_show_step := ok_show_step (P := P) (w := w) (base := base) T D_show_step
  have G_step_in := ok_step_in (P := P) (w := w) (base := base) T D_step_in G_number_in
  have G_show_run := ok_show_run (P := P) (w := w) (base := base) T D_show_run G_show_step
  have G_run_in := ok_run_in (P := P) (w := w) (base := base) T D_run_in G_step_in
  have G_the_one := ok_the_one (P := P) (w := w) (base := base) T D_the_one
  have G_read_question := ok_read_question (P := P) (w := w) (base := base) T D_read_question G_question_in G_the_one
  have G_read_run := ok_read_run (P := P) (w := w) (base := base) T D_read_run G_run_in G_the_one
  have G__law_pot := ok__law_pot (P := P) (w := w) (base := base) T D__law_pot
  have G__law_take := ok__law_take (P := P) (w := w) (base := base) T D__law_take
  have G__law_of := ok__law_of (P := P) (w := w) (base := base) T D__law_of G__law_take
  have G__law_name := ok__law_name (P := P) (w := w) (base := base) T D__law_name G__law_of G__law_take
  have G__law_count := ok__law_count (P := P) (w := w) (base := base) T D__law_count G__law_of G__law_take
  have G__law_fact := ok__law_fact (P := P) (w := w) (base := base) T D__law_fact G__law_count G__law_name G__law_of
  have G__law_question : DefOk P w K mg base 15 "_law_question" ["pot", "left", "deep"] (spD K 3 (m__law_question 5)) := all__law_question T D__law_question G__law_fact G__law_take 5
  have G__law_question_text : DefOk P w K mg base 6 "_law_question_text" ["thing"] (spR K 1 (m__law_question_text 5)) := all__law_question_text T D__law_question_text 5
  have G__law_run := ok__law_run (P := P) (w := w) (base := base) T D__law_run G__law_count G__law_of G__law_take
  have G__law_run_text := ok__law_run_text (P := P) (w := w) (base := base) T D__law_run_text
  have G__law_right := ok__law_right (P := P) (w := w) (base := base) T D__law_right G__law_question G__law_question_text G__law_run G__law_run_text G_read_question G_read_run G_show_question G_show_run
  exact ok_law T F0 G__law_pot G__law_right
theorem end_mk {h : Heap} {fa : Addr} (X : K.In h) (G : h.Ns mainGlobals mg) (hfa : mg "law" = some (.ref fa)) (b0 : PySem.W.nsIn K mainGlobals "isinstance" = some none) (b1 : PySem.W.nsIn K mainGlobals "str" = some none) (b2 : PySem.W.nsIn K mainGlobals "int" = some none) (b3 : PySem.W.nsIn K mainGlobals "len" = some none) (b4 : PySem.W.nsIn K mainGlobals "all" = some none) (b5 : PySem.W.nsIn K mainGlobals "zip" = some none) (b6 : PySem.W.nsIn K mainGlobals "tuple" = some none) (b7 : PySem.W.nsIn K mainGlobals "range" = some none) (b8 : PySem.W.nsIn K mainGlobals "repr" = some none) (b9 : PySem.W.nsIn K mainGlobals "abs" = some none) (b10 : PySem.W.nsIn K mainGlobals "max" = some none) (b11 : PySem.W.nsIn K mainGlobals "min" = some none) {t_LETTERS : PySem.Tok} (c_LETTERS : PySem.W.nsIn K mainGlobals "LETTERS" = some (some (.str lets t_LETTERS))) {t_LONGEST_NAME : PySem.Tok} (c_LONGEST_NAME : PySem.W.nsIn K mainGlobals "LONGEST_NAME" = some (some (.int 8 t_LONGEST_NAME))) {t_MOST_FACTS : PySem.Tok} (c_MOST_FACTS : PySem.W.nsIn K mainGlobals "MOST_FACTS" = some (some (.int 4 t_MOST_FACTS))) {t_MOST_AROUND : PySem.Tok} (c_MOST_AROUND : PySem.W.nsIn K mainGlobals "MOST_AROUND" = some (some (.int 3 t_MOST_AROUND))) {t_DIGITS : PySem.Tok} (c_DIGITS : PySem.W.nsIn K mainGlobals "DIGITS" = some (some (.str digs t_DIGITS))) {t_MOST_DIGITS : PySem.Tok} (c_MOST_DIGITS : PySem.W.nsIn K mainGlobals "MOST_DIGITS" = some (some (.int 3 t_MOST_DIGITS)))
  {a_JOINERS : Addr} (c_JOINERS : PySem.W.nsIn K mainGlobals "JOINERS" = some (some (.ref a_JOINERS))) {od_JOINERS : Option Addr} {sl_JOINERS : Array (Option Value)} {nn_JOINERS : Nat} {t0_JOINERS t1_JOINERS : PySem.Tok} (j_JOINERS : K.lookup a_JOINERS = some ⟨.type "tuple", od_JOINERS, .seq #[.str "and" t0_JOINERS, .str "or" t1_JOINERS] nn_JOINERS, sl_JOINERS⟩)
  {a_LENGTHS : Addr} {es_LENGTHS : Array DictEntry} {n_LENGTHS : Nat} (c_LENGTHS : PySem.W.nsIn K mainGlobals "LENGTHS" = some (some (.ref a_LENGTHS))) (j_LENGTHS : K.lookup a_LENGTHS = some ⟨.type "dict", none, .dict es_LENGTHS n_LENGTHS, #[]⟩) (y_LENGTHS : PySem.W.KeysLit w.params es_LENGTHS.toList) (o_LENGTHS : (a_LENGTHS == sysModules) = false) {t_LENGTHS_did : PySem.Tok} (i_LENGTHS_did : PySem.W.nsIn K a_LENGTHS "did" = some (some (.int 3 t_LENGTHS_did))) {t_LENGTHS_ahead : PySem.Tok} (i_LENGTHS_ahead : PySem.W.nsIn K a_LENGTHS "ahead" = some (some (.int 3 t_LENGTHS_ahead))) {t_LENGTHS_asked : PySem.Tok} (i_LENGTHS_asked : PySem.W.nsIn K a_LENGTHS "asked" = some (some (.int 3 t_LENGTHS_asked))) {t_LENGTHS_was : PySem.Tok} (i_LENGTHS_was : PySem.W.nsIn K a_LENGTHS "was" = some (some (.int 3 t_LENGTHS_was))) {t_LENGTHS_is : PySem.Tok} (i_LENGTHS_is : PySem.W.nsIn K a_LENGTHS "is" = some (some (.int 3 t_LENGTHS_is))) {t_LENGTHS_by : PySem.Tok} (i_LENGTHS_by : PySem.W.nsIn K a_LENGTHS "by" = some (some (.int 3 t_LENGTHS_by))) {t_LENGTHS_at : PySem.Tok} (i_LENGTHS_at : PySem.W.nsIn K a_LENGTHS "at" = some (some (.int 3 t_LENGTHS_at))) {t_LENGTHS_fell : PySem.Tok} (i_LENGTHS_fell : PySem.W.nsIn K a_LENGTHS "fell" = some (some (.int 2 t_LENGTHS_fell))) {t_LENGTHS_spilt : PySem.Tok} (i_LENGTHS_spilt : PySem.W.nsIn K a_LENGTHS "spilt" = some (some (.int 3 t_LENGTHS_spilt))) {t_LENGTHS_ended : PySem.Tok} (i_LENGTHS_ended : PySem.W.nsIn K a_LENGTHS "ended" = some (some (.int 2 t_LENGTHS_ended))) (i_LENGTHS_not : PySem.W.nsIn K a_LENGTHS "not" = some none) (i_LENGTHS_and : PySem.W.nsIn K a_LENGTHS "and" = some none) (i_LENGTHS_or : PySem.W.nsIn K a_LENGTHS "or" = some none)
  {a_FACTS : Addr} {es_FACTS : Array DictEntry} {n_FACTS : Nat} (c_FACTS : PySem.W.nsIn K mainGlobals "FACTS" = some (some (.ref a_FACTS))) (j_FACTS : K.lookup a_FACTS = some ⟨.type "dict", none, .dict es_FACTS n_FACTS, #[]⟩) (y_FACTS : PySem.W.KeysLit w.params es_FACTS.toList) (o_FACTS : (a_FACTS == sysModules) = false) {q_FACTS_did : Addr} (i_FACTS_did : PySem.W.nsIn K a_FACTS "did" = some (some (.ref q_FACTS_did))) {od_FACTS_did : Option Addr} {sl_FACTS_did : Array (Option Value)} {nn_FACTS_did : Nat} {t0_FACTS_did t1_FACTS_did : PySem.Tok} (j_FACTS_did : K.lookup q_FACTS_did = some ⟨.type "tuple", od_FACTS_did, .seq #[.str "name" t0_FACTS_did, .str "number" t1_FACTS_did] nn_FACTS_did, sl_FACTS_did⟩) {q_FACTS_ahead : Addr} (i_FACTS_ahead : PySem.W.nsIn K a_FACTS "ahead" = some (some (.ref q_FACTS_ahead))) {od_FACTS_ahead : Option Addr} {sl_FACTS_ahead : Array (Option Value)} {nn_FACTS_ahead : Nat} {t0_FACTS_ahead t1_FACTS_ahead : PySem.Tok} (j_FACTS_ahead : K.lookup q_FACTS_ahead = some ⟨.type "tuple", od_FACTS_ahead, .seq #[.str "name" t0_FACTS_ahead, .str "name" t1_FACTS_ahead] nn_FACTS_ahead, sl_FACTS_ahead⟩) {q_FACTS_asked : Addr} (i_FACTS_asked : PySem.W.nsIn K a_FACTS "asked" = some (some (.ref q_FACTS_asked))) {od_FACTS_asked : Option Addr} {sl_FACTS_asked : Array (Option Value)} {nn_FACTS_asked : Nat} {t0_FACTS_asked t1_FACTS_asked : PySem.Tok} (j_FACTS_asked : K.lookup q_FACTS_asked = some ⟨.type "tuple", od_FACTS_asked, .seq #[.str "name" t0_FACTS_asked, .str "number" t1_FACTS_asked] nn_FACTS_asked, sl_FACTS_asked⟩) {q_FACTS_was : Addr} (i_FACTS_was : PySem.W.nsIn K a_FACTS "was" = some (some (.ref q_FACTS_was))) {od_FACTS_was : Option Addr} {sl_FACTS_was : Array (Option Value)} {nn_FACTS_was : Nat} {t0_FACTS_was t1_FACTS_was : PySem.Tok} (j_FACTS_was : K.lookup q_FACTS_was = some ⟨.type "tuple", od_FACTS_was, .seq #[.str "name" t0_FACTS_was, .str "number" t1_FACTS_was] nn_FACTS_was, sl_FACTS_was⟩) {q_FACTS_is : Addr} (i_FACTS_is : PySem.W.nsIn K a_FACTS "is" = some (some (.ref q_FACTS_is))) {od_FACTS_is : Option Addr} {sl_FACTS_is : Array (Option Value)} {nn_FACTS_is : Nat} {t0_FACTS_is t1_FACTS_is : PySem.Tok} (j_FACTS_is : K.lookup q_FACTS_is = some ⟨.type "tuple", od_FACTS_is, .seq #[.str "name" t0_FACTS_is, .str "number" t1_FACTS_is] nn_FACTS_is, sl_FACTS_is⟩) {q_FACTS_by : Addr} (i_FACTS_by : PySem.W.nsIn K a_FACTS "by" = some (some (.ref q_FACTS_by))) {od_FACTS_by : Option Addr} {sl_FACTS_by : Array (Option Value)} {nn_FACTS_by : Nat} {t0_FACTS_by t1_FACTS_by : PySem.Tok} (j_FACTS_by : K.lookup q_FACTS_by = some ⟨.type "tuple", od_FACTS_by, .seq #[.str "name" t0_FACTS_by, .str "none" t1_FACTS_by] nn_FACTS_by, sl_FACTS_by⟩) {q_FACTS_at : Addr} (i_FACTS_at : PySem.W.nsIn K a_FACTS "at" = some (some (.ref q_FACTS_at))) {od_FACTS_at : Option Addr} {sl_FACTS_at : Array (Option Value)} {nn_FACTS_at : Nat} {t0_FACTS_at t1_FACTS_at : PySem.Tok} (j_FACTS_at : K.lookup q_FACTS_at = some ⟨.type "tuple", od_FACTS_at, .seq #[.str "name" t0_FACTS_at, .str "none" t1_FACTS_at] nn_FACTS_at, sl_FACTS_at⟩) {q_FACTS_fell : Addr} (i_FACTS_fell : PySem.W.nsIn K a_FACTS "fell" = some (some (.ref q_FACTS_fell))) {od_FACTS_fell : Option Addr} {sl_FACTS_fell : Array (Option Value)} {nn_FACTS_fell : Nat} {t0_FACTS_fell : PySem.Tok} (j_FACTS_fell : K.lookup q_FACTS_fell = some ⟨.type "tuple", od_FACTS_fell, .seq #[.str "number" t0_FACTS_fell] nn_FACTS_fell, sl_FACTS_fell⟩) {q_FACTS_spilt : Addr} (i_FACTS_spilt : PySem.W.nsIn K a_FACTS "spilt" = some (some (.ref q_FACTS_spilt))) {od_FACTS_spilt : Option Addr} {sl_FACTS_spilt : Array (Option Value)} {nn_FACTS_spilt : Nat} {t0_FACTS_spilt t1_FACTS_spilt : PySem.Tok} (j_FACTS_spilt : K.lookup q_FACTS_spilt = some ⟨.type "tuple", od_FACTS_spilt, .seq #[.str "name" t0_FACTS_spilt, .str "number" t1_FACTS_spilt] nn_FACTS_spilt, sl_FACTS_spilt⟩) {q_FACTS_ended : Addr} (i_FACTS_ended : PySem.W.nsIn K a_FACTS "ended" = some (some (.ref q_FACTS_ended))) {od_FACTS_ended : Option Addr} {sl_FACTS_ended : Array (Option Value)} {nn_FACTS_ended : Nat} {t0_FACTS_ended : PySem.Tok} (j_FACTS_ended : K.lookup q_FACTS_ended = some ⟨.type "tuple", od_FACTS_ended, .seq #[.str "name" t0_FACTS_ended] nn_FACTS_ended, sl_FACTS_ended⟩) (i_FACTS_not : PySem.W.nsIn K a_FACTS "not" = some none) (i_FACTS_and : PySem.W.nsIn K a_FACTS "and" = some none) (i_FACTS_or : PySem.W.nsIn K a_FACTS "or" = some none)
    {f_is_name : Addr} {od_is_name an_is_name : Option Addr} {sl_is_name : Array (Option Value)} {oc_is_name kV_is_name dc_is_name pm_is_name cd_is_name ct_is_name : Value} (a_is_name : PySem.W.nsIn K mainGlobals "is_name" = some (some (.ref f_is_name))) (l_is_name : K.lookup f_is_name = some ⟨oc_is_name, od_is_name, .func (PySem.W.fnOf "is_name" "is_name" (defArgs s_is_name) (defBody s_is_name) (defScope s_is_name) .none kV_is_name dc_is_name pm_is_name an_is_name cd_is_name ct_is_name), sl_is_name⟩) (c_is_name : PySem.W.codeIn K cd_is_name "is_name" = true) (k_is_name : PySem.W.keepIn K (.ref f_is_name) = true)
    {f_facts_in : Addr} {od_facts_in an_facts_in : Option Addr} {sl_facts_in : Array (Option Value)} {oc_facts_in kV_facts_in dc_facts_in pm_facts_in cd_facts_in ct_facts_in : Value} (a_facts_in : PySem.W.nsIn K mainGlobals "facts_in" = some (some (.ref f_facts_in))) (l_facts_in : K.lookup f_facts_in = some ⟨oc_facts_in, od_facts_in, .func (PySem.W.fnOf "facts_in" "facts_in" (defArgs s_facts_in) (defBody s_facts_in) (defScope s_facts_in) .none kV_facts_in dc_facts_in pm_facts_in an_facts_in cd_facts_in ct_facts_in), sl_facts_in⟩) (c_facts_in : PySem.W.codeIn K cd_facts_in "facts_in" = true) (k_facts_in : PySem.W.keepIn K (.ref f_facts_in) = true)
    {f_number_in : Addr} {od_number_in an_number_in : Option Addr} {sl_number_in : Array (Option Value)} {oc_number_in kV_number_in dc_number_in pm_number_in cd_number_in ct_number_in : Value} (a_number_in : PySem.W.nsIn K mainGlobals "number_in" = some (some (.ref f_number_in))) (l_number_in : K.lookup f_number_in = some ⟨oc_number_in, od_number_in, .func (PySem.W.fnOf "number_in" "number_in" (defArgs s_number_in) (defBody s_number_in) (defScope s_number_in) .none kV_number_in dc_number_in pm_number_in an_number_in cd_number_in ct_number_in), sl_number_in⟩) (c_number_in : PySem.W.codeIn K cd_number_in "number_in" = true) (k_number_in : PySem.W.keepIn K (.ref f_number_in) = true)
    {f_name_in : Addr} {od_name_in an_name_in : Option Addr} {sl_name_in : Array (Option Value)} {oc_name_in kV_name_in dc_name_in pm_name_in cd_name_in ct_name_in : Value} (a_name_in : PySem.W.nsIn K mainGlobals "name_in" = some (some (.ref f_name_in))) (l_name_in : K.lookup f_name_in = some ⟨oc_name_in, od_name_in, .func (PySem.W.fnOf "name_in" "name_in" (defArgs s_name_in) (defBody s_name_in) (defScope s_name_in) .none kV_name_in dc_name_in pm_name_in an_name_in cd_name_in ct_name_in), sl_name_in⟩) (c_name_in : PySem.W.codeIn K cd_name_in "name_in" = true) (k_name_in : PySem.W.keepIn K (.ref f_name_in) = true)
    {f_show_question : Addr} {od_show_question an_show_question : Option Addr} {sl_show_question : Array (Option Value)} {oc_show_question kV_show_question dc_show_question pm_show_question cd_show_question ct_show_question : Value} (a_show_question : PySem.W.nsIn K mainGlobals "show_question" = some (some (.ref f_show_question))) (l_show_question : K.lookup f_show_question = some ⟨oc_show_question, od_show_question, .func (PySem.W.fnOf "show_question" "show_question" (defArgs s_show_question) (defBody s_show_question) (defScope s_show_question) .none kV_show_question dc_show_question pm_show_question an_show_question cd_show_question ct_show_question), sl_show_question⟩) (c_show_question : PySem.W.codeIn K cd_show_question "show_question" = true) (k_show_question : PySem.W.keepIn K (.ref f_show_question) = true)
    {f_question_in : Addr} {od_question_in an_question_in : Option Addr} {sl_question_in : Array (Option Value)} {oc_question_in kV_question_in dc_question_in pm_question_in cd_question_in ct_question_in : Value} (a_question_in : PySem.W.nsIn K mainGlobals "question_in" = some (some (.ref f_question_in))) (l_question_in : K.lookup f_question_in = some ⟨oc_question_in, od_question_in, .func (PySem.W.fnOf "question_in" "question_in" (defArgs s_question_in) (defBody s_question_in) (defScope s_question_in) .none kV_question_in dc_question_in pm_question_in an_question_in cd_question_in ct_question_in), sl_question_in⟩) (c_question_in : PySem.W.codeIn K cd_question_in "question_in" = true) (k_question_in : PySem.W.keepIn K (.ref f_question_in) = true)
    {f_question_at : Addr} {od_question_at an_question_at : Option Addr} {sl_question_at : Array (Option Value)} {oc_question_at kV_question_at dc_question_at pm_question_at cd_question_at ct_question_at : Value} (a_question_at : PySem.W.nsIn K mainGlobals "question_at" = some (some (.ref f_question_at))) (l_question_at : K.lookup f_question_at = some ⟨oc_question_at, od_question_at, .func (PySem.W.fnOf "question_at" "question_at" (defArgs s_question_at) (defBody s_question_at) (defScope s_question_at) .none kV_question_at dc_question_at pm_question_at an_question_at cd_question_at ct_question_at), sl_question_at⟩) (c_question_at : PySem.W.codeIn K cd_question_at "question_at" = true) (k_question_at : PySem.W.keepIn K (.ref f_question_at) = true)
    {f_joined_at : Addr} {od_joined_at an_joined_at : Option Addr} {sl_joined_at : Array (Option Value)} {oc_joined_at kV_joined_at dc_joined_at pm_joined_at cd_joined_at ct_joined_at : Value} (a_joined_at : PySem.W.nsIn K mainGlobals "joined_at" = some (some (.ref f_joined_at))) (l_joined_at : K.lookup f_joined_at = some ⟨oc_joined_at, od_joined_at, .func (PySem.W.fnOf "joined_at" "joined_at" (defArgs s_joined_at) (defBody s_joined_at) (defScope s_joined_at) .none kV_joined_at dc_joined_at pm_joined_at an_joined_at cd_joined_at ct_joined_at), sl_joined_at⟩) (c_joined_at : PySem.W.codeIn K cd_joined_at "joined_at" = true) (k_joined_at : PySem.W.keepIn K (.ref f_joined_at) = true)
    {f_fact_at : Addr} {od_fact_at an_fact_at : Option Addr} {sl_fact_at : Array (Option Value)} {oc_fact_at kV_fact_at dc_fact_at pm_fact_at cd_fact_at ct_fact_at : Value} (a_fact_at : PySem.W.nsIn K mainGlobals "fact_at" = some (some (.ref f_fact_at))) (l_fact_at : K.lookup f_fact_at = some ⟨oc_fact_at, od_fact_at, .func (PySem.W.fnOf "fact_at" "fact_at" (defArgs s_fact_at) (defBody s_fact_at) (defScope s_fact_at) .none kV_fact_at dc_fact_at pm_fact_at an_fact_at cd_fact_at ct_fact_at), sl_fact_at⟩) (c_fact_at : PySem.W.codeIn K cd_fact_at "fact_at" = true) (k_fact_at : PySem.W.keepIn K (.ref f_fact_at) = true)
    {f_part_in : Addr} {od_part_in an_part_in : Option Addr} {sl_part_in : Array (Option Value)} {oc_part_in kV_part_in dc_part_in pm_part_in cd_part_in ct_part_in : Value} (a_part_in : PySem.W.nsIn K mainGlobals "part_in" = some (some (.ref f_part_in))) (l_part_in : K.lookup f_part_in = some ⟨oc_part_in, od_part_in, .func (PySem.W.fnOf "part_in" "part_in" (defArgs s_part_in) (defBody s_part_in) (defScope s_part_in) .none kV_part_in dc_part_in pm_part_in an_part_in cd_part_in ct_part_in), sl_part_in⟩) (c_part_in : PySem.W.codeIn K cd_part_in "part_in" = true) (k_part_in : PySem.W.keepIn K (.ref f_part_in) = true)
    {f_show_step : Addr} {od_show_step an_show_step : Option Addr} {sl_show_step : Array (Option Value)} {oc_show_step kV_show_step dc_show_step pm_show_step cd_show_step ct_show_step : Value} (a_show_step : PySem.W.nsIn K mainGlobals "show_step" = some (some (.ref f_show_step))) (l_show_step : K.lookup f_show_step = some ⟨oc_show_step, od_show_step, .func (PySem.W.fnOf "show_step" "show_step" (defArgs s_show_step) (defBody s_show_step) (defScope s_show_step) .none kV_show_step dc_show_step pm_show_step an_show_step cd_show_step ct_show_step), sl_show_step⟩) (c_show_step : PySem.W.codeIn K cd_show_step "show_step" = true) (k_show_step : PySem.W.keepIn K (.ref f_show_step) = true)
    {f_step_in : Addr} {od_step_in an_step_in : Option Addr} {sl_step_in : Array (Option Value)} {oc_step_in kV_step_in dc_step_in pm_step_in cd_step_in ct_step_in : Value} (a_step_in : PySem.W.nsIn K mainGlobals "step_in" = some (some (.ref f_step_in))) (l_step_in : K.lookup f_step_in = some ⟨oc_step_in, od_step_in, .func (PySem.W.fnOf "step_in" "step_in" (defArgs s_step_in) (defBody s_step_in) (defScope s_step_in) .none kV_step_in dc_step_in pm_step_in an_step_in cd_step_in ct_step_in), sl_step_in⟩) (c_step_in : PySem.W.codeIn K cd_step_in "step_in" = true) (k_step_in : PySem.W.keepIn K (.ref f_step_in) = true)
    {f_show_run : Addr} {od_show_run an_show_run : Option Addr} {sl_show_run : Array (Option Value)} {oc_show_run kV_show_run dc_show_run pm_show_run cd_show_run ct_show_run : Value} (a_show_run : PySem.W.nsIn K mainGlobals "show_run" = some (some (.ref f_show_run))) (l_show_run : K.lookup f_show_run = some ⟨oc_show_run, od_show_run, .func (PySem.W.fnOf "show_run" "show_run" (defArgs s_show_run) (defBody s_show_run) (defScope s_show_run) .none kV_show_run dc_show_run pm_show_run an_show_run cd_show_run ct_show_run), sl_show_run⟩) (c_show_run : PySem.W.codeIn K cd_show_run "show_run" = true) (k_show_run : PySem.W.keepIn K (.ref f_show_run) = true)
    {f_run_in : Addr} {od_run_in an_run_in : Option Addr} {sl_run_in : Array (Option Value)} {oc_run_in kV_run_in dc_run_in pm_run_in cd_run_in ct_run_in : Value} (a_run_in : PySem.W.nsIn K mainGlobals "run_in" = some (some (.ref f_run_in))) (l_run_in : K.lookup f_run_in = some ⟨oc_run_in, od_run_in, .func (PySem.W.fnOf "run_in" "run_in" (defArgs s_run_in) (defBody s_run_in) (defScope s_run_in) .none kV_run_in dc_run_in pm_run_in an_run_in cd_run_in ct_run_in), sl_run_in⟩) (c_run_in : PySem.W.codeIn K cd_run_in "run_in" = true) (k_run_in : PySem.W.keepIn K (.ref f_run_in) = true)
    {f_the_one : Addr} {od_the_one an_the_one : Option Addr} {sl_the_one : Array (Option Value)} {oc_the_one kV_the_one dc_the_one pm_the_one cd_the_one ct_the_one : Value} (a_the_one : PySem.W.nsIn K mainGlobals "the_one" = some (some (.ref f_the_one))) (l_the_one : K.lookup f_the_one = some ⟨oc_the_one, od_the_one, .func (PySem.W.fnOf "the_one" "the_one" (defArgs s_the_one) (defBody s_the_one) (defScope s_the_one) .none kV_the_one dc_the_one pm_the_one an_the_one cd_the_one ct_the_one), sl_the_one⟩) (c_the_one : PySem.W.codeIn K cd_the_one "the_one" = true) (k_the_one : PySem.W.keepIn K (.ref f_the_one) = true)
    {f_read_question : Addr} {od_read_question an_read_question : Option Addr} {sl_read_question : Array (Option Value)} {oc_read_question kV_read_question dc_read_question pm_read_question cd_read_question ct_read_question : Value} (a_read_question : PySem.W.nsIn K mainGlobals "read_question" = some (some (.ref f_read_question))) (l_read_question : K.lookup f_read_question = some ⟨oc_read_question, od_read_question, .func (PySem.W.fnOf "read_question" "read_question" (defArgs s_read_question) (defBody s_read_question) (defScope s_read_question) .none kV_read_question dc_read_question pm_read_question an_read_question cd_read_question ct_read_question), sl_read_question⟩) (c_read_question : PySem.W.codeIn K cd_read_question "read_question" = true) (k_read_question : PySem.W.keepIn K (.ref f_read_question) = true)
    {f_read_run : Addr} {od_read_run an_read_run : Option Addr} {sl_read_run : Array (Option Value)} {oc_read_run kV_read_run dc_read_run pm_read_run cd_read_run ct_read_run : Value} (a_read_run : PySem.W.nsIn K mainGlobals "read_run" = some (some (.ref f_read_run))) (l_read_run : K.lookup f_read_run = some ⟨oc_read_run, od_read_run, .func (PySem.W.fnOf "read_run" "read_run" (defArgs s_read_run) (defBody s_read_run) (defScope s_read_run) .none kV_read_run dc_read_run pm_read_run an_read_run cd_read_run ct_read_run), sl_read_run⟩) (c_read_run : PySem.W.codeIn K cd_read_run "read_run" = true) (k_read_run : PySem.W.keepIn K (.ref f_read_run) = true)
    {f__law_pot : Addr} {od__law_pot an__law_pot : Option Addr} {sl__law_pot : Array (Option Value)} {oc__law_pot kV__law_pot dc__law_pot pm__law_pot cd__law_pot ct__law_pot : Value} (a__law_pot : PySem.W.nsIn K mainGlobals "_law_pot" = some (some (.ref f__law_pot))) (l__law_pot : K.lookup f__law_pot = some ⟨oc__law_pot, od__law_pot, .func (PySem.W.fnOf "_law_pot" "_law_pot" (defArgs s__law_pot) (defBody s__law_pot) (defScope s__law_pot) .none kV__law_pot dc__law_pot pm__law_pot an__law_pot cd__law_pot ct__law_pot), sl__law_pot⟩) (c__law_pot : PySem.W.codeIn K cd__law_pot "_law_pot" = true) (k__law_pot : PySem.W.keepIn K (.ref f__law_pot) = true)
    {f__law_take : Addr} {od__law_take an__law_take : Option Addr} {sl__law_take : Array (Option Value)} {oc__law_take kV__law_take dc__law_take pm__law_take cd__law_take ct__law_take : Value} (a__law_take : PySem.W.nsIn K mainGlobals "_law_take" = some (some (.ref f__law_take))) (l__law_take : K.lookup f__law_take = some ⟨oc__law_take, od__law_take, .func (PySem.W.fnOf "_law_take" "_law_take" (defArgs s__law_take) (defBody s__law_take) (defScope s__law_take) .none kV__law_take dc__law_take pm__law_take an__law_take cd__law_take ct__law_take), sl__law_take⟩) (c__law_take : PySem.W.codeIn K cd__law_take "_law_take" = true) (k__law_take : PySem.W.keepIn K (.ref f__law_take) = true)
    {f__law_of : Addr} {od__law_of an__law_of : Option Addr} {sl__law_of : Array (Option Value)} {oc__law_of kV__law_of dc__law_of pm__law_of cd__law_of ct__law_of : Value} (a__law_of : PySem.W.nsIn K mainGlobals "_law_of" = some (some (.ref f__law_of))) (l__law_of : K.lookup f__law_of = some ⟨oc__law_of, od__law_of, .func (PySem.W.fnOf "_law_of" "_law_of" (defArgs s__law_of) (defBody s__law_of) (defScope s__law_of) .none kV__law_of dc__law_of pm__law_of an__law_of cd__law_of ct__law_of), sl__law_of⟩) (c__law_of : PySem.W.codeIn K cd__law_of "_law_of" = true) (k__law_of : PySem.W.keepIn K (.ref f__law_of) = true)
    {f__law_name : Addr} {od__law_name an__law_name : Option Addr} {sl__law_name : Array (Option Value)} {oc__law_name kV__law_name dc__law_name pm__law_name cd__law_name ct__law_name : Value} (a__law_name : PySem.W.nsIn K mainGlobals "_law_name" = some (some (.ref f__law_name))) (l__law_name : K.lookup f__law_name = some ⟨oc__law_name, od__law_name, .func (PySem.W.fnOf "_law_name" "_law_name" (defArgs s__law_name) (defBody s__law_name) (defScope s__law_name) .none kV__law_name dc__law_name pm__law_name an__law_name cd__law_name ct__law_name), sl__law_name⟩) (c__law_name : PySem.W.codeIn K cd__law_name "_law_name" = true) (k__law_name : PySem.W.keepIn K (.ref f__law_name) = true)
    {f__law_count : Addr} {od__law_count an__law_count : Option Addr} {sl__law_count : Array (Option Value)} {oc__law_count kV__law_count dc__law_count pm__law_count cd__law_count ct__law_count : Value} (a__law_count : PySem.W.nsIn K mainGlobals "_law_count" = some (some (.ref f__law_count))) (l__law_count : K.lookup f__law_count = some ⟨oc__law_count, od__law_count, .func (PySem.W.fnOf "_law_count" "_law_count" (defArgs s__law_count) (defBody s__law_count) (defScope s__law_count) .none kV__law_count dc__law_count pm__law_count an__law_count cd__law_count ct__law_count), sl__law_count⟩) (c__law_count : PySem.W.codeIn K cd__law_count "_law_count" = true) (k__law_count : PySem.W.keepIn K (.ref f__law_count) = true)
    {f__law_fact : Addr} {od__law_fact an__law_fact : Option Addr} {sl__law_fact : Array (Option Value)} {oc__law_fact kV__law_fact dc__law_fact pm__law_fact cd__law_fact ct__law_fact : Value} (a__law_fact : PySem.W.nsIn K mainGlobals "_law_fact" = some (some (.ref f__law_fact))) (l__law_fact : K.lookup f__law_fact = some ⟨oc__law_fact, od__law_fact, .func (PySem.W.fnOf "_law_fact" "_law_fact" (defArgs s__law_fact) (defBody s__law_fact) (defScope s__law_fact) .none kV__law_fact dc__law_fact pm__law_fact an__law_fact cd__law_fact ct__law_fact), sl__law_fact⟩) (c__law_fact : PySem.W.codeIn K cd__law_fact "_law_fact" = true) (k__law_fact : PySem.W.keepIn K (.ref f__law_fact) = true)
    {f__law_question : Addr} {od__law_question an__law_question : Option Addr} {sl__law_question : Array (Option Value)} {oc__law_question kV__law_question dc__law_question pm__law_question cd__law_question ct__law_question : Value} (a__law_question : PySem.W.nsIn K mainGlobals "_law_question" = some (some (.ref f__law_question))) (l__law_question : K.lookup f__law_question = some ⟨oc__law_question, od__law_question, .func (PySem.W.fnOf "_law_question" "_law_question" (defArgs s__law_question) (defBody s__law_question) (defScope s__law_question) .none kV__law_question dc__law_question pm__law_question an__law_question cd__law_question ct__law_question), sl__law_question⟩) (c__law_question : PySem.W.codeIn K cd__law_question "_law_question" = true) (k__law_question : PySem.W.keepIn K (.ref f__law_question) = true)
    {f__law_question_text : Addr} {od__law_question_text an__law_question_text : Option Addr} {sl__law_question_text : Array (Option Value)} {oc__law_question_text kV__law_question_text dc__law_question_text pm__law_question_text cd__law_question_text ct__law_question_text : Value} (a__law_question_text : PySem.W.nsIn K mainGlobals "_law_question_text" = some (some (.ref f__law_question_text))) (l__law_question_text : K.lookup f__law_question_text = some ⟨oc__law_question_text, od__law_question_text, .func (PySem.W.fnOf "_law_question_text" "_law_question_text" (defArgs s__law_question_text) (defBody s__law_question_text) (defScope s__law_question_text) .none kV__law_question_text dc__law_question_text pm__law_question_text an__law_question_text cd__law_question_text ct__law_question_text), sl__law_question_text⟩) (c__law_question_text : PySem.W.codeIn K cd__law_question_text "_law_question_text" = true) (k__law_question_text : PySem.W.keepIn K (.ref f__law_question_text) = true)
    {f__law_run : Addr} {od__law_run an__law_run : Option Addr} {sl__law_run : Array (Option Value)} {oc__law_run kV__law_run dc__law_run pm__law_run cd__law_run ct__law_run : Value} (a__law_run : PySem.W.nsIn K mainGlobals "_law_run" = some (some (.ref f__law_run))) (l__law_run : K.lookup f__law_run = some ⟨oc__law_run, od__law_run, .func (PySem.W.fnOf "_law_run" "_law_run" (defArgs s__law_run) (defBody s__law_run) (defScope s__law_run) .none kV__law_run dc__law_run pm__law_run an__law_run cd__law_run ct__law_run), sl__law_run⟩) (c__law_run : PySem.W.codeIn K cd__law_run "_law_run" = true) (k__law_run : PySem.W.keepIn K (.ref f__law_run) = true)
    {f__law_run_text : Addr} {od__law_run_text an__law_run_text : Option Addr} {sl__law_run_text : Array (Option Value)} {oc__law_run_text kV__law_run_text dc__law_run_text pm__law_run_text cd__law_run_text ct__law_run_text : Value} (a__law_run_text : PySem.W.nsIn K mainGlobals "_law_run_text" = some (some (.ref f__law_run_text))) (l__law_run_text : K.lookup f__law_run_text = some ⟨oc__law_run_text, od__law_run_text, .func (PySem.W.fnOf "_law_run_text" "_law_run_text" (defArgs s__law_run_text) (defBody s__law_run_text) (defScope s__law_run_text) .none kV__law_run_text dc__law_run_text pm__law_run_text an__law_run_text cd__law_run_text ct__law_run_text), sl__law_run_text⟩) (c__law_run_text : PySem.W.codeIn K cd__law_run_text "_law_run_text" = true) (k__law_run_text : PySem.W.keepIn K (.ref f__law_run_text) = true)
    {f__law_right : Addr} {od__law_right an__law_right : Option Addr} {sl__law_right : Array (Option Value)} {oc__law_right kV__law_right dc__law_right pm__law_right cd__law_right ct__law_right : Value} (a__law_right : PySem.W.nsIn K mainGlobals "_law_right" = some (some (.ref f__law_right))) (l__law_right : K.lookup f__law_right = some ⟨oc__law_right, od__law_right, .func (PySem.W.fnOf "_law_right" "_law_right" (defArgs s__law_right) (defBody s__law_right) (defScope s__law_right) .none kV__law_right dc__law_right pm__law_right an__law_right cd__law_right ct__law_right), sl__law_right⟩) (c__law_right : PySem.W.codeIn K cd__law_right "_law_right" = true) (k__law_right : PySem.W.keepIn K (.ref f__law_right) = true)
    {f_law : Addr} {od_law an_law : Option Addr} {sl_law : Array (Option Value)} {oc_law kV_law dc_law pm_law cd_law ct_law : Value} (a_law : PySem.W.nsIn K mainGlobals "law" = some (some (.ref f_law))) (l_law : K.lookup f_law = some ⟨oc_law, od_law, .func (PySem.W.fnOf "law" "law" (defArgs s_law) (defBody s_law) (defScope s_law) .none kV_law dc_law pm_law an_law cd_law ct_law), sl_law⟩) (c_law : PySem.W.codeIn K cd_law "law" = true) (k_law : PySem.W.keepIn K (.ref f_law) = true) :
    ∃ fd : FuncData, (∀ (s : Shared) (v : Value), BindsTo s fd ⟨[v], []⟩ [("script", v)]) ∧ ∀ base : Heap, K.In base → base.Ns mainGlobals mg → (∃ o, base.get? sysModules = some o) → FnG P w K mg base CX0 24 fa fd ["script"] (spLaw K) := by
  have T : Tx w K mg := tx_mk X G b0 b1 b2 b3 b4 b5 b6 b7 b8 b9 b10 b11 c_LETTERS c_LONGEST_NAME c_MOST_FACTS c_MOST_AROUND c_DIGITS c_MOST_DIGITS c_JOINERS j_JOINERS c_LENGTHS j_LENGTHS y_LENGTHS o_LENGTHS i_LENGTHS_did i_LENGTHS_ahead i_LENGTHS_asked i_LENGTHS_was i_LENGTHS_is i_LENGTHS_by i_LENGTHS_at i_LENGTHS_fell i_LENGTHS_spilt i_LENGTHS_ended i_LENGTHS_not i_LENGTHS_and i_LENGTHS_or c_FACTS j_FACTS y_FACTS o_FACTS i_FACTS_did j_FACTS_did i_FACTS_ahead j_FACTS_ahead i_FACTS_asked j_FACTS_asked i_FACTS_was j_FACTS_was i_FACTS_is j_FACTS_is i_FACTS_by j_FACTS_by i_FACTS_at j_FACTS_at i_FACTS_fell j_FACTS_fell i_FACTS_spilt j_FACTS_spilt i_FACTS_ended j_FACTS_ended i_FACTS_not i_FACTS_and i_FACTS_or
  have D_is_name : Df K mg "is_name" s_is_name ["value"] := df_mk X G a_is_name l_is_name c_is_name k_is_name fun _ _ _ _ _ _ us hl => match us, hl with | [_], _ => rfl
  have D_facts_in : Df K mg "facts_in" s_facts_in ["question"] := df_mk X G a_facts_in l_facts_in c_facts_in k_facts_in fun _ _ _ _ _ _ us hl => match us, hl with | [_], _ => rfl
  have D_number_in : Df K mg "number_in" s_number_in ["word"] := df_mk X G a_number_in l_number_in c_number_in k_number_in fun _ _ _ _ _ _ us hl => match us, hl with | [_], _ => rfl
  have D_name_in : Df K mg "name_in" s_name_in ["word", "none"] := df_mk X G a_name_in l_name_in c_name_in k_name_in fun _ _ _ _ _ _ us hl => match us, hl with | [_, _], _ => rfl
  have D_show_question : Df K mg "show_question" s_show_question ["question"] := df_mk X G a_show_question l_show_question c_show_question k_show_question fun _ _ _ _ _ _ us hl => match us, hl with | [_], _ => rfl
  have D_question_in : Df K mg "question_in" s_question_in ["text"] := df_mk X G a_question_in l_question_in c_question_in k_question_in fun _ _ _ _ _ _ us hl => match us, hl with | [_], _ => rfl
  have D_question_at : Df K mg "question_at" s_question_at ["words", "at", "around"] := df_mk X G a_question_at l_question_at c_question_at k_question_at fun _ _ _ _ _ _ us hl => match us, hl with | [_, _, _], _ => rfl
  have D_joined_at : Df K mg "joined_at" s_joined_at ["words", "at", "many", "start", "around"] := df_mk X G a_joined_at l_joined_at c_joined_at k_joined_at fun _ _ _ _ _ _ us hl => match us, hl with | [_, _, _, _, _], _ => rfl
  have D_fact_at : Df K mg "fact_at" s_fact_at ["words", "at"] := df_mk X G a_fact_at l_fact_at c_fact_at k_fact_at fun _ _ _ _ _ _ us hl => match us, hl with | [_, _], _ => rfl
  have D_part_in : Df K mg "part_in" s_part_in ["form", "word"] := df_mk X G a_part_in l_part_in c_part_in k_part_in fun _ _ _ _ _ _ us hl => match us, hl with | [_, _], _ => rfl
  have D_show_step : Df K mg "show_step" s_show_step ["step"] := df_mk X G a_show_step l_show_step c_show_step k_show_step fun _ _ _ _ _ _ us hl => match us, hl with | [_], _ => rfl
  have D_step_in : Df K mg "step_in" s_step_in ["text"] := df_mk X G a_step_in l_step_in c_step_in k_step_in fun _ _ _ _ _ _ us hl => match us, hl with | [_], _ => rfl
  have D_show_run : Df K mg "show_run" s_show_run ["run"] := df_mk X G a_show_run l_show_run c_show_run k_show_run fun _ _ _ _ _ _ us hl => match us, hl with | [_], _ => rfl
  have D_run_in : Df K mg "run_in" s_run_in ["text"] := df_mk X G a_run_in l_run_in c_run_in k_run_in fun _ _ _ _ _ _ us hl => match us, hl with | [_], _ => rfl
  have D_the_one : Df K mg "the_one" s_the_one ["found", "text"] := df_mk X G a_the_one l_the_one c_the_one k_the_one fun _ _ _ _ _ _ us hl => match us, hl with | [_, _], _ => rfl
  have D_read_question : Df K mg "read_question" s_read_question ["text"] := df_mk X G a_read_question l_read_question c_read_question k_read_question fun _ _ _ _ _ _ us hl => match us, hl with | [_], _ => rfl
  have D_read_run : Df K mg "read_run" s_read_run ["text"] := df_mk X G a_read_run l_read_run c_read_run k_read_run fun _ _ _ _ _ _ us hl => match us, hl with | [_], _ => rfl
  have D__law_pot : Df K mg "_law_pot" s__law_pot ["script", "k"] := df_mk X G a__law_pot l__law_pot c__law_pot k__law_pot fun _ _ _ _ _ _ us hl => match us, hl with | [_, _], _ => rfl
  have D__law_take : Df K mg "_law_take" s__law_take ["pot", "upto"] := df_mk X G a__law_take l__law_take c__law_take k__law_take fun _ _ _ _ _ _ us hl => match us, hl with | [_, _], _ => rfl
  have D__law_of : Df K mg "_law_of" s__law_of ["pot", "some"] := df_mk X G a__law_of l__law_of c__law_of k__law_of fun _ _ _ _ _ _ us hl => match us, hl with | [_, _], _ => rfl
  have D__law_name : Df K mg "_law_name" s__law_name ["pot"] := df_mk X G a__law_name l__law_name c__law_name k__law_name fun _ _ _ _ _ _ us hl => match us, hl with | [_], _ => rfl
  have D__law_count : Df K mg "_law_count" s__law_count ["pot"] := df_mk X G a__law_count l__law_count c__law_count k__law_count fun _ _ _ _ _ _ us hl => match us, hl with | [_], _ => rfl
  have D__law_fact : Df K mg "_law_fact" s__law_fact ["pot"] := df_mk X G a__law_fact l__law_fact c__law_fact k__law_fact fun _ _ _ _ _ _ us hl => match us, hl with | [_], _ => rfl
  have D__law_question : Df K mg "_law_question" s__law_question ["pot", "left", "deep"] := df_mk X G a__law_question l__law_question c__law_question k__law_question fun _ _ _ _ _ _ us hl => match us, hl with | [_, _, _], _ => rfl
  have D__law_question_text : Df K mg "_law_question_text" s__law_question_text ["thing"] := df_mk X G a__law_question_text l__law_question_text c__law_question_text k__law_question_text fun _ _ _ _ _ _ us hl => match us, hl with | [_], _ => rfl
  have D__law_run : Df K mg "_law_run" s__law_run ["pot"] := df_mk X G a__law_run l__law_run c__law_run k__law_run fun _ _ _ _ _ _ us hl => match us, hl with | [_], _ => rfl
  have D__law_run_text : Df K mg "_law_run_text" s__law_run_text ["run"] := df_mk X G a__law_run_text l__law_run_text c__law_run_text k__law_run_text fun _ _ _ _ _ _ us hl => match us, hl with | [_], _ => rfl
  have D__law_right : Df K mg "_law_right" s__law_right ["pot"] := df_mk X G a__law_right l__law_right c__law_right k__law_right fun _ _ _ _ _ _ us hl => match us, hl with | [_], _ => rfl
  have e := hfa.symm.trans (PySem.W.mg_of X G a_law)
  cases e
  exact ⟨_, fun s v => .of_eq rfl, fun base _ _ _ => all_mk T D_is_name D_facts_in D_number_in D_name_in D_show_question D_question_in D_question_at D_joined_at D_fact_at D_part_in D_show_step D_step_in D_show_run D_run_in D_the_one D_read_question D_read_run D__law_pot D__law_take D__law_of D__law_name D__law_count D__law_fact D__law_question D__law_question_text D__law_run D__law_run_text D__law_right (fun_mk (st := s_law) l_law c_law k_law) base⟩
end
end L2.DD

open PySem PySem.W PyProof.Rows
set_option maxRecDepth 100000 in
set_option maxHeartbeats 0 in
theorem PySem.Challenge.cw_loggedruns_k86_questions_and_runs_writte_holds : PySem.Challenge.rw_loggedruns_k86_questions_and_runs_writte.Holds := by
  w_on; o_law; k_head; (case hw => w_witness2)
  k_fill
  refine L2.DD.walkG (l := PySem.Challenge.rw_loggedruns_k86_questions_and_runs_writte) (n := 63) (k := 24) (x := "script") (sp := L2.DD.spLaw) rfl (by decide) rfl ⟨by decide, by decide, by decide⟩ (by decide +kernel) (fun w h Y => PySem.W.kIn_of Y) ?F (fun _ _ a ns hl _ hS => ⟨a, ns, rfl, hS, hl, fun _ => rfl⟩)
  intro w mg fa h KX G hmg
  refine' L2.DD.end_mk (w := w) KX G hmg ?b0 ?b1 ?b2 ?b3 ?b4 ?b5 ?b6 ?b7 ?b8 ?b9 ?b10 ?b11 ?c_LETTERS ?c_LONGEST_NAME ?c_MOST_FACTS ?c_MOST_AROUND ?c_DIGITS ?c_MOST_DIGITS ?c_JOINERS ?j_JOINERS ?c_LENGTHS ?j_LENGTHS ?y_LENGTHS ?o_LENGTHS ?i_LENGTHS_did ?i_LENGTHS_ahead ?i_LENGTHS_asked ?i_LENGTHS_was ?i_LENGTHS_is ?i_LENGTHS_by ?i_LENGTHS_at ?i_LENGTHS_fell ?i_LENGTHS_spilt ?i_LENGTHS_ended ?i_LENGTHS_not ?i_LENGTHS_and ?i_LENGTHS_or ?c_FACTS ?j_FACTS ?y_FACTS ?o_FACTS ?i_FACTS_did ?j_FACTS_did ?i_FACTS_ahead ?j_FACTS_ahead ?i_FACTS_asked ?j_FACTS_asked ?i_FACTS_was ?j_FACTS_was ?i_FACTS_is ?j_FACTS_is ?i_FACTS_by ?j_FACTS_by ?i_FACTS_at ?j_FACTS_at ?i_FACTS_fell ?j_FACTS_fell ?i_FACTS_spilt ?j_FACTS_spilt ?i_FACTS_ended ?j_FACTS_ended ?i_FACTS_not ?i_FACTS_and ?i_FACTS_or ?a_is_name ?l_is_name ?c_is_name ?k_is_name ?a_facts_in ?l_facts_in ?c_facts_in ?k_facts_in ?a_number_in ?l_number_in ?c_number_in ?k_number_in ?a_name_in ?l_name_in ?c_name_in ?k_name_in ?a_show_question ?l_show_question ?c_show_question ?k_show_question ?a_question_in ?l_question_in ?c_question_in ?k_question_in ?a_question_at ?l_question_at ?c_question_at ?k_question_at ?a_joined_at ?l_joined_at ?c_joined_at ?k_joined_at ?a_fact_at ?l_fact_at ?c_fact_at ?k_fact_at ?a_part_in ?l_part_in ?c_part_in ?k_part_in ?a_show_step ?l_show_step ?c_show_step ?k_show_step ?a_step_in ?l_step_in ?c_step_in ?k_step_in ?a_show_run ?l_show_run ?c_show_run ?k_show_run ?a_run_in ?l_run_in ?c_run_in ?k_run_in ?a_the_one ?l_the_one ?c_the_one ?k_the_one ?a_read_question ?l_read_question ?c_read_question ?k_read_question ?a_read_run ?l_read_run ?c_read_run ?k_read_run ?a__law_pot ?l__law_pot ?c__law_pot ?k__law_pot ?a__law_take ?l__law_take ?c__law_take ?k__law_take ?a__law_of ?l__law_of ?c__law_of ?k__law_of ?a__law_name ?l__law_name ?c__law_name ?k__law_name ?a__law_count ?l__law_count ?c__law_count ?k__law_count ?a__law_fact ?l__law_fact ?c__law_fact ?k__law_fact ?a__law_question ?l__law_question ?c__law_question ?k__law_question ?a__law_question_text ?l__law_question_text ?c__law_question_text ?k__law_question_text ?a__law_run ?l__law_run ?c__law_run ?k__law_run ?a__law_run_text ?l__law_run_text ?c__law_run_text ?k__law_run_text ?a__law_right ?l__law_right ?c__law_right ?k__law_right ?a_law ?l_law ?c_law ?k_law
  (case b0 => k_is)
  (case b1 => k_is)
  (case b2 => k_is)
  (case b3 => k_is)
  (case b4 => k_is)
  (case b5 => k_is)
  (case b6 => k_is)
  (case b7 => k_is)
  (case b8 => k_is)
  (case b9 => k_is)
  (case b10 => k_is)
  (case b11 => k_is)
  (case c_LETTERS => k_is)
  (case c_LONGEST_NAME => k_is)
  (case c_MOST_FACTS => k_is)
  (case c_MOST_AROUND => k_is)
  (case c_DIGITS => k_is)
  (case c_MOST_DIGITS => k_is)
  (case c_JOINERS => k_is)
  (case j_JOINERS => k_is)
  (case c_LENGTHS => k_is)
  (case j_LENGTHS => k_is)
  (case y_LENGTHS => k_keys)
  (case o_LENGTHS => first | rfl | decide)
  (case i_LENGTHS_did => k_is)
  (case i_LENGTHS_ahead => k_is)
  (case i_LENGTHS_asked => k_is)
  (case i_LENGTHS_was => k_is)
  (case i_LENGTHS_is => k_is)
  (case i_LENGTHS_by => k_is)
  (case i_LENGTHS_at => k_is)
  (case i_LENGTHS_fell => k_is)
  (case i_LENGTHS_spilt => k_is)
  (case i_LENGTHS_ended => k_is)
  (case i_LENGTHS_not => k_is)
  (case i_LENGTHS_and => k_is)
  (case i_LENGTHS_or => k_is)
  (case c_FACTS => k_is)
  (case j_FACTS => k_is)
  (case y_FACTS => k_keys)
  (case o_FACTS => first | rfl | decide)
  (case i_FACTS_did => k_is)
  (case j_FACTS_did => k_is)
  (case i_FACTS_ahead => k_is)
  (case j_FACTS_ahead => k_is)
  (case i_FACTS_asked => k_is)
  (case j_FACTS_asked => k_is)
  (case i_FACTS_was => k_is)
  (case j_FACTS_was => k_is)
  (case i_FACTS_is => k_is)
  (case j_FACTS_is => k_is)
  (case i_FACTS_by => k_is)
  (case j_FACTS_by => k_is)
  (case i_FACTS_at => k_is)
  (case j_FACTS_at => k_is)
  (case i_FACTS_fell => k_is)
  (case j_FACTS_fell => k_is)
  (case i_FACTS_spilt => k_is)
  (case j_FACTS_spilt => k_is)
  (case i_FACTS_ended => k_is)
  (case j_FACTS_ended => k_is)
  (case i_FACTS_not => k_is)
  (case i_FACTS_and => k_is)
  (case i_FACTS_or => k_is)
  (case a_is_name => k_is)
  (case l_is_name => k_is)
  (case c_is_name => k_is)
  (case k_is_name => k_is)
  (case a_facts_in => k_is)
  (case l_facts_in => k_is)
  (case c_facts_in => k_is)
  (case k_facts_in => k_is)
  (case a_number_in => k_is)
  (case l_number_in => k_is)
  (case c_number_in => k_is)
  (case k_number_in => k_is)
  (case a_name_in => k_is)
  (case l_name_in => k_is)
  (case c_name_in => k_is)
  (case k_name_in => k_is)
  (case a_show_question => k_is)
  (case l_show_question => k_is)
  (case c_show_question => k_is)
  (case k_show_question => k_is)
  (case a_question_in => k_is)
  (case l_question_in => k_is)
  (case c_question_in => k_is)
  (case k_question_in => k_is)
  (case a_question_at => k_is)
  (case l_question_at => k_is)
  (case c_question_at => k_is)
  (case k_question_at => k_is)
  (case a_joined_at => k_is)
  (case l_joined_at => k_is)
  (case c_joined_at => k_is)
  (case k_joined_at => k_is)
  (case a_fact_at => k_is)
  (case l_fact_at => k_is)
  (case c_fact_at => k_is)
  (case k_fact_at => k_is)
  (case a_part_in => k_is)
  (case l_part_in => k_is)
  (case c_part_in => k_is)
  (case k_part_in => k_is)
  (case a_show_step => k_is)
  (case l_show_step => k_is)
  (case c_show_step => k_is)
  (case k_show_step => k_is)
  (case a_step_in => k_is)
  (case l_step_in => k_is)
  (case c_step_in => k_is)
  (case k_step_in => k_is)
  (case a_show_run => k_is)
  (case l_show_run => k_is)
  (case c_show_run => k_is)
  (case k_show_run => k_is)
  (case a_run_in => k_is)
  (case l_run_in => k_is)
  (case c_run_in => k_is)
  (case k_run_in => k_is)
  (case a_the_one => k_is)
  (case l_the_one => k_is)
  (case c_the_one => k_is)
  (case k_the_one => k_is)
  (case a_read_question => k_is)
  (case l_read_question => k_is)
  (case c_read_question => k_is)
  (case k_read_question => k_is)
  (case a_read_run => k_is)
  (case l_read_run => k_is)
  (case c_read_run => k_is)
  (case k_read_run => k_is)
  (case a__law_pot => k_is)
  (case l__law_pot => k_is)
  (case c__law_pot => k_is)
  (case k__law_pot => k_is)
  (case a__law_take => k_is)
  (case l__law_take => k_is)
  (case c__law_take => k_is)
  (case k__law_take => k_is)
  (case a__law_of => k_is)
  (case l__law_of => k_is)
  (case c__law_of => k_is)
  (case k__law_of => k_is)
  (case a__law_name => k_is)
  (case l__law_name => k_is)
  (case c__law_name => k_is)
  (case k__law_name => k_is)
  (case a__law_count => k_is)
  (case l__law_count => k_is)
  (case c__law_count => k_is)
  (case k__law_count => k_is)
  (case a__law_fact => k_is)
  (case l__law_fact => k_is)
  (case c__law_fact => k_is)
  (case k__law_fact => k_is)
  (case a__law_question => k_is)
  (case l__law_question => k_is)
  (case c__law_question => k_is)
  (case k__law_question => k_is)
  (case a__law_question_text => k_is)
  (case l__law_question_text => k_is)
  (case c__law_question_text => k_is)
  (case k__law_question_text => k_is)
  (case a__law_run => k_is)
  (case l__law_run => k_is)
  (case c__law_run => k_is)
  (case k__law_run => k_is)
  (case a__law_run_text => k_is)
  (case l__law_run_text => k_is)
  (case c__law_run_text => k_is)
  (case k__law_run_text => k_is)
  (case a__law_right => k_is)
  (case l__law_right => k_is)
  (case c__law_right => k_is)
  (case k__law_right => k_is)
  (case a_law => k_is)
  (case l_law => k_is)
  (case c_law => k_is)
  (case k_law => k_is)
